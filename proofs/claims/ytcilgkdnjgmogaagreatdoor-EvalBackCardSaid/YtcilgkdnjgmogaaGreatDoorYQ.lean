/- A part of the proof. -/
import Derived.Test.YtcilgkdnjgmogaaGreatDoorYP
namespace Go.Proofs.YtcilgkdnjgmogaaGreatDoor
open Go.Proofs.Tryz
set_option maxRecDepth 100000
set_option maxHeartbeats 12800000
set_option linter.all false
variable {A A0:Option Addr} {M:Nat->Prop} {c cp g m n:Nat} {n1 t0:Int} {u:Value} {w w' w1 w2:World}
section
open Go.RowKit Go.MapKept
variable [Prt]
def zvl(fn:Nat)(h:Bool->Bool)(hf:zd3 fn h)(s u:List Int)(x y:Value)(g:Nat)(w:World)(hx:SB w w.heap.size x s)(hy:SB w w.heap.size y u)(hc:w.cell? ⟨g,0,none⟩=some (.func (.func fn) #[] #[])):Calls prog 339 #[x,y,.pointer (some ⟨g,0,none⟩)] w fun e w'=>e=.returned (AV ⟨2,b2i (h (decide (s=u))),0⟩)/\Below w.heap.size w w':=by
 have hc1:=yi w g _ zO hc;obtain⟨hent,HF⟩:=hf;have HF:=aQ HF;unfold Ent at hent;have hlt:=wW w _ hc;clear hc;obtain⟨Ax,cx,rfl,_⟩:=id hx;obtain⟨Ay,cy,rfl,_⟩:=id hy;have KE:Hid (∀w',Below w.heap.size w w'->Calls prog 296 #[.slice Ax s.length cx,.slice Ay u.length cy] w' fun e w''=>e=.returned (.bool (decide (s=u)))/\w'=w''):=fun w' hb=>zo2 _ _ s u w' w'.heap.size (hx.on hb) (hy.on hb);have hB:Below w.heap.size w ((w.alloc zO).drewN 1):=zW (za w zO) 1;have HT:=aQ (yw w 0 0 kB);clear hx hy
 generalize decide (s=u)=q at *
 go_enter func339,ntmps339
 go_wp2_with fail
 go_region_held3(fun w'=>w'.cell? ⟨g,0,none⟩=some (.func (.func fn) #[] #[])) (first|assumption|exact yZ (qZ w.heap.size 0 [_,_,_] w2).1 hlt (yZ hb2 (by simp;omega) hc1)|exact yZ hb2 (by simp;omega) hc1|skip)
  (first|(go_at_call 296;refine(KE.out _ hB).mono ?_;rintro e w' ⟨rfl,rfl⟩)|(refine(HF.out _ _).mono ?_;rintro e w1 ⟨rfl,rfl⟩)|(go_at_call 226;refine(zez _ _).mono ?_;rintro e w2 ⟨rfl,hb2⟩;replace hb2:Below (w.alloc zO).heap.size (w.alloc zO) w2:=(zW (Below.refl _ _) 1).trans hb2;obtain⟨u0,u1,u2,v0,v1,v2⟩:=(HT.out.below hb2 (by simp)).facts))
 have HT2:=HT.out.below hb2 (by simp);go_wp2;refine vS (zP (cs:=[_,_,_]) results339 underlying41 rfl zEl _ _ w.heap.size rfl (World.rangeAt_setCells_same w2 w.heap.size 0 [_,_,_] HT2.2)) rfl ?_;exact⟨rfl,((za w zO).trans (hb2.mono (by simp))).trans (qZ w.heap.size 0 [_,_,_] w2).1⟩
def zpv{v1 v2:Value}{fn:Fn}{p:Value}(h1:v1.oneCell'=true)(h2:v2.oneCell'=true):∀u∈[v1,v2,.func fn #[] #[p]],u.oneCell'=true:=by
 intro u hu;simp only[aC,List.not_mem_nil,or_false]at hu;rcases hu with rfl|rfl|rfl
 ·exact h1
 ·exact h2
 ·rfl
def zns(fn:Nat)(w:World)(e:Ending)(w':World):Prop:=
 ∃v1 v2 g,e=.returned (.agg #[v1,v2,.func (.func 339) #[] #[.pointer (some ⟨g,0,none⟩)]])/\FnV v1/\FnV v2/\w'.cell? ⟨g,0,none⟩=some (.func (.func fn) #[] #[])/\w.heap.size<=g/\Below w.heap.size w w'
def ze1(fn:Nat)(h:Bool->Bool)(hf:zd3 fn h)(w:World):Calls prog 315 #[.func (.func fn) #[] #[]] w (zns fn w):=by
 have hmf:∀(fn:Fn) (first cap:Array Value) (w:World),(Instr.makeFunc fn first cap).run prog w=.ok (.func fn first cap) w:=fun _ _ _ _=>rfl;have hcell:((w.alloc (.cells #[.func (.func fn) #[] #[]] 335)).alloc rO).cell? ⟨w.heap.size,0,none⟩=some (.func (.func fn) #[] #[]):=by
  rw[wy _ _ _ _ _ _ (show((w.alloc (.cells #[.func (.func fn) #[] #[]] 335)).alloc rO).heap[w.heap.size]? =some _ by rw[Below.heap_alloc _ _ _ (by simp)];exact ye w _)];rfl
 have K:=aQ (jJ 337 #[.pointer (some ⟨w.heap.size,0,none⟩)] (fun n=>h (n==0)) (fun k=>k=w.heap.size) _ (by intro k hk;subst hk;simp;omega) (zo3 fn h hf w.heap.size _ hcell));have HT0:((w.alloc (.cells #[.func (.func fn) #[] #[]] 335)).alloc rO).there (w.heap.size+1) 0 3:=xJ (cs:=[.nilFunc,.nilFunc,.nilFunc]) (by have:=ye (w.alloc (.cells #[.func (.func fn) #[] #[]] 335)) rO;simpa using this) rfl;have HC:=aQ hcell;clear hcell;go_enter func315,ntmps315
 go_wp2_with fail
 refine K.out.mono ?_;rintro e w1 ⟨v,rfl,hv,hlt,hb1⟩;have HT:=zG HT0 hb1 (by simp);obtain⟨fn',caps,rfl,_⟩:=hv;clear K
 go_wp2_with(refine zi zH rfl (.tmp 2) (.tmp 7) rfl rfl (w.heap.size+1) rfl [_,_,_] rfl rfl HT (by simp[Value.oneCell']) ?_;intro w2 g1 g2 g3 g4 g5)
 refine vS (zU (cs:=[_,_,_]) results315 underlying319 rfl zH _ _ (w.heap.size+1) rfl g1) rfl ?_;refine⟨_,_,w.heap.size,rfl,.fn _ _,.fn _ _,?_,aR _,((xD w _ _).trans (hb1.mono (by simp;omega))).trans (g3.mono (by omega))⟩;have hc1:=yZ hb1 (by simp;omega) HC.out;rw[yp (a:=⟨w.heap.size,0,none⟩) (w:=w1) (g4 w.heap.size (by omega))];exact hc1
def zp6(w:World):Calls prog 290 #[.string ⟨#[61,61]⟩] w (zns 316 w):=by
 go_enter func290,ntmps290
 go_wp2_with fail
 refine(ze1 316 _ zpn _).mono ?_;rintro e w1 ⟨v1,v2,g,rfl,h1,h2,h3,h4,hb1⟩;have HT:=zG (qB w) hb1 (by simp);have HC:=aQ h3;have HV1:=aQ h1;have HV2:=aQ h2;have o1:=h1.one;have o2:=h2.one;clear h1 h2 h3
 go_wp2_with(refine zi zH rfl (.tmp 2) (.tmp 39) rfl rfl w.heap.size rfl [_,_,_] rfl rfl HT (zpv o1 o2) ?_;intro w2 g1 g2 g3 g4 g5)
 refine vS (zU (cs:=[_,_,_]) results290 underlying319 rfl zH _ _ w.heap.size rfl g1) rfl ?_;simp only[aE]at h4;refine⟨_,_,g,rfl,HV1.out,HV2.out,?_,by omega,((za w rO).trans (hb1.mono (by simp))).trans g3⟩;rw[yp (a:=⟨g,0,none⟩) (w:=w1) (g4 g (by omega))];exact HC.out
def zq1(w:World):Calls prog 290 #[.string ⟨#[33,61]⟩] w (zns 317 w):=by
 go_enter func290,ntmps290
 go_wp2_with fail
 refine(ze1 317 _ zqf _).mono ?_;rintro e w1 ⟨v1,v2,g,rfl,h1,h2,h3,h4,hb1⟩;have HT:=zG (qB w) hb1 (by simp);have HC:=aQ h3;have HV1:=aQ h1;have HV2:=aQ h2;have o1:=h1.one;have o2:=h2.one;clear h1 h2 h3
 go_wp2_with(refine zi zH rfl (.tmp 2) (.tmp 42) rfl rfl w.heap.size rfl [_,_,_] rfl rfl HT (zpv o1 o2) ?_;intro w2 g1 g2 g3 g4 g5)
 refine vS (zU (cs:=[_,_,_]) results290 underlying319 rfl zH _ _ w.heap.size rfl g1) rfl ?_;simp only[aE]at h4;refine⟨_,_,g,rfl,HV1.out,HV2.out,?_,by omega,((za w rO).trans (hb1.mono (by simp))).trans g3⟩;rw[yp (a:=⟨g,0,none⟩) (w:=w1) (g4 g (by omega))];exact HC.out
def zt4(S:ByteArray)(fn:Nat)(h:Bool->Bool)(hf:zd3 fn h)(hrow:∀w,Calls prog 290 #[.string S] w (zns fn w))(A B:Option Addr)(c d:Nat)(s u:List Int)(w:World)(h1:SB w w.heap.size (.slice A s.length c) s)(h2:SB w w.heap.size (.slice B u.length d) u):Calls prog 262 #[.string S,VV 3 0 (.slice A s.length c),VV 3 0 (.slice B u.length d)] w fun e w'=>e=.returned (AV ⟨2,b2i (h (decide (s=u))),0⟩)/\Below w.heap.size w w':=by
 have H0:=aQ (jx w 3 0 3 0 (.slice A s.length c) (.slice B u.length d));have hq:=fun fn caps w=>zea 317 underlying317 ⟨_,_,_,rfl⟩ fn caps w;have K:Hid (∀w' g,Below w.heap.size w w'->w'.cell? ⟨g,0,none⟩=some (.func (.func fn) #[] #[])->Calls prog 339 #[.slice A s.length c,.slice B u.length d,.pointer (some ⟨g,0,none⟩)] w' fun e w''=>e=.returned (AV ⟨2,b2i (h (decide (s=u))),0⟩)/\Below w'.heap.size w' w''):=fun w' g hb hc=>zvl fn h hf s u _ _ g w' (h1.on hb) (h2.on hb) hc;have HRow:=aQ hrow;clear h1 h2 hrow
 generalize b2i (h (decide (s=u)))=q at *
 go_enter func262,ntmps262
 go_wp2_with fail
 refine(HRow.out _).mono ?_;rintro e w1 ⟨v1,v2,g,rfl,f1,f2,f3,f4,hb1⟩;have H1:=aQ (H0.out.below hb1);have o1:=f1.one;have o2:=f2.one;have F3:=aQ f3;have hgl:=wW w1 _ f3;clear hb1 H0 f1 f2 f3
 go_wp2_with(refine zi zH rfl (.tmp 8) (.tmp 16) rfl rfl w1.heap.size rfl [_,_,_] rfl rfl (qB w1) (zpv o1 o2) ?_;intro w2 g1 g2 g3 g4 g5;have hb2:Below w1.heap.size w1 w2:=(za w1 rO).trans g3;obtain⟨x0,x1,x2⟩:=(H1.out.below hb2).x.cells;obtain⟨y0,y1,y2⟩:=(H1.out.below hb2).y.cells;obtain⟨r0,r1,r2⟩:=kP g1;clear g1 g2 g3 g4 g5)
 have H2:=aQ (H1.out.below hb2);have hc2:=zb F3.out hb2;refine(K.out _ g H2.out.bl hc2).mono ?_;rintro e w3 ⟨rfl,hb3⟩;have H3:=aQ (H2.out.below hb3);clear x0 x1 x2 y0 y1 y2 r0 r1 r2 hb2 hb3 hc2
 go_wp2_with(refine zi zEl rfl (.tmp 6) (.tmp 68) rfl rfl (w.heap.size+1+1) rfl [_,_,_] rfl rfl H3.out.z.2 (by simp[Value.oneCell']) ?_;intro w4 g1 g2 g3 g4 g5)
 refine vS (zP (cs:=[_,_,_]) results262 underlying41 rfl zEl _ _ (w.heap.size+1+1) rfl g1) rfl ?_;exact⟨rfl,H3.out.bl.trans (g3.mono (by omega))⟩
variable [Prt]
def zn8(w:World)(p:Va×Int)(e:Ending)(w':World):Prop:=∃t n A m c,e=.returned (.tuple #[VV t n (.slice A m c),.int .i64 p.2])/\VaC w' p.1 (VV t n (.slice A m c))/\Below w.heap.size w w'
def kX{t n e:Int}(hf:fits n)(hb:Below w.heap.size w w'){p:Va×Int}(hp:p=(⟨t,n,[]⟩,e)):zn8 w p (.returned (AV ⟨t,n,e⟩)) w':=by
 subst hp;exact⟨t,n,none,0,0,rfl,⟨_,rfl,SB.nil _ _,hf,by simp⟩,hb⟩
def xp(b:Bool):fits (b2i b):=by unfold fits b2i;split<;>omega
def xM{v:Va}(h:VaC w v u):∃A c,u=VV v.t v.n (.slice A v.s.length c)/\SB w w.heap.size (.slice A v.s.length c) v.s/\Vok v:=by
 obtain⟨k,A,c,rfl,rfl,h1,h2⟩:=zbj h;exact⟨A,c,rfl,h1,h2⟩
def yX(x:Int):fitI x=(⟨(vJ x).t,(vJ x).n,[]⟩,(vJ x).e):=by
 by_cases h:fits x
 ·rw[kI h];unfold fitI;rw[if_pos (show -9223372036854775808<=x/\x<=9223372036854775807 from h)];rfl
 ·rw[jk h];unfold fitI;rw[if_neg (show ¬(-9223372036854775808<=x/\x<=9223372036854775807) from h)];rfl
def zg1{f:Int->Int->Int}(a b:Int):divI f a b=(⟨(x9 f a b).t,(x9 f a b).n,[]⟩,(x9 f a b).e):=by
 unfold divI x9;by_cases h:b=0
 ·rw[if_pos h,if_pos h];rfl
 ·rw[if_neg h,if_neg h];by_cases h':a=-9223372036854775808/\b=-1
  ·rw[if_pos h',if_pos h'];rfl
  ·rw[if_neg h',if_neg h'];rfl
def kg(b:Bool):truE b=(⟨2,b2i b,[]⟩,0):=by cases b<;>rfl
def yU(x:Int):fits (vJ x).n:=by
 unfold vJ
 split
 ·assumption
 ·show fits 0;unfold fits;omega
def zd2{f:Int->Int->Int}{a b:Int}(ha:fits a)(hb:fits b)(hf:b≠0->¬(a=-9223372036854775808/\b=-1)->fits (f a b)):fits (x9 f a b).n:=by
 unfold x9
 split
 ·show fits 0;unfold fits;omega
 ·split
  ·show fits 0;unfold fits;omega
  ·exact hf (by assumption) (by assumption)
def ztw(a b:Int):decide (ord a b<0)=decide (a<b):=by unfold ord;split<;>(try split)<;>simp<;>omega
def zun(a b:Int):decide (ord a b<=0)=decide (a<=b):=by unfold ord;split<;>(try split)<;>simp<;>omega
def zr8(a b:Int):decide (0<ord a b)=decide (b<a):=by unfold ord;split<;>(try split)<;>simp<;>omega
def zr1(a b:Int):decide (0<=ord a b)=decide (b<=a):=by unfold ord;split<;>(try split)<;>simp<;>omega
def zo9(a b:Int):(ord a b==0)=decide (a=b):=by unfold ord;split<;>(try split)<;>simp<;>omega
def zrw(S:ByteArray)(f:Bool->Bool->Bool)(hrow:∀w,Calls prog 290 #[.string S] w (RowB f w))(a b:Int)(A B:Option Addr)(n m c d:Nat)(w:World):Calls prog 262 #[.string S,VV 2 a (.slice A n c),VV 2 b (.slice B m d)] w fun e w'=>e=.returned (AV ⟨2,b2i (f (a==1) (b==1)),0⟩)/\Below w.heap.size w w':=by
 have H0:=aQ (jx w 2 a 2 b (.slice A n c) (.slice B m d));have HR:=aQ hrow;clear hrow;have hq:=fun fn caps w=>zea 316 underlying316 ⟨_,_,_,rfl⟩ fn caps w;go_enter func262,ntmps262
 go_wp2_with fail
 refine(HR.out _).mono ?_;rintro e w1 ⟨D,v1,v2,v3,rfl,hD,h1,h2,h3,hb1⟩;have H1:=aQ (H0.out.below hb1);have o3:=h3.one;have o1:=h1.one;obtain⟨fn,caps,rfl,hent,hcall⟩:=h2;unfold Ent at hent;have HC:=aQ hcall;have HD:=aQ hD;clear hcall hD h1 h3 hb1 H0
 go_wp2_with(refine zi zH rfl (.tmp 8) (.tmp 16) rfl rfl w1.heap.size rfl [_,_,_] rfl rfl (qB w1) (by simp[o1,o3];rfl) ?_;intro w2 g1 g2 g3 g4 g5;have hb2:Below w1.heap.size w1 w2:=(za w1 rO).trans g3;obtain⟨x0,x1,x2⟩:=(H1.out.below hb2).x.cells;obtain⟨y0,y1,y2⟩:=(H1.out.below hb2).y.cells;obtain⟨r0,r1,r2⟩:=kP g1;have HG:=aQ (And.intro g1 g5);clear g1 g2 g3 g4 g5)
 have H2:=aQ (H1.out.below hb2);have hs1:=H1.out.sz;have hs2:w2.heap.size=w1.heap.size+1:=by have:=HG.out.2;simpa using this
 have hbl:Below w2.heap.size w2 w2.drew:=(Below.refl _ _).drew;have HD0:Hid (∀k,(k<w2.heap.size/\k≠w.heap.size+1+1)->k<w2.heap.size):=fun k hk=>hk.1
 have HS:Hid (∀w',Kept (fun k=>k<w2.heap.size/\k≠w.heap.size+1+1) w2 w'->(w'.cell? ⟨w1.heap.size,1,none⟩=some (.func (.func fn) #[] caps)/\(w'.cell? ⟨w.heap.size,0,none⟩=some (.int .i64 2)/\w'.cell? ⟨w.heap.size,1,none⟩=some (.int .i64 a)/\w'.cell? ⟨w.heap.size,2,none⟩=some (.slice A n c))/\(w'.cell? ⟨w.heap.size+1,0,none⟩=some (.int .i64 2)/\w'.cell? ⟨w.heap.size+1,1,none⟩=some (.int .i64 b)/\w'.cell? ⟨w.heap.size+1,2,none⟩=some (.slice B m d)))):=
 fun w' hk=>⟨hk.cell' (a:=⟨w1.heap.size,1,none⟩) ⟨by show w1.heap.size<_;omega,by show w1.heap.size≠_;omega⟩ r1,At6.keptc hk ⟨by omega,by omega⟩ H2.out.x,At6.keptc hk ⟨by omega,by omega⟩ H2.out.y⟩
 have HK:Hid (∀w',Below w2.heap.size w2 w'->Kept D w1 w'):=fun w' hb k hk=>⟨HD.out k hk,by rw[hb.block k (by have:=HD.out k hk;omega),hb2.block k (HD.out k hk)]⟩;have HZ:Hid (w.heap.size+1+1<w2.heap.size):=by show _<_;omega
 clear x0 x1 x2 y0 y1 y2 r0 r1 r2 hs1 hs2
 go_region_held3(fun w'=>w'.cell? ⟨w1.heap.size,1,none⟩=some (.func (.func fn) #[] caps)/\(w'.cell? ⟨w.heap.size,0,none⟩=some (.int .i64 2)/\w'.cell? ⟨w.heap.size,1,none⟩=some (.int .i64 a)/\w'.cell? ⟨w.heap.size,2,none⟩=some (.slice A n c))/\(w'.cell? ⟨w.heap.size+1,0,none⟩=some (.int .i64 2)/\w'.cell? ⟨w.heap.size+1,1,none⟩=some (.int .i64 b)/\w'.cell? ⟨w.heap.size+1,2,none⟩=some (.slice B m d)))
 (first|exact HS.out _ (Kept.of hbl HD0.out)|exact HS.out _ ((Kept.of hbl HD0.out).cells (g:=w.heap.size+1+1) (o:=0) (fun h=>h.2 rfl) [_,_,_]))
 (first|(go_at_call 291;refine(zls _ _ _ _).mono ?_;rintro e wn ⟨rfl,hbn⟩;replace hbl:=hbl.trans (hbn.mono hbl.size))|(go_at_call 226;refine(zez _ _).mono ?_;rintro e wn ⟨rfl,hbn⟩;replace hbl:=hbl.trans (hbn.mono hbl.size);obtain⟨u0,u1,u2,v0,v1,v2⟩:=(H2.out.z.below hbl HZ.out).facts)|(refine(HC.out _ _ _ (HK.out _ hbl)).mono ?_;rintro e wn ⟨rfl,hbn⟩;replace hbl:=hbl.trans (hbn.mono hbl.size)))
 have HT2:=(H2.out.z.below hbl HZ.out).2;have HB:Hid (Below w.heap.size w wn):=H2.out.bl.trans (hbl.mono (by have:=HZ.out;omega));go_wp2;refine vS (zP (cs:=[_,_,_]) results262 underlying41 rfl zEl _ _ (w.heap.size+1+1) rfl (World.rangeAt_setCells_same wn (w.heap.size+1+1) 0 [_,_,_] HT2)) rfl ?_;exact⟨rfl,HB.out.trans ((qZ (w.heap.size+1+1) 0 [_,_,_] wn).1.mono (by omega))⟩
def zcp(S:List Nat)(v u:Va)(p:Va×Int)(h:twoE S v u=some p)(w:World)(V U:Value)(hv:VaC w v V)(hu:VaC w u U):Calls prog 262 #[.string (strN S),V,U] w (zn8 w p):=by
 obtain⟨A,c,rfl,hA,okv,lv⟩:=xM hv;obtain⟨B,d,rfl,hB,oku,lu⟩:=xM hu;obtain⟨vt,vn,vs⟩:=v;obtain⟨ut,un,us⟩:=u
 dsimp only at *
 unfold twoE at h;by_cases h1:vt=1/\ut=1
 ·rw[if_pos h1]at h;obtain⟨rfl,rfl⟩:=h1;dsimp only at h;have hint:∀(S:List Nat) (f:Int->Int->Ans) (q:Va×Int),(∀w,Calls prog 290 #[.string (strN S)] w (RowI f w))->q=(⟨(f vn un).t,(f vn un).n,[]⟩,(f vn un).e)->fits (f vn un).n->Calls prog 262 #[.string (strN S),VV 1 vn (.slice A vs.length c),VV 1 un (.slice B us.length d)] w (zn8 w q):=by
   intro S f q hr hq hf;refine(twoI (strN S) f hr vn un _ _ w okv oku).mono ?_;rintro e w' ⟨rfl,hb⟩;exact kX hf hb hq
  by_cases e1:S=[43]
  ·rw[if_pos e1]at h;injection h with h;subst h e1
   exact hint _ _ _ zoi (yX _) (yU _)
  rw[if_neg e1]at h;by_cases e2:S=[45]
  ·rw[if_pos e2]at h;injection h with h;subst h e2
   exact hint _ _ _ zki (yX _) (yU _)
  rw[if_neg e2]at h;by_cases e3:S=[42]
  ·rw[if_pos e3]at h;injection h with h;subst h e3
   exact hint _ _ _ zl5 (yX _) (yU _)
  rw[if_neg e3]at h;by_cases e4:S=[47]
  ·rw[if_pos e4]at h;injection h with h;subst h e4
   exact hint _ _ _ zpt (zg1 _ _) (zd2 okv oku fun h0 h=>tdiv_fits' okv h0 h)
  rw[if_neg e4]at h;by_cases e5:S=[37]
  ·rw[if_pos e5]at h;injection h with h;subst h e5
   exact hint _ _ _ zrn (zg1 _ _) (zd2 okv oku fun h0 h=>zee okv)
  rw[if_neg e5]at h;by_cases e6:S=[60]
  ·rw[if_pos e6]at h;injection h with h;subst h e6
   refine hint _ _ _ zuz ?_ (xp _);show _=((⟨2,b2i (decide (ord vn un<0)),[]⟩:Va),(0:Int));rw[ztw];exact kg _
  rw[if_neg e6]at h;by_cases e7:S=[60,61]
  ·rw[if_pos e7]at h;injection h with h;subst h e7
   refine hint _ _ _ zsy ?_ (xp _);show _=((⟨2,b2i (decide (ord vn un<=0)),[]⟩:Va),(0:Int));rw[zun];exact kg _
  rw[if_neg e7]at h;by_cases e8:S=[62]
  ·rw[if_pos e8]at h;injection h with h;subst h e8
   refine hint _ _ _ zsm ?_ (xp _);show _=((⟨2,b2i (decide (0<ord vn un)),[]⟩:Va),(0:Int));rw[zr8];exact kg _
  rw[if_neg e8]at h;by_cases e9:S=[62,61]
  ·rw[if_pos e9]at h;injection h with h;subst h e9
   refine hint _ _ _ zsg ?_ (xp _);show _=((⟨2,b2i (decide (0<=ord vn un)),[]⟩:Va),(0:Int));rw[zr1];exact kg _
  rw[if_neg e9]at h;by_cases e10:S=[61,61]
  ·rw[if_pos e10]at h;injection h with h;subst h e10
   refine hint _ (jW fun n=>n==0) _ (fun w=>(zo5 w).mono fun e w' r=>r.ints) ?_ (xp _);show _=((⟨2,b2i (ord vn un==0),[]⟩:Va),(0:Int));rw[zo9];exact kg _
  rw[if_neg e10]at h;by_cases e11:S=[33,61]
  ·rw[if_pos e11]at h;injection h with h;subst h e11
   refine hint _ (jW fun n=>!(n==0)) _ (fun w=>(zpb w).mono fun e w' r=>r.ints) ?_ (xp _);show _=((⟨2,b2i (!(ord vn un==0)),[]⟩:Va),(0:Int));rw[zo9];exact kg _
  rw[if_neg e11]at h;cases h
 rw[if_neg h1]at h;by_cases h2:vt=2/\ut=2
 ·rw[if_pos h2]at h;obtain⟨rfl,rfl⟩:=h2;dsimp only at h;by_cases e1:S=[61,61]
  ·rw[if_pos e1]at h;injection h with h;subst h e1
   refine(zrw (strN [61,61]) (fun a b=>a==b) (fun w=>(zo5 w).mono fun e w' r=>r.bools) vn un A B vs.length us.length c d w).mono ?_;rintro e w' ⟨rfl,hb⟩;exact kX (xp _) hb (kg _)
  rw[if_neg e1]at h;by_cases e2:S=[33,61]
  ·rw[if_pos e2]at h;injection h with h;subst h e2
   refine(zrw (strN [33,61]) (fun a b=>!(a==b)) (fun w=>(zpb w).mono fun e w' r=>r.bools) vn un A B vs.length us.length c d w).mono ?_;rintro e w' ⟨rfl,hb⟩;exact kX (xp _) hb (kg _)
  rw[if_neg e2]at h;cases h
 rw[if_neg h2]at h;by_cases h3:vt=3/\ut=3/\vn=0/\un=0
 ·rw[if_pos h3]at h;obtain⟨rfl,rfl,rfl,rfl⟩:=h3;dsimp only at h;by_cases e1:S=[43]
  ·rw[if_pos e1]at h;injection h with h;subst h e1
   by_cases hl:256<vs.length+us.length
   ·rw[if_pos hl];refine(zjr A B vs.length us.length c d w (by omega) (by omega) hl).mono ?_;rintro e w' ⟨rfl,hb⟩;exact⟨0,0,none,0,0,rfl,zca _,hb⟩
   ·rw[if_neg hl];obtain⟨_,_,ea,a1,a2,a3,a4⟩:=hA;obtain⟨_,_,eb,b1,b2,b3,b4⟩:=hB;injection ea with ea1 _ ea2
    injection eb with eb1 _ eb2
    subst ea1 ea2 eb1 eb2;refine(zp9 A B c d vs us w a1 a2 b1 b2 (by omega) a3 b3).mono ?_;rintro e w' ⟨A',c',rfl,q1,q2,q3,q4,hb⟩;exact⟨3,0,A',_,c',rfl,⟨_,rfl,⟨A',c',by simp[ya],by simpa[ya]using q1,q2,q3,a4.append b4⟩,(by show fits 0;unfold fits;decide),by simp[ya];omega⟩,hb⟩
  rw[if_neg e1]at h;by_cases e2:S=[61,61]
  ·rw[if_pos e2]at h;injection h with h;subst h e2
   refine(zt4 (strN [61,61]) 316 (fun b=>b) zpn zp6 A B c d vs us w hA hB).mono ?_;rintro e w' ⟨rfl,hb⟩;exact kX (xp _) hb (kg _)
  rw[if_neg e2]at h;by_cases e3:S=[33,61]
  ·rw[if_pos e3]at h;injection h with h;subst h e3
   refine(zt4 (strN [33,61]) 317 (fun b=>!b) zqf zq1 A B c d vs us w hA hB).mono ?_;rintro e w' ⟨rfl,hb⟩;exact kX (xp _) hb (kg _)
  rw[if_neg e3]at h;cases h
 rw[if_neg h3]at h;cases h
def zn5(S:List Nat)(v:Va)(p:Va×Int)(h:oneE S v=some p)(w:World)(V:Value)(hv:VaC w v V):Calls prog 264 #[.string (strN S),V] w (zn8 w p):=by
 obtain⟨A,c,rfl,hA,okv,lv⟩:=xM hv;obtain⟨vt,vn,vs⟩:=v
 dsimp only at *
 unfold oneE at h;by_cases h1:S=[45]/\vt=1
 ·rw[if_pos h1]at h;obtain⟨rfl,rfl⟩:=h1;injection h with h
  subst h;refine(zrv vn _ w okv).mono ?_;rintro e w' ⟨rfl,hb⟩;exact kX (yU _) hb (yX _)
 rw[if_neg h1]at h;by_cases h2:S=[33]/\vt=2
 ·rw[if_pos h2]at h;obtain⟨rfl,rfl⟩:=h2;injection h with h
  subst h;refine(zur vn _ w).mono ?_;rintro e w' ⟨rfl,hb⟩;exact kX (xp _) hb (kg _)
 rw[if_neg h2]at h;cases h
variable [Prt]
def zkd{lim:Int}{F:List Nat->Option Xf}{env:Env}{e:Xe}{σ τ:Stt}{v:Va}(h:qD lim F n c env e σ=some (.ok v τ))(hu:σ.used<=lim):σ.used+1<=τ.used:=by
 have h1:=((zjq lim σ.used F n).e c env e σ hu).a (Int.le_refl _);rw[h]at h1;have h2:τ.used<=σ.used->qD σ.used F n c env e σ=some (.ok v τ):=h1.1;by_cases hle:τ.used<=σ.used
 ·exfalso;have h3:=h2 hle;cases n with
  | zero=>unfold qD at h3;cases h3
  | succ n=>
   obtain⟨op,num,aZ,aX,aW⟩:=e;unfold qD useE at h3;rw[if_pos (by omega)]at h3;cases h3
 ·omega
def kr:(prog.info? 202).map (·.size)=some 5:=by kernel_rfl
def zrr{a b:Int}:∀u∈[Value.int .i64 a,.int .i64 b,.slice A n m],u.oneCell'=true:=by
 intro u hu;simp at hu;rcases hu with rfl|rfl|rfl<;>rfl
def zev:∀ {l:List Xe} {i:Nat} {e:Xe},shL l=true->l[i]? =some e->shE e=true
 | x::l,0,e,h,he=>by
  unfold shL at h;simp at h he;rw[<- he];exact h.1
 | x::l,i+1,e,h,he=>by
  unfold shL at h;simp at h;exact zev h.2 (by simpa using he)
 | [],i,e,h,he=>by simp at he
def zlh(m:Ev (List Va))(v:Va)(vs:List Va):((m.bind fun us τ=>qv (v::us) τ).bind fun us τ=>qv (vs++us) τ)=m.bind fun us τ=>qv ((vs++[v])++us) τ:=by
 match m with
 | none=>rfl
 | some (.trap t τ)=>rfl
 | some (.ok us τ)=>show qv (vs++v::us) τ=qv ((vs++[v])++us) τ;simp
def zhv{α β γ:Type}(m:Ev α)(f:α->Stt->Ev β)(g:β->Stt->Ev γ):(m.bind f).bind g=m.bind fun a τ=>(f a τ).bind g:=by
 match m with
 | none=>rfl
 | some (.trap t τ)=>rfl
 | some (.ok a τ)=>rfl
def zt0{t n:Int}:∀x∈[Value.int .i64 t,.int .i64 n,.slice A m c],∀(_:Unit) y,x≠Value.int .u8 y:=by
 intro x hx _ y e;simp at hx;rcases hx with rfl|rfl|rfl<;>cases e
def zmm:NoI (VV 0 0 kB).cells:=by
 intro x hx _ y e;simp[Value.cells]at hx;rcases hx with rfl|rfl|rfl<;>cases e
def EsS(X:Cx10)(c n:Nat)(env:Env)(l:List Xe)(r:Ou (List Va))(w:World)(k:Nat)(i V:Value)(wr:World):Prop:=
 ∃vs σ' m,i=.int .i64 vs.length/\k+vs.length=l.length/\m<=n/\(vs.length:Int)<=σ'.used/\OwnV w.heap.size wr V vs/\RunS X c σ' wr/\Mv X.n0 NoM w wr/\(qK X.lim X.F m c env (l.drop vs.length) σ').bind (fun us τ=>qv (vs++us) τ)=some r
def zrd(X:Cx10)(n:Nat)(hE:∀m,m<n->EOk X m):EsOk X n:=by
 intro c env l σ r w a ms V hc hr hs hl hsh hm;obtain⟨A,lc,rfl⟩:=zu hl;obtain⟨i0,hi,hz0,hz1,hz2⟩:=info_parts ztf;have hn0:=hr.hn;have hu0:=hr.u0
 have HST:Hid (EsS X c n env l r w l.length (.int .i64 0) (.slice none 0 0) w):=⟨[],σ,n,rfl,rfl,aR _,hu0,OwnV.nil _ _,hr,.refl _ _ _,by
  show(qK X.lim X.F n c env l σ).bind _=_;rw[hm]
  cases r<;>rfl⟩
 have HS:=aQ hs;have HL:=aQ hl;have HE:=aQ hE;have HSH:=aQ hsh;have hln:l.length<=9223372036854775807:=by
  obtain⟨_,_,_,_,h1,_⟩:=hl;exact h1.len5
 clear hr hs hl hE hm hsh;go_enter func155,ntmps155
 go_wp2_with fail
 go_loopg [12,7] l.length (fun k i V wr=>EsS X c n env l r w k i V wr)
 case atStart=>exact HST.out
 case round=>
  obtain⟨vs,σ',m,rfl,hk,hmn,hvu,hO,hR,hM,hmr⟩:=hrel;obtain⟨AV,cV,rfl⟩:=hO.shape;by_cases hlt:vs.length<l.length
  ·obtain⟨e,he⟩:∃e,l[vs.length]? =some e:=⟨l[vs.length],vp hlt⟩;have hlt':(vs.length:Int)<(l.length:Int):=by omega
   rw[xw he]at hmr;obtain⟨m',rfl⟩:∃m',m=m'+1:=by
    cases m with
    | zero=>unfold qK at hmr;cases hmr
    | succ m=>exact⟨m,rfl⟩
   have hL:=HL.out.same (xk hM hn0);obtain⟨kb,ko,kc,A0,c0,hsl,q1,q2,hrg,hxe⟩:=hL.get5 he;injection hsl with hA _ hcc
   subst hA hcc;have HQ:Hid (gk+vs.length=l.length/\m'+1<=n/\(vs.length:Int)<=σ'.used/\OwnV w.heap.size wr (.slice AV vs.length cV) vs/\RunS X c σ' wr/\Mv X.n0 NoM w wr):=⟨hk,hmn,hvu,hO,hR,hM⟩;have HMR:=aQ hmr;have HX:=aQ hxe;have HRG:=aQ hrg;have hxc:=qx wr e.op e.num e.aZ (.slice A0 e.aX.length c0) e.aW;obtain⟨z0,z1,z2,z3,z4⟩:=hxc;have HB:=aQ (za wr (xeO e.op e.num e.aZ (.slice A0 e.aX.length c0) e.aW));have hse:shE e=true:=zev HSH.out he;have HSE:=aQ hse;have hex:(qD X.lim X.F m' c env e σ').bind (fun v τ=>(qK X.lim X.F m' c env (l.drop (vs.length+1)) τ).bind fun us τ=>qv ((vs++[v])++us) τ)=some r:=by
    have h:=hmr;unfold qK at h;rw[zhv]at h;rw[<- h]
    congr 1
    funext v τ
    exact(zlh _ v vs).symm
   have hwr:X.n0<=wr.heap.size:=hR.hn;have hK:=fun ro h=>HE.out m' (by omega) c env e σ' ro _ a ms _ hc (hR.on HB.out) ((HS.out.mv hM (fun _ _ h=>h)).on HB.out) (hxe.same (xj HB.out hwr)) hse h;have hul:σ'.used<=X.lim:=hR.u1;have hl2:=hR.u2;unfold xeC at HRG HX hK;clear hk hmn hvu hO hR hM hmr hxe hrg hL he hse HMR HX;rcases qF hex with⟨t,τ,h1,h2⟩|⟨v,τ,h1,h2⟩
   ·have K:=aQ (hK _ h1);have H2:=aQ h2;clear hK hex h1 h2
    go_wp2_with(first|(refine wpList_load_mid rfl 202 (.tmp 14) rfl kb (ko+vs.length*5) rfl [.int .i64 e.op,.int .i64 e.num,.string (strN e.aZ),.slice A0 e.aX.length c0,.int .i64 e.aW] _ HRG.out underlying202 rfl kr ?_;refine Hid.out ?_)|fail)
    refine aQ ?_
    go_wp2_with fail
    (with_reducible refine K.out.mono ?_)
    rintro e w2⟨hM,rfl,c',hs⟩;exact⟨rfl,zy H2.out (HQ.out.2.2.2.2.2.trans ((Mv.of HB.out).trans hM)) hs⟩
   ·have K:=aQ (hK _ h1);have H2:=aQ h2;have HU:Hid (σ'.used+1<=τ.used):=zkd h1 hul;clear hK hex h1 h2
    go_wp2_with(first|(refine wpList_load_mid rfl 202 (.tmp 14) rfl kb (ko+vs.length*5) rfl [.int .i64 e.op,.int .i64 e.num,.string (strN e.aZ),.slice A0 e.aX.length c0,.int .i64 e.aW] _ HRG.out underlying202 rfl kr ?_;refine Hid.out ?_)|fail)
    refine aQ ?_
    go_wp2_with fail
    (with_reducible refine K.out.mono ?_)
    rintro e' w2⟨hM,u,rfl,hv,hs⟩;obtain⟨k1,A1,c1,rfl,rfl,hkk,hok⟩:=zbj hv;have bt:=za w2 (.cells #[.int .i64 v.t,.int .i64 v.n,.slice A1 v.s.length c1] 41);have hM2:=HQ.out.2.2.2.2.2.trans ((Mv.of HB.out).trans hM);obtain⟨ks,hks,h1,h3⟩:=(HQ.out.2.2.2.1.mv ((Mv.of HB.out).trans hM)).mv (Mv.of (n0:=X.n0) (M:=NoM) bt);have HO:=aQ h1;have HO3:=aQ h3;have HR3:=aQ (hs.on bt);have HV3:=aQ (hv.on bt);have HM3:=aQ (hM2.then bt);have HN:Hid (∀(j:Nat) (u:Value),[Value.int .i64 v.t,.int .i64 v.n,.slice A1 v.s.length c1][j]? =some u->(w2.alloc (.cells #[.int .i64 v.t,.int .i64 v.n,.slice A1 v.s.length c1] 41)).cell? ((Addr.mk w2.heap.size 0 none).add j)=some u):=fun j u hu=>by
     rw[Addr.add_mid];exact zZ (cs:=[Value.int .i64 v.t,.int .i64 v.n,.slice A1 v.s.length c1]) (ye w2 _) j u hu
    have hsz:w.heap.size<=(w2.alloc (.cells #[.int .i64 v.t,.int .i64 v.n,.slice A1 v.s.length c1] 41)).heap.size:=HM3.out.size;have hbnd:vs.length+1<=100001:=by have:=HQ.out.2.2.1;omega
    clear hM hv hs hkk hok bt hM2 h1 h3 K z0 z1 z2 z3 z4
    go_wp2_with(at_builtin;refine Rw3.wpList (lo:=w.heap.size) rfl (.tmp 16) (.tmp 21) 32 rfl 41 i0 _ 40 underlying32 hi hz0 hz1 hz2 rfl zmm rfl HO.out ⟨w2.heap.size,0,none⟩ 1 [.int .i64 v.t,.int .i64 v.n,.slice A1 v.s.length c1] rfl rfl HN.out zrr zt0 (by unfold maxLen;omega) (by omega) hsz ?_;intro v6 w6 h6 hg6 hb6)
    obtain⟨o1,o2,o3⟩:=OwnV.more HR3.out hn0 hsz hks HO.out HO3.out HV3.out h6 hg6 hb6;have HF:=aQ (And.intro o1 (And.intro o2 o3));clear h6 hg6 hb6 o1 o2 o3
    go_roundg (l.length-(vs.length+1))
    case measure=>have:=HQ.out.1;omega
    case rel=>exact⟨vs++[v],τ,m',by simp,by simp;omega,by have:=HQ.out.2.1;omega,by have:=HQ.out.2.2.1;have:=HU.out;simp;omega,HF.out.1,HF.out.2.1,HM3.out.under HF.out.2.2,by simpa using H2.out⟩
  ·have he:vs.length=l.length:=by omega
   have hnlt:¬(vs.length:Int)<(l.length:Int):=by omega
   have HR2:Hid (r=.ok vs σ'):=by
    show _=_;rw[he,List.drop_length]at hmr;cases m with
    | zero=>unfold qK at hmr;cases hmr
    | succ m=>
     unfold qK at hmr;have h:some (Ou.ok (vs++[]) σ')=some r:=hmr;rw[List.append_nil]at h;injection h with h
     exact h.symm
   have HF:=aQ (And.intro hO (And.intro hR hM));clear hk hmn hvu hO hR hM hmr he;go_wp2;go_ret;exact wJ HR2.out HF.out.2.2 HF.out.1 HF.out.2.1
variable [Prt]
def oneM(lim:Int)(op:Int)(aZ:List Nat)(v:Va)(σ:Stt):Ev Va:=
 if op=7 then endE (oneE aZ v) σ
 else if v.t≠3 then none
 else if op=8 then(useE lim 2 σ).bind fun _ σ=>qv (ya (getM σ.cur v.s)) σ
 else if op=9 then(useE lim 2 σ).bind fun _ σ=>qv (xS (hasM σ.cur v.s)) σ
 else if op=10 then qv (intV v.s.length) σ
 else none
def zow{l:List PR}(h:qJ l)(k:List Int):(getM l k).length<=256:=by
 unfold getM;rw[List.getD_eq_getElem?_getD];cases hp:l[fnd k l]? with
 | none=>simp
 | some p=>exact(h.1 _ (wM hp)).2
def zde(w:World)(b:Bool):VaC w (xS b) (VV 2 (b2i b) (.slice none 0 0)):=⟨_,rfl,SB.nil _ _,(by cases b<;>(show fits _;unfold fits xS;decide)),by simp[xS]⟩
def vG{p:Va}{t:Int}{σ:Stt}{r:Ou Va}(h:endE (some (p,t)) σ=some r):(t=0/\r=.ok p σ)\/(t≠0/\r=.trap t σ):=by
 unfold endE at h;by_cases ht:t=0
 ·dsimp only at h;rw[if_pos ht]at h;injection h with h
  exact .inl ⟨ht,h.symm⟩
 ·dsimp only at h;rw[if_neg ht]at h;injection h with h
  exact .inr ⟨ht,h.symm⟩
structure One3(w:World)(eo vo:Obj)(w0:World):Prop where
 e:w0.heap[w.heap.size]? =some eo
 v:w0.heap[w.heap.size+1]? =some vo
 z:w0.heap[w.heap.size+2]? =some (.cells #[.int .i64 0,.int .i64 0,.slice none 0 0] 41 (0,0))
 b:Below w.heap.size w w0
 s:w0.heap.size=w.heap.size+3
def yW(w:World)(eo vo:Obj):One3 w eo vo (((w.alloc eo).alloc vo).alloc zO):=by
 have b1:=za w eo;have b2:=za (w.alloc eo) vo;have b3:=za ((w.alloc eo).alloc vo) zO;refine⟨?_,?_,?_,(b1.trans (b2.mono b1.size)).trans (b3.mono (aT b1.size b2.size)),by simp⟩
 ·rw[b3.block _ (by simp;omega),b2.block _ (by simp)];exact ye w eo
 ·rw[b3.block _ (by simp)];have:=ye (w.alloc eo) vo;simpa using this
 ·have:=ye ((w.alloc eo).alloc vo) zO;simpa using this
def qQ{X:Cx10}{σ:Stt}{v:Va}{m0 cp0:Nat}{r:Ou Va}(hr:r=.ok v σ)(hs:RunS X c σ w1)(hm:Mv X.n0 M w w1)(hv:VaC w1 v (VV v.t v.n (.slice A m cp)))(hg:w.heap.size<=g)(hw:w1.heap[g]? =some (.cells #[.int .i64 t0,.int .i64 n1,.slice A0 m0 cp0] 41 (0,0)))(hV:VSt g v.t v.n (.slice A m cp) w1 w2)(hn:X.n0<=w.heap.size):qR X c M VaC w r (.returned (VV v.t v.n (.slice A m cp))) w2:=
 wJ hr (hm.under (hV.below hg)) (hv.var hV hw) (hs.var hV (aT hn hg) hw)
def zq0(X:Cx10)(c:Nat)(σ:Stt)(w:World)(num:Int)(aZ:List Nat)(A:Option Addr)(n cp:Nat)(aW:Int)(v:Va)(V:Value)(r:Ou Va)(hr:RunS X c σ w)(hv:VaC w v V)(hm:oneM X.lim 8 aZ v σ=some r):Calls prog 230 #[.pointer (some ⟨X.R,0,none⟩),.agg #[.int .i64 8,.int .i64 num,.string (strN aZ),.slice A n cp,.int .i64 aW],V] w (qR X c NoM VaC w r):=by
 obtain⟨B,d,rfl,hB,hok⟩:=xM hv;have H3:=yW w (.cells #[.int .i64 8,.int .i64 num,.string (strN aZ),.slice A n cp,.int .i64 aW] 202) (.cells #[.int .i64 v.t,.int .i64 v.n,.slice B v.s.length d] 41);obtain⟨w0,hw0⟩:∃w0,((w.alloc (.cells #[.int .i64 8,.int .i64 num,.string (strN aZ),.slice A n cp,.int .i64 aW] 202)).alloc (.cells #[.int .i64 v.t,.int .i64 v.n,.slice B v.s.length d] 41)).alloc zO=w0:=⟨_,rfl⟩;rw[hw0]at H3;have HW0:=aQ hw0;have HN:=aQ hr.hn;have HH:=aQ H3;obtain⟨e0,e1,e2,e3,e4⟩:=kA H3.e;obtain⟨v0,v1,v2⟩:=qr H3.v;unfold oneM at hm;rw[if_neg (by decide)]at hm;by_cases ht:v.t≠3
 ·rw[if_pos ht]at hm;cases hm
 rw[if_neg ht,if_pos rfl]at hm;have hs0:=hr.on H3.b;have hB0:=hB.on H3.b;rcases qF hm with⟨t,τ,h1,h2⟩|⟨a,τ,h1,h2⟩
 ·have K:=aQ (zgs X c σ w0 _ v.s (.trap t τ) hs0 hB0 (by unfold getG;rw[h1];rfl));have H2:=aQ h2;clear hr hv hB hm h1 h2 hs0 hB0 H3 hw0 hok ht;go_enter func230,ntmps230;(go_upto_region 1 with fail);rw[HW0.out]
  go_wp2_with fail
  (with_reducible refine K.out.mono ?_)
  rintro e w1⟨hM,rfl,c',hs⟩;exact⟨rfl,zy H2.out ((Mv.of HH.out.b).trans hM) hs⟩
 ·have K:=aQ (zgs X c σ w0 _ v.s (.ok (getM τ.cur v.s,hasM τ.cur v.s) τ) hs0 hB0 (by unfold getG;rw[h1];rfl));have H2:Hid (r=.ok (ya (getM τ.cur v.s)) τ):=by show _=_;injection h2 with h2;exact h2.symm
  clear hr hv hB hm h1 h2 hs0 hB0 H3 hw0 hok ht;go_enter func230,ntmps230;(go_upto_region 1 with fail);rw[HW0.out]
  go_wp2_with fail
  (with_reducible refine K.out.mono ?_)
  rintro e w1⟨hM,x,rfl,⟨V2,rfl,hV2⟩,hs⟩;obtain⟨A2,c2,e2,l1,l2,l3,l4⟩:=id hV2;dsimp only at e2 l1 l3 l4 hV2;subst e2;have hlen:=zow hs.jr.cur v.s;have K2:=aQ (zul A2 (getM τ.cur v.s) (getM τ.cur v.s).length c2 rfl w1 l3 (by omega));have HS:=aQ hs;have HM:=aQ ((Mv.of (n0:=X.n0) (M:=NoM) HH.out.b).trans hM);have HZ1:=aQ (hM.kept HH.out.z (by decide));have HB4:=aQ l4;have HL:=aQ hlen;clear hM hs hV2 l1 l2 l3 l4 K hlen
  generalize getM τ.cur v.s=gv at *
  generalize hasM τ.cur v.s=hv at *
  go_wp2_with fail
  (with_reducible refine K2.out.mono ?_)
  rintro e w2⟨A3,c3,rfl,q1,q2,q3,q4,q5⟩;have HS2:=aQ (HS.out.on q5);have HM2:=aQ (HM.out.then q5);have HZ2:=aQ (zg q5 HZ1.out (aU.1 HZ1.out).1);have HV3:Hid (VaC w2 (ya gv) (VV 3 0 (.slice A3 gv.length c3))):=⟨_,rfl,⟨A3,c3,rfl,q1,q2,q3,HB4.out⟩,(by show fits 0;unfold fits;decide),by show gv.length<=_;have:=HL.out;omega⟩;clear q1 q2 q3 q4 q5 K2
  go_wp2_with(refine zm rfl (.tmp 6) (.tmp 25) rfl rfl (w.heap.size+2) rfl 3 0 A3 gv.length c3 rfl HZ2.out ?_;intro w3 g1)
  refine vS (qH results230 _ _ (w.heap.size+2) rfl g1.here) rfl ?_;exact qQ (v:=ya gv) H2.out HS2.out HM2.out HV3.out (by omega) HZ2.out g1 HN.out
def zrl(X:Cx10)(c:Nat)(σ:Stt)(w:World)(num:Int)(aZ:List Nat)(A:Option Addr)(n cp:Nat)(aW:Int)(v:Va)(V:Value)(r:Ou Va)(hr:RunS X c σ w)(hv:VaC w v V)(hm:oneM X.lim 9 aZ v σ=some r):Calls prog 230 #[.pointer (some ⟨X.R,0,none⟩),.agg #[.int .i64 9,.int .i64 num,.string (strN aZ),.slice A n cp,.int .i64 aW],V] w (qR X c NoM VaC w r):=by
 obtain⟨B,d,rfl,hB,hok⟩:=xM hv;have H3:=yW w (.cells #[.int .i64 9,.int .i64 num,.string (strN aZ),.slice A n cp,.int .i64 aW] 202) (.cells #[.int .i64 v.t,.int .i64 v.n,.slice B v.s.length d] 41);obtain⟨w0,hw0⟩:∃w0,((w.alloc (.cells #[.int .i64 9,.int .i64 num,.string (strN aZ),.slice A n cp,.int .i64 aW] 202)).alloc (.cells #[.int .i64 v.t,.int .i64 v.n,.slice B v.s.length d] 41)).alloc zO=w0:=⟨_,rfl⟩;rw[hw0]at H3;have HW0:=aQ hw0;have HN:=aQ hr.hn;have HH:=aQ H3;obtain⟨e0,e1,e2,e3,e4⟩:=kA H3.e;obtain⟨v0,v1,v2⟩:=qr H3.v;unfold oneM at hm;rw[if_neg (by decide)]at hm;by_cases ht:v.t≠3
 ·rw[if_pos ht]at hm;cases hm
 rw[if_neg ht,if_neg (by decide),if_pos rfl]at hm;have hs0:=hr.on H3.b;have hB0:=hB.on H3.b;rcases qF hm with⟨t,τ,h1,h2⟩|⟨a,τ,h1,h2⟩
 ·have K:=aQ (zgs X c σ w0 _ v.s (.trap t τ) hs0 hB0 (by unfold getG;rw[h1];rfl));have H2:=aQ h2;clear hr hv hB hm h1 h2 hs0 hB0 H3 hw0 hok ht;go_enter func230,ntmps230;(go_upto_region 1 with fail);rw[HW0.out]
  go_wp2_with fail
  (with_reducible refine K.out.mono ?_)
  rintro e w1⟨hM,rfl,c',hs⟩;exact⟨rfl,zy H2.out ((Mv.of HH.out.b).trans hM) hs⟩
 ·have K:=aQ (zgs X c σ w0 _ v.s (.ok (getM τ.cur v.s,hasM τ.cur v.s) τ) hs0 hB0 (by unfold getG;rw[h1];rfl));have H2:Hid (r=.ok (xS (hasM τ.cur v.s)) τ):=by show _=_;injection h2 with h2;exact h2.symm
  clear hr hv hB hm h1 h2 hs0 hB0 H3 hw0 hok ht;go_enter func230,ntmps230;(go_upto_region 1 with fail);rw[HW0.out]
  go_wp2_with fail
  (with_reducible refine K.out.mono ?_)
  rintro e w1⟨hM,x,rfl,⟨V2,rfl,hV2⟩,hs⟩;obtain⟨A2,c2,e2,l1,l2,l3,l4⟩:=id hV2;dsimp only at e2;subst e2;dsimp only;have HS:=aQ hs;have HM:=aQ ((Mv.of (n0:=X.n0) (M:=NoM) HH.out.b).trans hM);have HZ1:=aQ (hM.kept HH.out.z (by decide));clear hM hs hV2 l1 l2 l3 l4 K
  generalize getM τ.cur v.s=gv at *
  generalize hasM τ.cur v.s=hv at *
  (go_wp2_with fail);refine(zez hv w1).mono ?_;rintro e w2 ⟨rfl,q5⟩;have HS2:=aQ (HS.out.on q5);have HM2:=aQ (HM.out.then q5);have HZ2:=aQ (zg q5 HZ1.out (aU.1 HZ1.out).1);have HV3:Hid (VaC w2 (xS hv) (VV 2 (b2i hv) (.slice none 0 0))):=zde w2 hv;clear q5
  go_wp2_with(refine zm rfl (.tmp 6) (.tmp 36) rfl rfl (w.heap.size+2) rfl 2 (b2i hv) none 0 0 rfl HZ2.out ?_;intro w3 g1)
  refine vS (qH results230 _ _ (w.heap.size+2) rfl g1.here) rfl ?_;exact qQ (v:=xS hv) H2.out HS2.out HM2.out HV3.out (by omega) HZ2.out g1 HN.out
def zps(X:Cx10)(c:Nat)(σ:Stt)(w:World)(num:Int)(aZ:List Nat)(A:Option Addr)(n cp:Nat)(aW:Int)(v:Va)(V:Value)(r:Ou Va)(hr:RunS X c σ w)(hv:VaC w v V)(hm:oneM X.lim 10 aZ v σ=some r):Calls prog 230 #[.pointer (some ⟨X.R,0,none⟩),.agg #[.int .i64 10,.int .i64 num,.string (strN aZ),.slice A n cp,.int .i64 aW],V] w (qR X c NoM VaC w r):=by
 obtain⟨B,d,rfl,hB,hok⟩:=xM hv;have H3:=yW w (.cells #[.int .i64 10,.int .i64 num,.string (strN aZ),.slice A n cp,.int .i64 aW] 202) (.cells #[.int .i64 v.t,.int .i64 v.n,.slice B v.s.length d] 41);obtain⟨w0,hw0⟩:∃w0,((w.alloc (.cells #[.int .i64 10,.int .i64 num,.string (strN aZ),.slice A n cp,.int .i64 aW] 202)).alloc (.cells #[.int .i64 v.t,.int .i64 v.n,.slice B v.s.length d] 41)).alloc zO=w0:=⟨_,rfl⟩;rw[hw0]at H3;have HW0:=aQ hw0;have HN:=aQ hr.hn;have HH:=aQ H3;obtain⟨e0,e1,e2,e3,e4⟩:=kA H3.e;obtain⟨v0,v1,v2⟩:=qr H3.v;unfold oneM at hm;rw[if_neg (by decide)]at hm;by_cases ht:v.t≠3
 ·rw[if_pos ht]at hm;cases hm
 rw[if_neg ht,if_neg (by decide),if_neg (by decide),if_pos rfl]at hm;have hs0:=aQ (hr.on H3.b);have H2:Hid (r=.ok (intV v.s.length) σ):=by show _=_;injection hm with h2;exact h2.symm
 have HL:Hid (v.s.length<=1000000):=hok.2;clear hr hv hB hm H3 hw0 hok ht;go_enter func230,ntmps230;go_upto_region 1 with fail
 rw[HW0.out]
 go_wp2_with fail
 refine(numC (v.s.length:Int) w0).mono ?_;rintro e w2 ⟨rfl,q5⟩;have HS2:=aQ (hs0.out.on q5);have HM2:=aQ ((Mv.of (n0:=X.n0) (M:=NoM) HH.out.b).then q5);have HZ2:=aQ (zg q5 HH.out.z (aU.1 HH.out.z).1);have HV3:Hid (VaC w2 (intV v.s.length) (VV 1 v.s.length (.slice none 0 0))):=⟨_,rfl,SB.nil _ _,(by have:=HL.out;show fits (v.s.length:Int);unfold fits;omega),by simp[intV]⟩;clear q5
 go_wp2_with(refine zm rfl (.tmp 6) (.tmp 42) rfl rfl (w.heap.size+2) rfl 1 v.s.length none 0 0 rfl HZ2.out ?_;intro w3 g1)
 refine vS (qH results230 _ _ (w.heap.size+2) rfl g1.here) rfl ?_;exact qQ (v:=intV v.s.length) H2.out HS2.out HM2.out HV3.out (by omega) HZ2.out g1 HN.out
def zpp(X:Cx10)(c:Nat)(σ:Stt)(w:World)(num:Int)(aZ:List Nat)(A:Option Addr)(n cp:Nat)(aW:Int)(v:Va)(V:Value)(r:Ou Va)(hr:RunS X c σ w)(hy:Byn aZ)(hv:VaC w v V)(hm:oneM X.lim 7 aZ v σ=some r):Calls prog 230 #[.pointer (some ⟨X.R,0,none⟩),.agg #[.int .i64 7,.int .i64 num,.string (strN aZ),.slice A n cp,.int .i64 aW],V] w (qR X c NoM VaC w r):=by
 obtain⟨B,d,rfl,hB,hok⟩:=xM hv;have H3:=yW w (.cells #[.int .i64 7,.int .i64 num,.string (strN aZ),.slice A n cp,.int .i64 aW] 202) (.cells #[.int .i64 v.t,.int .i64 v.n,.slice B v.s.length d] 41);obtain⟨w0,hw0⟩:∃w0,((w.alloc (.cells #[.int .i64 7,.int .i64 num,.string (strN aZ),.slice A n cp,.int .i64 aW] 202)).alloc (.cells #[.int .i64 v.t,.int .i64 v.n,.slice B v.s.length d] 41)).alloc zO=w0:=⟨_,rfl⟩;rw[hw0]at H3;have HW0:=aQ hw0;have HN:=aQ hr.hn;have HH:=aQ H3;obtain⟨e0,e1,e2,e3,e4⟩:=kA H3.e;obtain⟨v0,v1,v2⟩:=qr H3.v;unfold oneM at hm;rw[if_pos rfl]at hm;have hs0:=aQ (hr.on H3.b);have hv0:=hv.on H3.b;cases ho:oneE aZ v with
 | none=>rw[ho]at hm;cases hm
 | some p=>
  rw[ho]at hm;have K:=aQ (zn5 aZ v p ho w0 _ hv0);obtain⟨pv,pt⟩:=p;have HP:Hid ((pt=0/\r=.ok pv σ)\/(pt≠0/\r=.trap pt σ)):=vG hm;clear hr hv hv0 hB hm H3 hw0 hok ho hy;go_enter func230,ntmps230;(go_upto_region 1 with fail);rw[HW0.out]
  go_wp2_with fail
  (with_reducible refine K.out.mono ?_)
  rintro e w1⟨pt',pn,A2,m2,c2,rfl,hpv,hb⟩;dsimp only at hpv⊢;obtain⟨A3,c3,e3,hA3,hok3⟩:=xM hpv;injection e3 with e3
  simp only[Array.mk.injEq,aN,Value.int.injEq,Value.slice.injEq,true_and,and_true]at e3;obtain⟨rfl,rfl,rfl,rfl,rfl⟩:=e3;have HS2:=aQ (hs0.out.on hb);have HM2:=aQ ((Mv.of (n0:=X.n0) (M:=NoM) HH.out.b).then hb);have HZ2:=aQ (zg hb HH.out.z (aU.1 HH.out.z).1);have HV2:=aQ hpv;have BZ:=aQ (za w1 (.cells #[.int .i64 pv.t,.int .i64 pv.n,.slice A2 pv.s.length c2] 41));obtain⟨u0,u1,u2⟩:=qr (ye w1 (.cells #[.int .i64 pv.t,.int .i64 pv.n,.slice A2 pv.s.length c2] 41));clear hpv hb hA3 hok3 K
  go_wp2_with fail
  generalize w1.alloc (.cells #[.int .i64 pv.t,.int .i64 pv.n,.slice A2 pv.s.length c2] 41)=w2 at *
  have HS3:=aQ (HS2.out.on BZ.out);have HM3:=aQ (HM2.out.then BZ.out);have HZ3:=aQ (zg BZ.out HZ2.out (aU.1 HZ2.out).1);have HV3:=aQ (HV2.out.on BZ.out);rcases HP.out with⟨rfl,h2⟩|⟨h1,h2⟩
  ·have H2:=aQ h2;clear h2 HP;refine(yV _).mono ?_;rintro e w3 ⟨rfl,rfl⟩
   go_wp2_with(refine zm rfl (.tmp 6) (.tmp 52) rfl rfl (w.heap.size+2) rfl pv.t pv.n A2 pv.s.length c2 rfl HZ3.out ?_;intro w3 g1)
   refine vS (qH results230 _ _ (w.heap.size+2) rfl g1.here) rfl ?_;exact qQ (v:=pv) H2.out HS3.out HM3.out HV3.out (by omega) HZ3.out g1 HN.out
  ·have H2:=aQ h2;clear h2 HP;refine(kt pt h1 _).mono ?_;rintro e w3 ⟨rfl,rfl⟩;exact⟨rfl,zy H2.out HM3.out HS3.out⟩
end
end Go.Proofs.YtcilgkdnjgmogaaGreatDoor
