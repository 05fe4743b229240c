/- A part of the proof. -/
import Derived.Test.YtcilgkdnjgmogaaGreatDoorYU
import Derived.Deep.RegionHeld2
import Derived.Test.YtcilgkdnjgmogaaGreatDoorYT
namespace Go.Proofs.YtcilgkdnjgmogaaGreatDoor
open Go.Proofs.Tryz
set_option maxRecDepth 100000
set_option maxHeartbeats 12800000
set_option linter.all false
variable {B b1 g i j:Nat} {D:Nat->Prop} {s:List Nat} {u:Value} {w w':World}
section
section
open Go.RowKit
abbrev xfO(name:List Nat)(P:Value)(res:Int)(Y:Value)(aW:Int):Obj:=.cells #[.string (strN name),P,.int .i64 res,Y,.int .i64 aW] 69
def yL(w:World)(name:List Nat)(P:Value)(res:Int)(Y:Value)(aW:Int):(w.alloc (xfO name P res Y aW)).cell? ⟨w.heap.size,0,none⟩=some (.string (strN name))/\(w.alloc (xfO name P res Y aW)).cell? ⟨w.heap.size,1,none⟩=some P/\(w.alloc (xfO name P res Y aW)).cell? ⟨w.heap.size,2,none⟩=some (.int .i64 res)/\(w.alloc (xfO name P res Y aW)).cell? ⟨w.heap.size,3,none⟩=some Y/\(w.alloc (xfO name P res Y aW)).cell? ⟨w.heap.size,4,none⟩=some (.int .i64 aW):=by
 refine⟨?_,?_,?_,?_,?_⟩<;>(rw[wy _ _ _ _ _ _ (ye w _)];rfl)
def znc(p:List Nat×Int)(hp:Byn p.1)(aW:Int)(b b1 b2:Nat)(sc:zX)(w:World)(hs:Sco w b sc)(h1:w.cell? ⟨b1,0,none⟩=some (.map (some b)))(h2:w.cell? ⟨b2,4,none⟩=some (.int .i64 aW))(n2:b≠b2):Calls prog 209 #[.agg #[.string (strN p.1),.int .i64 p.2],.pointer (some ⟨b1,0,none⟩),.pointer (some ⟨b2,0,none⟩)] w fun x w'=>FOut (xm aW sc p).1 x w'/\((xm aW sc p).1=none->Sco w' b (xm aW sc p).2)/\w.grownBy w' (some b):=by
 have BA:=aQ (za w (.cells #[.string (strN p.1),.int .i64 p.2] 87));have y1:=zb h1 BA.out;have y2:=zb h2 BA.out;have z0:(w.alloc (.cells #[.string (strN p.1),.int .i64 p.2] 87)).cell? ⟨w.heap.size,0,none⟩=some (.string (strN p.1)):=by rw[wy _ _ _ _ _ _ (ye w _)];rfl
 have z1:(w.alloc (.cells #[.string (strN p.1),.int .i64 p.2] 87)).cell? ⟨w.heap.size,1,none⟩=some (.int .i64 p.2):=by rw[wy _ _ _ _ _ _ (ye w _)];rfl
 have KD:=aQ (zc3 b sc p.1 hp p.2 false aW _ (hs.below BA.out));have hbl:=hs.lt;have HN:=aQ n2;have HM1:Hid (∀e,(zY sc p.1 (p.2,false) aW).1=some e->(xm aW sc p).1=some e):=fun e h=>by
  rcases hd:zY sc p.1 (p.2,false) aW with⟨x,y⟩
  rw[hd]at h;obtain rfl:x=some e:=h;simp[xm,hd]
 have HM2:Hid ((zY sc p.1 (p.2,false) aW).1=none->p.2=0\/kF p.2=false->(xm aW sc p).1=some (51,aW)):=fun h h2=>by
  rcases hd:zY sc p.1 (p.2,false) aW with⟨x,y⟩
  rw[hd]at h;obtain rfl:x=none:=h;simp[xm,hd,h2]
 have HM3:Hid ((zY sc p.1 (p.2,false) aW).1=none->¬(p.2=0\/kF p.2=false)->xm aW sc p=(none,(zY sc p.1 (p.2,false) aW).2)):=fun h h2=>by
  rcases hd:zY sc p.1 (p.2,false) aW with⟨x,y⟩
  rw[hd]at h;obtain rfl:x=none:=h;simp[xm,hd,h2]
 generalize zY sc p.1 (p.2,false) aW=d at *
 generalize xm aW sc p=m at *
 clear hs h1 h2 n2;obtain⟨pn,pt⟩:=p
 simp only at *
 go_enter func209,ntmps209;go_upto_region 1 with fail
 have HW:Hid (b<w.heap.size):=hbl;have HW2:Hid (w.heap.size<(w.alloc (.cells #[.string (strN pn),.int .i64 pt] 87)).heap.size):=by show _<_;simp
 clear hbl
 generalize w.alloc (.cells #[.string (strN pn),.int .i64 pt] 87)=w0 at *
 go_wp2_with fail
 refine KD.out.mono ?_;rintro e w1 ⟨⟨v,rfl,hv⟩,hs1,hg⟩;have HV:=aQ hv;have HS1:=aQ hs1;have u1:=qp z1 hg (by have:=HW.out;show b≠w.heap.size;omega);have u4:=qp y2 hg (by exact HN.out);have HG:=aQ (zQ (zT BA.out (some b)) hg);clear hs1 hg KD z0 z1 y1 y2;obtain⟨d1,d2⟩:=d
 simp only at *
 cases d1 with
 | some er=>
  have HE:Hid (m.1=some er):=HM1.out er rfl;obtain⟨b',rfl,_⟩:=hv;clear u1 u4;go_wp2;go_ret;exact⟨⟨_,rfl,by rw[HE.out];exact HV.out⟩,fun h=>(by rw[HE.out]at h;cases h),HG.out⟩
 | none=>
  obtain rfl:v=.pointer none:=hv;clear HV;by_cases h0:pt=0
  ·have HE:Hid (m.1=some (51,aW)):=HM2.out (by first|rfl|trivial) (.inl h0);have q:(pt==0)=true:=by rw[beq_iff_eq];exact h0
   clear h0;go_wp2;go_ret;exact⟨⟨_,rfl,by rw[HE.out];exact xK w1 51 aW⟩,fun h=>(by rw[HE.out]at h;cases h),zQ HG.out (zT (za w1 _) _)⟩
  ·have q:(pt==0)=false:=zI h0;have KK:=aQ (zo8 pt w1);cases hkn:kF pt with
   | true=>
    rw[hkn]at KK;have HE:Hid (m=(none,d2)):=HM3.out (by first|rfl|trivial) (by rw[hkn];simp[h0]);clear h0 hkn
    go_wp2_with fail
    with_reducible refine KK.out.mono ?_
    rintro e w2⟨rfl,rfl⟩;go_wp2;go_ret;exact⟨⟨_,rfl,by rw[HE.out];rfl⟩,fun _=>by rw[HE.out];exact HS1.out,HG.out⟩
   | false=>
    rw[hkn]at KK;have HE:Hid (m.1=some (51,aW)):=HM2.out (by first|rfl|trivial) (.inr hkn);clear h0 hkn
    go_wp2_with fail
    with_reducible refine KK.out.mono ?_
    rintro e w2⟨rfl,rfl⟩;go_wp2;go_ret;exact⟨⟨_,rfl,by rw[HE.out];exact xK _ 51 aW⟩,fun h=>(by rw[HE.out]at h;cases h),zQ HG.out (zT (za _ _) _)⟩
structure ParI(B b b1 b2:Nat)(aW:Int)(l:List (List Nat×Int))(V:Value)(sc:zX)(w:World):Prop where
 sco:Sco w b sc
 c1:w.cell? ⟨b1,0,none⟩=some (.map (some b))
 c2:w.cell? ⟨b2,4,none⟩=some (.int .i64 aW)
 row:RowF w (Lo B) l.length (xpsC l) V
 n1:b≠b1
 n2:b≠b2
 n3:B<=b
def ParI.below{B b b1 b2:Nat}{aW:Int}{l:List (List Nat×Int)}{V:Value}{sc:zX}(h:ParI B b b1 b2 aW l V sc w)(hb:Below w.heap.size w w'):ParI B b b1 b2 aW l V sc w':=
 ⟨h.sco.below hb,zb h.c1 hb,zb h.c2 hb,h.row.same (zk hb (by have:=h.sco.lt;have:=h.n3;omega)),h.n1,h.n2,h.n3⟩
def zno(l:List (List Nat×Int))(hl:∀p∈l,Byn p.1)(B b b1 b2:Nat)(aW:Int)(V:Value)(sc:zX)(w:World)(h:ParI B b b1 b2 aW l V sc w):Calls prog 208 #[V,.func (.func 209) #[] #[.pointer (some ⟨b1,0,none⟩),.pointer (some ⟨b2,0,none⟩)]] w fun x w'=>FOut (runL (xm aW) sc l).1 x w'/\((runL (xm aW) sc l).1=none->Sco w' b (runL (xm aW) sc l).2)/\w.grownBy w' (some b):=by
 refine(zt8 (xm aW) (fun a=>.string (strN a.1)) (fun a=>.int .i64 a.2) (fun sc w=>ParI B b b1 b2 aW l V sc w) (some b) l V B 209 #[.pointer (some ⟨b1,0,none⟩),.pointer (some ⟨b2,0,none⟩)] (by intro args w;simp)
  (fun _ _ _ h hb=>h.below hb) (fun _ w h=>h.row) (by intro a ha u hu;simp at hu;rcases hu with rfl|rfl<;>rfl) ?_ sc w h).mono ?_
 ·intro sc1 a w1 ha h1;refine(znc a (hl a ha) aW b b1 b2 sc1 w1 h1.sco h1.c1 h1.c2 h1.n2).mono ?_;rintro e w2 ⟨ho,hn,hg⟩;refine⟨ho,fun hh=>⟨hn hh,qp h1.c1 hg h1.n1,qp h1.c2 hg h1.n2,h1.row.same fun k hk=>hg.block k (by have:=h1.sco.lt;have:=h1.n3;unfold Lo at hk;omega) (by intro e;injection e with e;have:=h1.n3;unfold Lo at hk;omega),h1.n1,h1.n2,h1.n3⟩,hg⟩
 ·rintro e w' ⟨ho,hn,hg⟩;exact⟨ho,fun hh=>(hn hh).sco,hg⟩
def zqs(name:List Nat)(l:List (List Nat×Int))(hl:∀p∈l,Byn p.1)(res:Int)(Y:Value)(A5:Option Addr)(nY cY:Nat)(hY:Y=.slice A5 nY cY)(aW:Int)(A:Option Addr)(c:Nat)(B b:Nat)(sc:zX)(w:World)(hs:Sco w b sc)(hB:B<=b)(hr:RowF w (Lo B) l.length (xpsC l) (.slice A l.length c)):Calls prog 171 #[.agg #[.string (strN name),.slice A l.length c,.int .i64 res,Y,.int .i64 aW],.map (some b)] w fun x w'=>FOut (runL (xm aW) sc l).1 x w'/\((runL (xm aW) sc l).1=none->Sco w' b (runL (xm aW) sc l).2)/\w.grownBy w' (some b):=by
 subst hY;have hbl:=hs.lt;have BA1:=za w (xfO name (.slice A l.length c) res (.slice A5 nY cY) aW);have BA2:=za (w.alloc (xfO name (.slice A l.length c) res (.slice A5 nY cY) aW)) (.cells #[.map (some b)] 238);have BA:=zd BA1 BA2 BA1.size;have HB:=aQ BA;obtain⟨z0,z1,z2,z3,z4⟩:=yL w name (.slice A l.length c) res (.slice A5 nY cY) aW;have e2:((w.alloc (xfO name (.slice A l.length c) res (.slice A5 nY cY) aW)).alloc (.cells #[.map (some b)] 238)).cell? ⟨w.heap.size+1,0,none⟩=some (.map (some b)):=by
  rw[show w.heap.size+1=(w.alloc (xfO name (.slice A l.length c) res (.slice A5 nY cY) aW)).heap.size by simp,wy _ _ _ _ _ _ (ye _ _)];rfl
 have K:=aQ (zno l hl B b (w.heap.size+1) w.heap.size aW (.slice A l.length c) sc _ ⟨hs.below BA,e2,zb z4 BA2,hr.same (zk BA (by omega)),by omega,by omega,hB⟩);have y1:=zb z1 BA2;have hmf:=hmf5
 generalize runL (xm aW) sc l=m at *
 clear hs hr BA1 BA2 BA e2 z0 z1 z2 z3 z4 hbl hB;go_enter func171,ntmps171;go_upto_region 1 with fail
 generalize(w.alloc (.cells #[.string (strN name),.slice A l.length c,.int .i64 res,.slice A5 nY cY,.int .i64 aW] 69)).alloc (.cells #[.map (some b)] 238)=w0 at *
 go_wp2_with fail
 with_reducible refine K.out.mono ?_
 rintro e w1⟨⟨v,rfl,hv⟩,hn,hg⟩;have HV:=aQ hv;have HN:=aQ hn;have HG:=aQ (zQ (zT HB.out (some b)) hg);clear hv hn hg K HB y1;go_wp2;go_ret;exact⟨⟨_,rfl,HV.out⟩,HN.out,HG.out⟩
def Tb(w:World)(B g:Nat)(fs:List Xf):Prop:=∃ks:List Two,ks.length=fs.length/\qs w g (tabC fs ks)/\∀(i:Nat) (f:Xf) (k:Two),fs[i]? =some f->ks[i]? =some k->RowF w (Lo B) f.params.length (xpsC f.params) k.p/\∃A n c,k.b=.slice A n c
def Tb.lt{fs:List Xf}(h:Tb w B g fs):g<w.heap.size:=by obtain⟨ks,_,h,_⟩:=h;exact h.lt
def Tb.below{fs:List Xf}(h:Tb w B g fs)(hb:Below w.heap.size w w')(hg:B<=g):Tb w' B g fs:=by
 have hl:=h.lt;obtain⟨ks,h1,h2,h3⟩:=h;exact⟨ks,h1,h2.of (hb.block _ hl),fun i f k a b=>⟨(h3 i f k a b).1.same (zk hb (by omega)),(h3 i f k a b).2⟩⟩
def bigR(f:Xf):Bool:=decide (f.params.length > 16\/wrap64 (f.params.length+dcl f.body 0) > 64)
def funC(f:Xf)(A2 A3:Option Addr)(c2 c3:Nat)(B g:Nat)(fs:List Xf)(w:World)(hg:B<=g)(ht:Tb w B g fs)(hk:XfK w (Lo B) f ⟨.slice A2 f.params.length c2,.slice A3 f.body.length c3⟩):Calls prog 136 #[.agg #[.string (strN f.name),.slice A2 f.params.length c2,.int .i64 f.result,.slice A3 f.body.length c3,.int .i64 f.aW],.map (some g)] w fun x w'=>FOut (funM (zh fs) f) x w'/\Below w.heap.size w w':=by
 have hB:B<=w.heap.size:=by have:=ht.lt;omega
 have hgl:=ht.lt;have BA1:=za w (xfO f.name (.slice A2 f.params.length c2) f.result (.slice A3 f.body.length c3) f.aW);have BA2:=za (w.alloc (xfO f.name (.slice A2 f.params.length c2) f.result (.slice A3 f.body.length c3) f.aW)) (.map #[] 0);have BA:=zd BA1 BA2 BA1.size;have HB0:=aQ BA;obtain⟨z0,z1,z2,z3,z4⟩:=yL w f.name (.slice A2 f.params.length c2) f.result (.slice A3 f.body.length c3) f.aW;have hsc:Sco ((w.alloc (xfO f.name (.slice A2 f.params.length c2) f.result (.slice A3 f.body.length c3) f.aW)).alloc (.map #[] 0)) (w.heap.size+1) []:=by
  have:=qs.made (w.alloc (xfO f.name (.slice A2 f.params.length c2) f.result (.slice A3 f.body.length c3) f.aW));rw[show(w.alloc (xfO f.name (.slice A2 f.params.length c2) f.result (.slice A3 f.body.length c3) f.aW)).heap.size=w.heap.size+1 by simp]at this;exact this
 have KP:=aQ (zqs f.name f.params hk.names f.result (.slice A3 f.body.length c3) A3 _ c3 rfl f.aW A2 c2 B (w.heap.size+1) [] _ hsc (by omega) (hk.params.same (zk BA hB)));have HTb:Hid (∀w',Below w.heap.size w w'->Tb w' B g fs):=fun w' hb=>ht.below hb hg;have HBod:Hid (∀w',Below w.heap.size w w'->XssC w' (Lo B) f.body (.slice A3 f.body.length c3)):=fun w' hb=>hk.body.same (zk hb hB);have HM0:Hid (∀e,(k6 f).1=some e->funM (zh fs) f=some e):=fun e h=>by
  rcases hd:k6 f with⟨x,y⟩
  rw[hd]at h;obtain rfl:x=some e:=h;simp[funM,hd]
 have HM1:Hid (∀sc,k6 f=(none,sc)->kF f.result=false->funM (zh fs) f=some (51,f.aW)):=fun sc hd h=>by simp[funM,hd,h]
 have HM2:Hid (∀sc,k6 f=(none,sc)->kF f.result=true->bigR f=true->funM (zh fs) f=some (2,f.aW)):=fun sc hd h h2=>by
  have:=of_decide_eq_true h2;simp only[funM,hd,h];rw[if_neg (by simp),if_pos this]
 have HM3:Hid (∀sc e,k6 f=(none,sc)->kF f.result=true->bigR f=false->(z7 (zh fs) f.result f.body sc).1=some e->funM (zh fs) f=some e):=fun sc e hd h h2 h3=>by
  have:=of_decide_eq_false h2;simp only[funM,hd,h];rw[if_neg (by simp),if_neg this];simp[h3]
 have HM4:Hid (∀sc,k6 f=(none,sc)->kF f.result=true->bigR f=false->(z7 (zh fs) f.result f.body sc).1=none->funM (zh fs) f=if f.result≠0/\ki f.body=false then some (54,f.aW)else none):=fun sc hd h h2 h3=>by
  have:=of_decide_eq_false h2;simp only[funM,hd,h];rw[if_neg (by simp),if_neg this];simp[h3]
 have HPar:Hid (runL (xm f.aW) [] f.params=k6 f):=rfl;rw[HPar.out]at KP;have hmm:∀(t:TypeId) (w:World),(Instr.makeMap t none).run prog w=.ok (.map (some w.heap.size)) (w.alloc (.map #[] 0)):=fun t w=>run_makeMap t w
 generalize funM (zh fs) f=m at *
 generalize hPR:k6 f=pr at *
 have HbigE:Hid (bigR f=decide (f.params.length > 16\/wrap64 (f.params.length+dcl f.body 0) > 64)):=rfl;clear ht hk BA hsc hPR;have y0:=zb z0 BA2;have y1:=zb z1 BA2;have y2:=zb z2 BA2;have y3:=zb z3 BA2;have y4:=zb z4 BA2;clear z0 z1 z2 z3 z4 BA1 BA2;go_enter func136,ntmps136;go_upto_region 2 with fail
 generalize(w.alloc (.cells #[.string (strN f.name),.slice A2 f.params.length c2,.int .i64 f.result,.slice A3 f.body.length c3,.int .i64 f.aW] 69)).alloc (.map #[] 0)=w0 at *
 go_wp2_with fail
 with_reducible refine KP.out.mono ?_
 rintro e w1⟨⟨v,rfl,hv⟩,hn,hgr⟩;have HV:=aQ hv;have HN:=aQ hn;have x2:=qp y2 hgr (by show w.heap.size+1≠w.heap.size;omega);have x3:=qp y3 hgr (by show w.heap.size+1≠w.heap.size;omega);have x4:=qp y4 hgr (by show w.heap.size+1≠w.heap.size;omega);have x1:=qp y1 hgr (by show w.heap.size+1≠w.heap.size;omega);have B1:=aQ (km HB0.out hgr (by omega) HB0.out.size);clear hn hgr KP y0 y1 y2 y3 y4 HB0;obtain⟨pe,sc⟩:=pr
 simp only at *
 cases pe with
 | some er=>
  have HE:Hid (m=some er):=HM0.out er rfl;obtain⟨b',rfl,_⟩:=hv;clear x1 x2 x3 x4;go_wp2;go_ret;exact⟨⟨_,rfl,by rw[HE.out];exact HV.out⟩,B1.out⟩
 | none=>
  obtain rfl:v=.pointer none:=hv;have HS1:Hid (Sco w1 (w.heap.size+1) sc):=HN.out (by first|rfl|trivial);have KK:=aQ (zo8 f.result w1);clear HV HN HM0;cases hkn:kF f.result with
  | false=>
   rw[hkn]at KK;have HE:Hid (m=some (51,f.aW)):=HM1.out sc rfl hkn;clear hkn x1 x3
   go_wp2_with fail
   with_reducible refine KK.out.mono ?_
   rintro e w2⟨rfl,rfl⟩;go_wp2;go_ret;exact⟨⟨_,rfl,by rw[HE.out];exact xK _ 51 f.aW⟩,B1.out.alloc B1.out.size _⟩
  | true=>
   rw[hkn]at KK;have HMb:Hid (bigR f=true->m=some (2,f.aW)):=HM2.out sc rfl hkn;replace HM3:=aQ (fun e=>HM3.out sc e rfl hkn);replace HM4:=aQ (HM4.out sc rfl hkn);clear hkn HM1 HM2
   go_wp2_with fail
   with_reducible refine KK.out.mono ?_
   rintro e w2⟨rfl,rfl⟩;(go_upto_region 7 with fail);have hbl:Below w2.heap.size w2 w2.drew:=(Below.refl _ _).drew;have HQ:Hid (∀w',Below w2.heap.size w2 w'->w'.cell? ⟨w.heap.size,1,none⟩=some (.slice A2 f.params.length c2)/\w'.cell? ⟨w.heap.size,3,none⟩=some (.slice A3 f.body.length c3)):=fun w' hb=>⟨zb x1 hb,zb x3 hb⟩;have KD:Hid (∀w',Below w2.heap.size w2 w'->Calls prog 173 #[.slice A3 f.body.length c3] w' fun e w''=>e=.returned (.int .i64 (dcl f.body 0))/\Below w'.heap.size w' w''):=fun w' hb=>dcT f.body _ w' B (by have:=hb.size;have:=B1.out.size;omega) (HBod.out w' (zd B1.out hb B1.out.size))
   go_cut [37] (fun a wx=>a=.bool (bigR f)/\Below w2.heap.size w2 wx)
   case first=>
    by_cases h16:f.params.length > 16
    ·have q:(16:Int)<f.params.length:=by omega
     have HE:Hid (bigR f=true):=by show _=_;rw[HbigE.out];exact decide_eq_true (.inl h16)
     clear h16;go_quiet (fail)
     (go_wp2_with fail);go_meet
     exact⟨by rw[HE.out],zW (Below.refl _ _) _⟩
    ·have q:¬(16:Int)<f.params.length:=by omega
     have HE:Hid (bigR f=decide ((64:Int)<wrap64 (f.params.length+dcl f.body 0))):=by
      show _=_;rw[HbigE.out];exact decide_eq_decide.2 ⟨fun h=>h.resolve_left h16,.inr⟩
     clear h16
     go_region_held3(fun w'=>w'.cell? ⟨w.heap.size,1,none⟩=some (.slice A2 f.params.length c2)/\w'.cell? ⟨w.heap.size,3,none⟩=some (.slice A3 f.body.length c3))
      (with_reducible exact HQ.out _ hbl)
      (first|(go_at_call 173;refine(KD.out _ hbl).mono ?_;rintro e wn ⟨rfl,hbn⟩;replace hbl:=zd hbl hbn hbl.size))
     all_goals(go_wp2_with fail;go_meet)
     all_goals exact⟨by rw[HE.out,IntWalk.i64_left],hbl⟩
   case rest=>
    obtain⟨rfl,hbw⟩:=hcut;replace x2:=zb x2 hbw;replace x3:=zb x3 hbw;replace x4:=zb x4 hbw;have HS3:=aQ (HS1.out.below hbw);have B3:=aQ (zd B1.out hbw B1.out.size);clear hbw hbl HQ KD x1 HS1 B1 KK;cases hbg:bigR f with
    | true=>
     have HE:Hid (m=some (2,f.aW)):=HMb.out hbg;clear hbg x2 x3;go_wp2;go_ret;exact⟨⟨_,rfl,by rw[HE.out];exact xK _ 2 f.aW⟩,B3.out.alloc B3.out.size _⟩
    | false=>
     replace HM3:=aQ (fun e=>HM3.out e hbg);replace HM4:=aQ (HM4.out hbg);clear hbg HMb;(go_upto_region 10 with fail);have BC:=za wc (.cells #[.map (some g),.int .i64 f.result] 243);have hsl:=HS3.out.lt
     have HCx:Cx (wc.alloc (.cells #[.map (some g),.int .i64 f.result] 243)) B wc.heap.size g fs f.result:=
      ⟨ye wc _,HTb.out _ (zd B3.out BC B3.out.size),by have:=B3.out.size;omega,hg⟩
     have HBlk:=aQ (zdl f.body (fun s _=>scT s) B wc.heap.size g (w.heap.size+1) fs f.result sc _ _ HCx (HS3.out.below BC) (by omega) (by omega) (by omega) (HBod.out _ (zd B3.out BC B3.out.size)));replace x2:=zb x2 BC;replace x3:=zb x3 BC;replace x4:=zb x4 BC;have B4:=aQ (zd B3.out BC B3.out.size);clear BC HCx hsl HS3 B3
     generalize wc.alloc (.cells #[.map (some g),.int .i64 f.result] 243)=w4 at *
     generalize wc.heap.size=cB at *
     go_wp2_with fail
     with_reducible refine HBlk.out.mono ?_
     rintro e w5⟨⟨v,rfl,hv⟩,_,hgr⟩;have HV:=aQ hv;replace x2:=qp x2 hgr (by show w.heap.size+1≠w.heap.size;omega);replace x3:=qp x3 hgr (by show w.heap.size+1≠w.heap.size;omega);replace x4:=qp x4 hgr (by show w.heap.size+1≠w.heap.size;omega);have B5:=aQ (km B4.out hgr (by omega) B4.out.size);clear hgr HBlk B4
     generalize(z7 (zh fs) f.result f.body sc).1=r5 at *
     cases r5 with
     | some er=>
      have HE:Hid (m=some er):=HM3.out er rfl;obtain⟨b',rfl,_⟩:=hv;clear x2 x3 x4;go_wp2;go_ret;exact⟨⟨_,rfl,by rw[HE.out];exact HV.out⟩,B5.out⟩
     | none=>
      obtain rfl:v=.pointer none:=hv;have HE:Hid (m=if f.result≠0/\ki f.body=false then some (54,f.aW)else none):=HM4.out (by first|rfl|trivial);have KE:=aQ (endT f.body (.slice A3 f.body.length c3) w5 B (by have:=B5.out.size;omega) (HBod.out _ B5.out));clear HV HM3 HM4;by_cases h0:f.result=0
      ·have q:(f.result != 0)=false:=by rw[h0];rfl
       have HE2:Hid (m=none):=by show _=_;rw[HE.out,if_neg (by simp[h0])]
       clear h0 HE KE;go_wp2;go_ret;exact⟨⟨_,rfl,by rw[HE2.out];rfl⟩,B5.out⟩
      ·have q:(f.result != 0)=true:=by rw[bne_iff_ne];exact h0
       cases hen:ki f.body with
       | true=>
        rw[hen]at KE;have HE2:Hid (m=none):=by show _=_;rw[HE.out,if_neg (by simp[hen])]
        clear h0 HE hen
        go_wp2_with fail
        with_reducible refine KE.out.mono ?_
        rintro e w6⟨rfl,b6⟩;have B6:=aQ (zd B5.out b6 B5.out.size);clear b6 x2 x3 x4;go_wp2;go_ret;exact⟨⟨_,rfl,by rw[HE2.out];rfl⟩,B6.out⟩
       | false=>
        rw[hen]at KE;have HE2:Hid (m=some (54,f.aW)):=by show _=_;rw[HE.out,if_pos ⟨h0,hen⟩]
        clear h0 HE hen
        go_wp2_with fail
        with_reducible refine KE.out.mono ?_
        rintro e w6⟨rfl,b6⟩;have B6:=aQ (zd B5.out b6 B5.out.size);replace x4:=zb x4 b6;clear b6 x2 x3;go_wp2;go_ret;exact⟨⟨_,rfl,by rw[HE2.out];exact xK _ 54 f.aW⟩,B6.out.alloc B6.out.size _⟩
def zdk(fs:List Xf)(ks:List Two)(h:ks.length=fs.length)(f:Xf)(k:Two):tabC (fs++[f]) (ks++[k])=tabC fs ks++[(f.name,.agg (xfC f k.p k.b).toArray)]:=by
 unfold tabC;rw[List.zipWith_append h.symm];rfl
def kh:List Xf×List Two->Xf×Two->Er×(List Xf×List Two):=fun s a=>if s.1.any (fun g=>g.name==a.1.name)then(some (53,a.1.aW),s)else(none,(s.1++[a.1],s.2++[a.2]))
def runZ:∀(fs:List Xf) (ks:List Two) (s:List Xf×List Two),ks.length=fs.length->(runL kh s (fs.zip ks)).1=(runL wX s.1 fs).1/\((runL kh s (fs.zip ks)).1=none->(runL kh s (fs.zip ks)).2=(s.1++fs,s.2++ks))
 | [],[],s,_=>by simp[runL]
 | [],k::ks,s,h=>by simp at h
 | f::fs,[],s,h=>by simp at h
 | f::fs,k::ks,s,h=>by
  have ih:=runZ fs ks (s.1++[f],s.2++[k]) (by simpa using h);rw[List.zip_cons_cons];by_cases ha:s.1.any (fun g=>g.name==f.name)=true
  ·have h1:kh s (f,k)=(some (53,f.aW),s):=if_pos ha;have h2:wX s.1 f=(some (53,f.aW),s.1):=if_pos ha;unfold runL;rw[h1,h2];exact⟨rfl,fun h=>by cases h⟩
  ·have h1:kh s (f,k)=(none,(s.1++[f],s.2++[k])):=if_neg ha;have h2:wX s.1 f=(none,s.1++[f]):=if_neg ha;unfold runL;rw[h1,h2];refine⟨ih.1,fun h=>?_⟩;have:=ih.2 h;rw[this];simp
def za6(T:Tab5):Unit->Xf×Two->Er×Unit:=fun _ a=>(funM T a.1,())
def runY(T:Tab5):∀(fs:List Xf) (ks:List Two),ks.length=fs.length->(runL (za6 T) () (fs.zip ks)).1=(runL (fun(_:Unit) f=>(funM T f,())) () fs).1
 | [],[],_=>by simp[runL]
 | [],k::ks,h=>by simp at h
 | f::fs,[],h=>by simp at h
 | f::fs,k::ks,h=>by
  have ih:=runY T fs ks (by simpa using h);rw[List.zip_cons_cons];unfold runL;rcases hm:funM T f with _|e
  ·have h1:za6 T () (f,k)=(none,()):=by simp[za6,hm]
   rw[h1];exact ih
  ·have h1:za6 T () (f,k)=(some e,()):=by simp[za6,hm]
   rw[h1]
def zcj:∀(l:List Xf) (ks:List Two),xfsC l ks=(l.zip ks).flatMap fun a=>xfC a.1 a.2.p a.2.b
 | [],_=>by simp[xfsC]
 | _::_,[]=>by simp[xfsC]
 | e::l,k::ks=>by
  have:=zcj l ks;unfold xfsC at this⊢;rw[List.zipWith_cons_cons,List.flatten_cons,this,List.zip_cons_cons,List.flatMap_cons]
def zmx(s:List Nat)(fs:List Xf)(h:fs.find? (fun f=>f.name==s)=none):fs.any (fun g=>g.name==s)=false:=by
 rw[List.any_eq_false];intro x hx;have:=List.find?_eq_none.1 h x hx;simpa using this
def find_any'(s:List Nat)(fs:List Xf)(f:Xf)(h:fs.find? (fun f=>f.name==s)=some f):fs.any (fun g=>g.name==s)=true:=by
 rw[List.any_eq_true];have h1:=List.find?_some h;exact⟨f,List.mem_of_find?_eq_some h,h1⟩
def ztb(f:Xf)(hn:Byn f.name)(A2 A3:Option Addr)(c2 c3:Nat)(g b1:Nat)(fsA:List Xf)(ksA:List Two)(hk:ksA.length=fsA.length)(hsl:∀k∈ksA,(∃A n c,k.p=.slice A n c)/\∃A n c,k.b=.slice A n c)(w:World)(hm:qs w g (tabC fsA ksA))(h1:w.cell? ⟨b1,0,none⟩=some (.map (some g)))(n1:g≠b1):Calls prog 134 #[.agg #[.string (strN f.name),.slice A2 f.params.length c2,.int .i64 f.result,.slice A3 f.body.length c3,.int .i64 f.aW],.pointer (some ⟨b1,0,none⟩)] w fun x w'=>
   FOut (kh (fsA,ksA) (f,⟨.slice A2 f.params.length c2,.slice A3 f.body.length c3⟩)).1 x w'/\((kh (fsA,ksA) (f,⟨.slice A2 f.params.length c2,.slice A3 f.body.length c3⟩)).1=none->qs w' g (tabC (kh (fsA,ksA) (f,⟨.slice A2 f.params.length c2,.slice A3 f.body.length c3⟩)).2.1 (kh (fsA,ksA) (f,⟨.slice A2 f.params.length c2,.slice A3 f.body.length c3⟩)).2.2))/\w.grownBy w' (some g):=by
 have hgl:=hm.lt;have BA1:=za w (xfO f.name (.slice A2 f.params.length c2) f.result (.slice A3 f.body.length c3) f.aW);have BA:=aQ BA1;obtain⟨z0,z1,z2,z3,z4⟩:=yL w f.name (.slice A2 f.params.length c2) f.result (.slice A3 f.body.length c3) f.aW;have y1:=zb h1 BA1;have hm1:=qs.of hm (BA1.block _ hgl);have HMp:=aQ hm1;have hrun:=yd hm1 hn;have HL:Hid (w.heap.size<(w.alloc (xfO f.name (.slice A2 f.params.length c2) f.result (.slice A3 f.body.length c3) f.aW)).heap.size):=by show _<_;simp
 have HGL:=aQ hgl;rcases vP f.name fsA ksA hk with⟨hf,hsk⟩|⟨i,f',k',_,hki,hf,hsk⟩
 ·have HE:Hid (kh (fsA,ksA) (f,⟨.slice A2 f.params.length c2,.slice A3 f.body.length c3⟩)=(none,(fsA++[f],ksA++[⟨.slice A2 f.params.length c2,.slice A3 f.body.length c3⟩]))):=by
   show _=_;unfold kh;rw[if_neg (by rw[show(fsA,ksA).1=fsA from rfl,zmx _ _ hf];simp)]
  have HSK:=aQ hsk;rw[hsk]at hrun;simp only[Option.getD_none,Option.isSome_none]at hrun;have HK:=aQ hk;have HNm:=aQ hn;clear hm h1 hm1 hf hsk BA1 hk hn n1 hgl;go_enter func134,ntmps134;go_upto_region 1 with fail
  generalize w.alloc (.cells #[.string (strN f.name),.slice A2 f.params.length c2,.int .i64 f.result,.slice A3 f.body.length c3,.int .i64 f.aW] 69)=w0 at *
  (go_upto_region 4 with fail);have B2:=za w0 (.cells #[.string ⟨#[]⟩,.slice none 0 0,.int .i64 0,.slice none 0 0,.int .i64 0] 69);have x0:=zb z0 B2;have x1:=zb z1 B2;have x2:=zb z2 B2;have x3:=zb z3 B2;have x4:=zb z4 B2;have u1:=zb y1 B2;have HM2:=aQ (qs.of HMp.out (B2.block _ HMp.out.lt));have HB:=aQ (zd BA.out B2 BA.out.size);clear z0 z1 z2 z3 z4 y1 B2 BA HMp hrun
  generalize w0.alloc (.cells #[.string ⟨#[]⟩,.slice none 0 0,.int .i64 0,.slice none 0 0,.int .i64 0] 69)=w1 at *
  obtain⟨w2,hup,hm2,hg2,hz2⟩:=zbi HM2.out HNm.out HSK.out underlying96 (.agg #[.string (strN f.name),.slice A2 f.params.length c2,.int .i64 f.result,.slice A3 f.body.length c3,.int .i64 f.aW]);have HM3:=aQ hm2;have HG:=aQ (zQ (zT HB.out (some g)) hg2);clear hm2 hg2 hz2 HM2;go_wp2;go_ret;exact⟨⟨_,rfl,by rw[HE.out];rfl⟩,fun _=>by rw[HE.out,zdk _ _ HK.out];exact HM3.out,HG.out⟩
 ·have HE:Hid (kh (fsA,ksA) (f,⟨.slice A2 f.params.length c2,.slice A3 f.body.length c3⟩)=(some (53,f.aW),(fsA,ksA))):=by
   show _=_;unfold kh;rw[if_pos (find_any' _ _ _ hf)]
  rw[hsk]at hrun;simp only[Option.getD_some,Option.isSome_some]at hrun;obtain⟨⟨A6,n6,c6,h6⟩,A7,n7,c7,h7⟩:=hsl k' (wM hki);unfold xfC at hrun;rw[h6,h7]at hrun;clear hm h1 hm1 hf hsk BA1 hk hn n1 hgl h6 h7 hki hsl;go_enter func134,ntmps134;go_upto_region 1 with fail
  generalize w.alloc (.cells #[.string (strN f.name),.slice A2 f.params.length c2,.int .i64 f.result,.slice A3 f.body.length c3,.int .i64 f.aW] 69)=w0 at *
  (go_upto_region 3 with fail);have B2:=za w0 (.cells #[.string (strN f'.name),.slice A6 n6 c6,.int .i64 f'.result,.slice A7 n7 c7,.int .i64 f'.aW] 69);have x4:=zb z4 B2;have HB:=aQ (zd BA.out B2 BA.out.size);clear z0 z1 z2 z3 z4 y1 B2 BA hrun
  generalize w0.alloc (.cells #[.string (strN f'.name),.slice A6 n6 c6,.int .i64 f'.result,.slice A7 n7 c7,.int .i64 f'.aW] 69)=w1 at *
  go_wp2;go_ret;exact⟨⟨_,rfl,by rw[HE.out];exact xK w1 53 f.aW⟩,fun h=>(by rw[HE.out]at h;cases h),zT (HB.out.alloc HB.out.size _) _⟩
def zcq{l:List Xs}{V:Value}(h:XssC w D l V):∃A n c,V=.slice A n c:=by obtain⟨A,c,e⟩:=zt h;exact⟨A,_,c,e⟩
structure PgI(B g b1:Nat)(fs:List Xf)(ks:List Two)(V:Value)(s:List Xf×List Two)(w:World):Prop where
 len:s.2.length=s.1.length
 map:qs w g (tabC s.1 s.2)
 sl:∀k∈s.2,(∃A n c,k.p=.slice A n c)/\∃A n c,k.b=.slice A n c
 c1:w.cell? ⟨b1,0,none⟩=some (.map (some g))
 row:XfsC w (Lo B) fs ks V
 n1:g≠b1
 n2:B<=g
def PgI.below{fs:List Xf}{ks:List Two}{V:Value}{s:List Xf×List Two}(h:PgI B g b1 fs ks V s w)(hb:Below w.heap.size w w'):PgI B g b1 fs ks V s w':=
 ⟨h.len,h.map.of (hb.block _ h.map.lt),h.sl,zb h.c1 hb,h.row.same (zk hb (by have:=h.map.lt;have:=h.n2;omega)),h.n1,h.n2⟩
def zpy(B g b1:Nat)(fs:List Xf)(ks:List Two)(V:Value)(s:List Xf×List Two)(w:World)(h:PgI B g b1 fs ks V s w):Calls prog 133 #[V,.func (.func 134) #[] #[.pointer (some ⟨b1,0,none⟩)]] w fun x w'=>FOut (runL kh s (fs.zip ks)).1 x w'/\((runL kh s (fs.zip ks)).1=none->PgI B g b1 fs ks V (runL kh s (fs.zip ks)).2 w')/\w.grownBy w' (some g):=by
 have hz:(fs.zip ks).length=fs.length:=by rw[List.length_zip];have:=h.row.1;omega
 refine zpa kh (fun a=>.string (strN a.1.name)) (fun a=>a.2.p) (fun a=>.int .i64 a.1.result) (fun a=>a.2.b) (fun a=>.int .i64 a.1.aW) (fun s w=>PgI B g b1 fs ks V s w) (some g) (fs.zip ks) V B 134 #[.pointer (some ⟨b1,0,none⟩)] (by intro args w;simp)
  (fun _ _ _ h hb=>h.below hb) (fun _ w h=>?_) ?_ ?_ s w h
 ·rw[hz];have:=h.row.2.1;rw[zcj]at this;exact this
 ·intro a ha u hu;obtain⟨i,g1,g2⟩:=jm ha;have hx:=h.row.2.2 i a.1 a.2 g1 g2;obtain⟨A2,c2,e2⟩:=hx.params.slice5;obtain⟨A3,n3,c3,e3⟩:=zcq hx.body;simp at hu;rcases hu with rfl|rfl|rfl|rfl|rfl<;>first|rfl|(rw[e2];rfl)|(rw[e3];rfl)
 ·intro s1 a w1 ha h1;obtain⟨i,g1,g2⟩:=jm ha;have hx:=h1.row.2.2 i a.1 a.2 g1 g2;obtain⟨A2,c2,e2⟩:=hx.params.slice5;obtain⟨A3,c3,e3⟩:=zt hx.body;obtain⟨f,k⟩:=a;obtain⟨kp,kb⟩:=k;simp only at e2 e3 hx;subst e2 e3;obtain⟨fsA,ksA⟩:=s1;refine(ztb f hx.name A2 A3 c2 c3 g b1 fsA ksA h1.len h1.sl w1 h1.map h1.c1 h1.n1).mono ?_;rintro e w2 ⟨ho,hm,hg⟩;refine⟨ho,fun hh=>⟨?_,hm hh,?_,qp h1.c1 hg h1.n1,h1.row.same fun k hk=>hg.block k (by have:=h1.map.lt;have:=h1.n2;unfold Lo at hk;omega) (by intro e;injection e with e;have:=h1.n2;unfold Lo at hk;omega),h1.n1,h1.n2⟩,hg⟩
  ·have hl:=h1.len;unfold kh at hh⊢
   split at hh
   ·cases hh
   ·rename_i hq
    rw[if_neg hq];simpa using hl
  ·have hl:=h1.sl;unfold kh at hh⊢
   split at hh
   ·cases hh
   ·rename_i hq
    rw[if_neg hq];intro k hk;rcases List.mem_append.1 hk with hk|hk
    ·exact hl k hk
    ·simp at hk;subst hk;exact⟨⟨_,_,_,rfl⟩,_,_,_,rfl⟩
def zr4(f:Xf)(A2 A3:Option Addr)(c2 c3:Nat)(B g b1:Nat)(fs:List Xf)(w:World)(hg:B<=g)(ht:Tb w B g fs)(hk:XfK w (Lo B) f ⟨.slice A2 f.params.length c2,.slice A3 f.body.length c3⟩)(h1:w.cell? ⟨b1,0,none⟩=some (.map (some g))):Calls prog 135 #[.agg #[.string (strN f.name),.slice A2 f.params.length c2,.int .i64 f.result,.slice A3 f.body.length c3,.int .i64 f.aW],.pointer (some ⟨b1,0,none⟩)] w fun x w'=>FOut (funM (zh fs) f) x w'/\Below w.heap.size w w':=by
 have BA1:=za w (xfO f.name (.slice A2 f.params.length c2) f.result (.slice A3 f.body.length c3) f.aW);have BA:=aQ BA1;obtain⟨z0,z1,z2,z3,z4⟩:=yL w f.name (.slice A2 f.params.length c2) f.result (.slice A3 f.body.length c3) f.aW;have y1:=zb h1 BA1;have K:=aQ (funC f A2 A3 c2 c3 B g fs _ hg (ht.below BA1 hg) (hk.same (zk BA1 (by have:=ht.lt;omega))))
 generalize funM (zh fs) f=m at *
 clear ht hk h1 BA1;go_enter func135,ntmps135;go_upto_region 1 with fail
 generalize w.alloc (.cells #[.string (strN f.name),.slice A2 f.params.length c2,.int .i64 f.result,.slice A3 f.body.length c3,.int .i64 f.aW] 69)=w0 at *
 go_wp2_with fail
 with_reducible refine K.out.mono ?_
 rintro e w1⟨⟨v,rfl,hv⟩,b1'⟩;have HV:=aQ hv;have HB:=aQ (zd BA.out b1' BA.out.size);clear hv b1' K z0 z1 z2 z3 z4 y1;go_wp2;go_ret;exact⟨⟨_,rfl,HV.out⟩,HB.out⟩
def zoc(B g b1:Nat)(fs:List Xf)(ks:List Two)(V:Value)(w:World)(h:PgI B g b1 fs ks V (fs,ks) w):Calls prog 133 #[V,.func (.func 135) #[] #[.pointer (some ⟨b1,0,none⟩)]] w fun x w'=>FOut (runL (za6 (zh fs)) () (fs.zip ks)).1 x w'/\Below w.heap.size w w':=by
 have hz:(fs.zip ks).length=fs.length:=by rw[List.length_zip];have:=h.row.1;omega
 refine(zpa (za6 (zh fs)) (fun a=>.string (strN a.1.name)) (fun a=>a.2.p) (fun a=>.int .i64 a.1.result) (fun a=>a.2.b) (fun a=>.int .i64 a.1.aW) (fun _ w=>PgI B g b1 fs ks V (fs,ks) w) none (fs.zip ks) V B 135 #[.pointer (some ⟨b1,0,none⟩)] (by intro args w;simp)
  (fun _ _ _ h hb=>h.below hb) (fun _ w h=>?_) ?_ ?_ () w h).mono ?_
 ·rw[hz];have:=h.row.2.1;rw[zcj]at this;exact this
 ·intro a ha u hu;obtain⟨i,g1,g2⟩:=jm ha;have hx:=h.row.2.2 i a.1 a.2 g1 g2;obtain⟨A2,c2,e2⟩:=hx.params.slice5;obtain⟨A3,n3,c3,e3⟩:=zcq hx.body;simp at hu;rcases hu with rfl|rfl|rfl|rfl|rfl<;>first|rfl|(rw[e2];rfl)|(rw[e3];rfl)
 ·intro _ a w1 ha h1;obtain⟨i,g1,g2⟩:=jm ha;have hx:=h1.row.2.2 i a.1 a.2 g1 g2;obtain⟨A2,c2,e2⟩:=hx.params.slice5;obtain⟨A3,c3,e3⟩:=zt hx.body;obtain⟨f,k⟩:=a;obtain⟨kp,kb⟩:=k;simp only at e2 e3 hx;subst e2 e3;have ht:Tb w1 B g fs:=⟨ks,h1.len,h1.map,fun i f k a b=>⟨(h1.row.2.2 i f k a b).params,zcq (h1.row.2.2 i f k a b).body⟩⟩;refine(zr4 f A2 A3 c2 c3 B g b1 fs w1 h1.n2 ht hx h1.c1).mono ?_;rintro e w2 ⟨ho,hb⟩;exact⟨ho,fun _=>h1.below hb,wK hb⟩
 ·rintro e w' ⟨ho,_,hg⟩;exact⟨ho,j6 hg⟩
def zig(fs:List Xf)(ks:List Two)(A:Option Addr)(c:Nat)(w:World)(B:Nat)(hB:B<=w.heap.size)(hr:XfsC w (Lo B) fs ks (.slice A fs.length c)):Calls prog 93 #[.agg #[.slice A fs.length c]] w fun x w'=>FOut (kD fs) x w'/\Below w.heap.size w w':=by
 have BA1:=za w (.cells #[.slice A fs.length c] 26);have BA:=aQ BA1;have z0:(w.alloc (.cells #[.slice A fs.length c] 26)).cell? ⟨w.heap.size,0,none⟩=some (.slice A fs.length c):=by rw[wy _ _ _ _ _ _ (ye w _)];rfl
 have HRow:=aQ hr;have hmm:∀(t:TypeId) (w:World),(Instr.makeMap t none).run prog w=.ok (.map (some w.heap.size)) (w.alloc (.map #[] 0)):=fun t w=>run_makeMap t w;have hmf:=hmf5;have hmx:=hr.2.1.len5;have hkl:=hr.1;have HM0:Hid (fs.length > 64->kD fs=some (2,0)):=fun h=>by simp[kD,h]
 have HM1:Hid (∀e,¬fs.length > 64->(runL kh ([],[]) (fs.zip ks)).1=some e->kD fs=some e):=fun e h h2=>by
  rw[(runZ fs ks ([],[]) hkl).1]at h2;simp only[kD];rw[if_neg h];simp only at h2;rw[h2]
 have HM2:Hid (¬fs.length > 64->(runL kh ([],[]) (fs.zip ks)).1=none->kD fs=(runL (za6 (zh fs)) () (fs.zip ks)).1/\(runL kh ([],[]) (fs.zip ks)).2=(fs,ks)):=fun h h2=>by
  have h3:=(runZ fs ks ([],[]) hkl).2 h2;rw[(runZ fs ks ([],[]) hkl).1]at h2;refine⟨?_,by simpa using h3⟩;rw[runY _ _ _ hkl];simp only[kD];rw[if_neg h];simp only at h2;rw[h2]
 generalize kD fs=m at *
 clear hr BA1 hkl;by_cases h64:fs.length > 64
 ·have q:(64:Int)<fs.length:=by omega
  have HE:Hid (m=some (2,0)):=HM0.out h64;clear h64;go_enter func93,ntmps93;go_wp2;go_ret;exact⟨⟨_,rfl,by rw[HE.out];exact ztc _ 2 0 _ (by simp)⟩,BA.out.alloc BA.out.size _⟩
 ·have q:¬(64:Int)<fs.length:=by omega
  replace HM1:=aQ (fun e=>HM1.out e h64);replace HM2:=aQ (HM2.out h64);clear h64 HM0;go_enter func93,ntmps93;(go_upto_region 1 with fail);have HL:Hid (w.heap.size<(w.alloc (.cells #[.slice A fs.length c] 26)).heap.size):=by show _<_;simp
  generalize w.alloc (.cells #[.slice A fs.length c] 26)=w0 at *
  (go_upto_region 4 with fail);have BX1:=za w0 (.map #[] 0);have BX2:=za (w0.alloc (.map #[] 0)) (.cells #[.map (some w0.heap.size)] 96);have BX:=zd BX1 BX2 BX1.size;have hl0:=HL.out;have c1:((w0.alloc (.map #[] 0)).alloc (.cells #[.map (some w0.heap.size)] 96)).cell? ⟨w0.heap.size+1,0,none⟩=some (.map (some w0.heap.size)):=by
   rw[show w0.heap.size+1=(w0.alloc (.map #[] 0)).heap.size by simp,wy _ _ _ _ _ _ (ye _ _)];rfl
  have hI:PgI B w0.heap.size (w0.heap.size+1) fs ks (.slice A fs.length c) ([],[]) ((w0.alloc (.map #[] 0)).alloc (.cells #[.map (some w0.heap.size)] 96)):=
   ⟨rfl,qs.of (qs.made w0) (BX2.block _ (by simp)),(fun k hk=>by cases hk),c1,HRow.out.same (zk (zd BA.out BX BA.out.size) hB),by omega,by omega⟩
  have K1:=aQ (zpy B w0.heap.size (w0.heap.size+1) fs ks (.slice A fs.length c) ([],[]) _ hI);have x0:=zb z0 BX;have HB:=aQ (zd BA.out BX BA.out.size);clear hI BX1 BX2 BX c1 z0 BA HRow hl0
  generalize(w0.alloc (.map #[] 0)).alloc (.cells #[.map (some w0.heap.size)] 96)=w2 at *
  generalize w0.heap.size=g at *
  go_wp2_with fail
  with_reducible refine K1.out.mono ?_
  rintro e w3⟨⟨v,rfl,hv⟩,hn,hg⟩;have HV:=aQ hv;have HN:=aQ hn;have x1:=qp x0 hg (by have:=HL.out;show g≠w.heap.size;omega);have HB3:=aQ (km HB.out hg (by have:=HL.out;omega) HB.out.size);clear hn hg K1 x0 HB
  generalize hr1:runL kh ([],[]) (fs.zip ks)=r1 at *
  obtain⟨r1,st⟩:=r1
  simp only at *
  cases r1 with
  | some er=>
   have HE:Hid (m=some er):=HM1.out er rfl;obtain⟨b',rfl,_⟩:=hv;clear x1 hr1;go_wp2;go_ret;exact⟨⟨_,rfl,by rw[HE.out];exact HV.out⟩,HB3.out⟩
  | none=>
   obtain rfl:v=.pointer none:=hv;have hM:=HM2.out (by first|rfl|trivial);have HE:Hid (m=(runL (za6 (zh fs)) () (fs.zip ks)).1):=hM.1;have hI:=HN.out (by first|rfl|trivial);rw[hM.2]at hI;have K2:=aQ (zoc B g (g+1) fs ks (.slice A fs.length c) w3 hI);clear hM hI HV HN HM1 HM2 hr1
   generalize(runL (za6 (zh fs)) () (fs.zip ks)).1=r2 at *
   go_wp2_with fail
   with_reducible refine K2.out.mono ?_
   rintro e w4⟨⟨v,rfl,hv⟩,hb⟩;have HV:=aQ hv;have HB4:=aQ (zd HB3.out hb HB3.out.size);clear hv hb K2 x1;go_wp2;go_ret;exact⟨⟨_,rfl,by rw[HE.out];exact HV.out⟩,HB4.out⟩
def je(fs:List Xf):Int×Int:=(kD fs).getD (0,0)
def zpj(fs:List Xf)(ks:List Two)(A:Option Addr)(c:Nat)(w:World)(B:Nat)(hB:B<=w.heap.size)(hr:XfsC w (Lo B) fs ks (.slice A fs.length c)):Calls prog 56 #[.agg #[.slice A fs.length c]] w fun e w'=>e=.returned (.tuple #[.int .i64 (je fs).1,.int .i64 (je fs).2])/\Below w.heap.size w w':=by
 have BA1:=za w (.cells #[.slice A fs.length c] 26);have BA:=aQ BA1;have z0:(w.alloc (.cells #[.slice A fs.length c] 26)).cell? ⟨w.heap.size,0,none⟩=some (.slice A fs.length c):=by rw[wy _ _ _ _ _ _ (ye w _)];rfl
 have K:=aQ (zig fs ks A c _ B (by have:=BA1.size;omega) (hr.same (zk BA1 hB)));unfold je
 generalize kD fs=m at *
 clear hr BA1;go_enter func56,ntmps56;go_upto_region 1 with fail
 generalize w.alloc (.cells #[.slice A fs.length c] 26)=w0 at *
 go_wp2_with fail
 with_reducible refine K.out.mono ?_
 rintro e w1⟨⟨v,rfl,hv⟩,hb⟩;have HB:=aQ (zd BA.out hb BA.out.size);clear hb K z0;cases m with
 | none=>
  obtain rfl:v=.pointer none:=hv;go_wp2
  go_ret2
  exact⟨rfl,HB.out⟩
 | some er=>
  obtain⟨b',rfl,hbb⟩:=hv;have y0:w1.cell? ⟨b',0,none⟩=some (.int .i64 er.1):=by rw[wy _ _ _ _ _ _ hbb];rfl
  have y1:w1.cell? ⟨b',1,none⟩=some (.int .i64 er.2):=by rw[wy _ _ _ _ _ _ hbb];rfl
  clear hbb;(go_upto_region 3 with fail);go_quiet (fail);go_wp2
  go_ret2
  exact⟨rfl,zW HB.out _⟩
end
end
section
open Go.RowKit Go.MapKept
variable [Prt]
def zhk:∀ {l:List (List Nat×Value)},(∀p∈l,p.1≠s)->updV l s u=l++[(s,u)]
 | [],_=>rfl
 | p::l,h=>by
  unfold updV;rw[if_neg (h p (by simp)),zhk fun q hq=>h q (by simp[hq])];rfl
def zbn:∀ {l seen:List Xf},(runL wX seen l).1=none->∀(i:Nat) (f:Xf),l[i]? =some f->(∀g∈seen,g.name≠f.name)/\∀j g,j<i->l[j]? =some g->g.name≠f.name
 | [],_,_,i,f,h=>by simp at h
 | x::l,seen,h,i,f,hf=>by
  unfold runL wX at h;by_cases hx:seen.any (fun g=>g.name==x.name)=true
  ·rw[if_pos hx]at h;cases h
  ·rw[if_neg hx]at h;dsimp only at h;have ih:=zbn h;have hx':∀g∈seen,g.name≠x.name:=by
    intro g hg e;exact hx (List.any_eq_true.2 ⟨g,hg,by simp[e]⟩)
   cases i with
   | zero=>
    simp at hf;subst hf;exact⟨hx',fun j g hj=>by omega⟩
   | succ i=>
    have h1:=ih i f (by simpa using hf);refine⟨fun g hg=>h1.1 g (by simp[hg]),fun j g hj hg=>?_⟩;cases j with
    | zero=>simp at hg;subst hg;exact h1.1 _ (by simp)
    | succ j=>exact h1.2 j g (by omega) (by simpa using hg)
def zok{fs:List Xf}{ks:List Two}{f:Xf}{k:Two}(hf:fs[j]? =some f)(hk:ks[j]? =some k):tabC (fs.take (j+1)) (ks.take (j+1))=tabC (fs.take j) (ks.take j)++[(f.name,.agg (xfC f k.p k.b).toArray)]:=by
 have h1:fs.take (j+1)=fs.take j++[f]:=by rw[List.take_add_one,hf];rfl
 have h2:ks.take (j+1)=ks.take j++[k]:=by rw[List.take_add_one,hk];rfl
 have l1:=(vm.1 hf).1;have l2:=(vm.1 hk).1;rw[h1,h2,zdk _ _ (by simp;omega)]
def XfsC.getV{l:List Xf}{ks:List Two}{V:Value}(h:XfsC w D l ks V){f:Xf}(he:l[i]? =some f):∃(kb ko c:Nat) (k:Two) (A1 A2:Option Addr) (c1 c2:Nat),V=.slice (some ⟨kb,ko,none⟩) l.length c/\l.length<=c/\c<=maxLen/\ks[i]? =some k/\k.p=.slice A1 f.params.length c1/\k.b=.slice A2 f.body.length c2 /\
  w.rangeAt kb (ko+i*5) [.string (strN f.name),.slice A1 f.params.length c1,.int .i64 f.result,.slice A2 f.body.length c2,.int .i64 f.aW]/\XfK w D f k:=by
 obtain⟨hk,h1,h2⟩:=h;have hi:=(vm.1 he).1;obtain⟨k,hk'⟩:∃k,ks[i]? =some k:=⟨ks[i]'(by omega),vp _⟩;have hx:=h2 i f k he hk';have hg:=fun j hj=>ky (f:=fun(f:Xf) (k:Two)=>xfC f k.p k.b) (m:=5) (fun _ _=>rfl) l ks i j f k he hk' hj;obtain⟨A1,c1,e1⟩:=hx.params.slice5;obtain⟨A2,c2,e2⟩:=zt hx.body
 obtain⟨b,o,c,rfl,a1,a2,a3,a4⟩:=h1.plain5 (by
  intro e0;have:=hg 0 (by omega);unfold xfsC at e0;rw[e0]at this
  simp[xfC]at this)
 refine⟨b,o,c,k,A1,A2,c1,c2,rfl,a1,a2,hk',e1,e2,fun j v hv=>?_,hx⟩;have hj:j<5:=by
  have:=(vm.1 hv).1;simpa using this
 rw[Nat.add_assoc];refine a4 _ v ((hg j hj).trans ?_);show(xfC f k.p k.b)[j]? =_;rw[e1,e2];exact hv
def zrc:(prog.info? 69).map (·.size)=some 5:=by kernel_rfl
def CbS(w:World)(g:Nat)(fs:List Xf)(ks:List Two)(k:Nat)(i:Value)(wr:World):Prop:=
 ∃j:Nat,i=.int .i64 j/\k+j=fs.length/\qs wr g (tabC (fs.take j) (ks.take j))/\Below w.heap.size w wr
def zh8(fs:List Xf)(ks:List Two)(A:Option Addr)(c:Nat)(w:World)(B:Nat)(hB:B<=w.heap.size)(hr:XfsC w (Lo B) fs ks (.slice A fs.length c))(hp:kD fs=none):Calls prog 42 #[.agg #[.slice A fs.length c]] w fun e w'=>e=.returned (.map (some (w.heap.size+1)))/\qs w' (w.heap.size+1) (tabC fs ks)/\Below w.heap.size w w':=by
 have hl:fs.length<=9223372036854775807:=hr.2.1.len5;have htw:(runL wX [] fs).1=none:=by
  unfold kD at hp
  split at hp
  ·cases hp
  ·split at hp
   ·cases hp
   ·assumption
 have HTW:=aQ (zbn htw);have HR:=aQ hr;have hcm:je fs=(0,0):=by unfold je;rw[hp];rfl
 have K0:Hid (∀w',B<=w'.heap.size->XfsC w' (Lo B) fs ks (.slice A fs.length c)->Calls prog 56 #[.agg #[.slice A fs.length c]] w' fun e w''=>e=.returned (.tuple #[.int .i64 0,.int .i64 0])/\Below w'.heap.size w' w''):=fun w' h1 h2=>by
  have h:=zpj fs ks A c w' B h1 h2;rw[hcm]at h;exact h
 clear hr hp htw hcm;have hmm:∀(t:TypeId) (w:World),(Instr.makeMap t none).run prog w=.ok (.map (some w.heap.size)) (w.alloc (.map #[] 0)):=fun t w=>run_makeMap t w;have b1:=za w (.cells #[.slice A fs.length c] 26);have b2:=za (w.alloc (.cells #[.slice A fs.length c] 26)) (.map #[] 0);have z0:((w.alloc (.cells #[.slice A fs.length c] 26)).alloc (.map #[] 0)).cell? ⟨w.heap.size,0,none⟩=some (.slice A fs.length c):=zb (by rw[wy _ _ _ _ _ _ (ye w _)];rfl) b2;have hm:=qs.made (w.alloc (.cells #[.slice A fs.length c] 26));rw[aE]at hm;have HB0:=aQ (zd b1 b2 b1.size);have K:=aQ (K0.out _ (by have:=HB0.out.size;omega) (HR.out.same (xj HB0.out hB)));have HM0:=aQ hm;clear hm b1 b2;go_enter func42,ntmps42;go_upto_region 2 with fail
 clear hmm
 generalize(w.alloc (.cells #[.slice A fs.length c] 26)).alloc (.map #[] 0)=w0 at *
 go_wp2_with fail
 with_reducible refine K.out.mono ?_
 rintro e w1⟨rfl,hb⟩;have HM1:=aQ (HM0.out.of (hb.block _ HM0.out.lt));have HB1:=aQ (zd HB0.out hb HB0.out.size);have y0:=zb z0 hb;have HST:Hid (CbS w (w.heap.size+1) fs ks fs.length (.int .i64 0) w1):=⟨0,rfl,rfl,by simpa[tabC]using HM1.out,HB1.out⟩;clear hb K z0 HM0 HM1 HB0
 go_wp2_with fail
 go_loopg [20] fs.length (fun k i wr=>CbS w (w.heap.size+1) fs ks k i wr)
 case atStart=>exact HST.out
 case round=>
  obtain⟨j,rfl,hk,hm,hb⟩:=hrel;by_cases hlt:j<fs.length
  ·have hlt':(j:Int)<(fs.length:Int):=by omega
   obtain⟨f,hf⟩:∃f,fs[j]? =some f:=⟨_,vp hlt⟩;obtain⟨kb,ko,kc,k,A1,A2,c1,c2,hsl,p1,p2,hkk,ek1,ek2,hrg,hxf⟩:=(HR.out.same (xj hb hB)).getV hf;injection hsl with hA _ hcc
   subst hA hcc;have HRG:=aQ hrg;have BP:=za wr (.cells #[.string (strN f.name),.slice A1 f.params.length c1,.int .i64 f.result,.slice A2 f.body.length c2,.int .i64 f.aW] 69);obtain⟨x0,x1,x2,x3,x4⟩:=znn (ye wr (.cells #[.string (strN f.name),.slice A1 f.params.length c1,.int .i64 f.result,.slice A2 f.body.length c2,.int .i64 f.aW] 69));have hm1:=hm.of (BP.block _ hm.lt);have HNM:=aQ hxf.name;obtain⟨w2,hup,hm2,hg2,hz2⟩:=zf2 hm1 HNM.out underlying96 (.agg #[.string (strN f.name),.slice A1 f.params.length c1,.int .i64 f.result,.slice A2 f.body.length c2,.int .i64 f.aW]);have hnew:∀p∈tabC (fs.take j) (ks.take j),p.1≠f.name:=by
    intro p hp;unfold tabC at hp;obtain⟨i,hi,e⟩:=List.getElem_of_mem hp;have hi2:i<j:=by simp at hi;omega
    have:p.1=(fs[i]'(by omega)).name:=by rw[<- e];simp
    rw[this];exact(HTW.out j f hf).2 i _ hi2 (vp _)
   rw[zhk hnew]at hm2;have HM2:Hid (qs w2 (w.heap.size+1) (tabC (fs.take (j+1)) (ks.take (j+1)))):=by
    show qs _ _ _;rw[zok hf hkk];unfold xfC;rw[ek1,ek2];exact hm2
   have HB2:Hid (Below w.heap.size w w2):=hb.trans ((BP.mono hb.size).trans (show Below w.heap.size _ w2 from⟨hg2.os,hg2.tape,hg2.output,by have:=hg2.size;omega,fun b hb'=>hg2.block b (by have:=hb.size;simp;omega) (fun e=>by injection e with e;omega)⟩));have HK:=aQ hk;clear hk hm hb hf hrg hxf hm1 hm2 hg2 hz2 hnew BP hkk ek1 ek2
   go_wp2_with(first|(refine wpList_load_mid rfl 69 (.tmp 22) rfl kb (ko+j*5) rfl [.string (strN f.name),.slice A1 f.params.length c1,.int .i64 f.result,.slice A2 f.body.length c2,.int .i64 f.aW] _ HRG.out underlying69 rfl zrc ?_;refine Hid.out ?_)|fail)
   refine aQ ?_
   go_wp2_with fail
   go_roundg (fs.length-(j+1))
   case measure=>have:=HK.out;omega
   case rel=>exact⟨j+1,by simp,by have:=HK.out;omega,HM2.out,HB2.out⟩
  ·have hj:j=fs.length:=by omega
   have hnlt:¬(j:Int)<(fs.length:Int):=by omega
   have HF:Hid (qs wr (w.heap.size+1) (tabC fs ks)/\Below w.heap.size w wr):=by
    refine⟨?_,hb⟩;rw[hj,List.take_length,<- HR.out.1,List.take_length]at hm;exact hm
   clear hk hm hb hj hlt
   (go_wp2_with fail);go_ret;exact⟨rfl,HF.out.1,HF.out.2⟩
end
end Go.Proofs.YtcilgkdnjgmogaaGreatDoor
