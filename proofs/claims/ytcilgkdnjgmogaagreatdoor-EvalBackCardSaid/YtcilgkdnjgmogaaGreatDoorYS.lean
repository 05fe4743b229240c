/- A part of the proof. -/
import Derived.Deep.RegionHeld2
import Derived.Test.YtcilgkdnjgmogaaGreatDoorYR
namespace Go.Proofs.YtcilgkdnjgmogaaGreatDoor
open Go.Proofs.Tryz
set_option maxRecDepth 100000
set_option maxHeartbeats 12800000
set_option linter.all false
variable {A A0:Option Addr} {D:Nat->Prop} {K1 K2 K3 q:Value} {c cp g i kb ko m n0 o:Nat} {eo:Array Value} {n1 t0:Int} {w w' w0 w1 w2 wb:World}
section
open Go.RowKit Go.MapKept
variable [Prt]
def zta(X:Cx10)(n:Nat)(hE:EOk X n)(hEs:EsOk X n)(hC:COk X n):EOk X (n+1):=by
 intro c env e σ r w p ms v hc hr hs hv hsh hm;obtain⟨op,num,aZ,aX,aW⟩:=e;obtain⟨K,rfl,hy,hk⟩:=hv;obtain⟨A,cp,rfl⟩:=zu hk;by_cases o1:op=1
 ·subst o1;exact zsx X n c env σ w num aZ aX A cp aW p ms r hc hr hs hy hk hsh hm
 by_cases o2:op=2
 ·subst o2;exact zqd X n c env σ w num aZ aX A cp aW p ms r hc hr hs hy hk hsh hm
 by_cases o3:op=3
 ·subst o3;exact zqt X n c env σ w num aZ aX A cp aW p ms r hc hr hs hy hk hsh hm
 by_cases o4:op=4
 ·subst o4;exact zp0 X n c env σ w num aZ aX A cp aW p ms r hc hr hs hy hk hsh hm
 by_cases o5:op=5
 ·subst o5;exact zrm X n c env σ w num aZ aX A cp aW p ms r hEs hC hc hr hs hy hk hsh hm
 by_cases o6:op=6
 ·subst o6;exact zsb X n c env σ w num aZ aX A cp aW p ms r hE hc hr hs hy hk hsh hm
 exact zud X n c env σ w op num aZ aX A cp aW p ms r hE o1 o2 o3 o4 o5 o6 hc hr hs hy hk hsh hm
def zei{X:Cx10}{σ:Stt}(h:RunS X c σ w)(c':Nat):RunS X c' σ (w.setCell ⟨X.R,4,none⟩ (.int .i64 c'))/\Mv X.n0 NoM w (w.setCell ⟨X.R,4,none⟩ (.int .i64 c')):=by
 have hg:w.grownBy (w.setCell ⟨X.R,4,none⟩ (.int .i64 c')) (some X.R):=by
  refine⟨rfl,rfl,rfl,by simp[World.setCell],fun i _ hi=>?_⟩;exact zf _ _ _ _ _ fun e=>hi (by rw[e])
 have hc:=heap_setCell_same w X.R 4 _ _ (.int .i64 c') h.cell;obtain⟨h1,h2⟩:=h.own hg c' σ.used hc (Int.le_refl _) h.u1;exact⟨h1,Mv.own hg h2 h.sq⟩
def zgo{X:Cx10}{σ:Stt}(h:RunS X c σ w):w.frozen? ⟨X.R,4,none⟩=false:=by
 simp[World.frozen?,h.cell]
def zb2{o:Option Va}{x:Value}(h:RetV w o x):∃A cp b,x=.tuple #[VV (o.getD qe).t (o.getD qe).n (.slice A (o.getD qe).s.length cp),.bool b]/\VaC w (o.getD qe) (VV (o.getD qe).t (o.getD qe).n (.slice A (o.getD qe).s.length cp))/\b=o.isSome:=by
 cases o with
 | none=>exact⟨none,0,false,h,zca w,rfl⟩
 | some v=>
  obtain⟨u,rfl,hv⟩:=h;obtain⟨A,cp,rfl,_⟩:=xM hv;exact⟨A,cp,true,rfl,hv,rfl⟩
def Mv.only(h:Mv n0 NoM w w1)(k:Mv n0 (·∈[m]) w1 w2)(hm:w.heap.size<=m):Mv n0 NoM w w2:=
 ((NoM.mono h).trans k).less fun b hb e=>by have e:b=m:=(by simpa using e);omega
def ArgX.getk{V:Value}{vs:List Va}(h:ArgX n0 w V vs){v:Va}(hv:vs[i]? =some v):∃(kb ko c:Nat) (A0:Option Addr) (c0:Nat),V=.slice (some ⟨kb,ko,none⟩) vs.length c/\vs.length<=c/\c<=maxLen /\
  (w.cell? ⟨kb,ko+i*3,none⟩=some (.int .i64 v.t)/\w.cell? ⟨kb,ko+i*3+1,none⟩=some (.int .i64 v.n)/\w.cell? ⟨kb,ko+i*3+2,none⟩=some (.slice A0 v.s.length c0))/\VaC w v (VV v.t v.n (.slice A0 v.s.length c0)) /\
  ∀(M:Nat->Prop) (w':World),Mv n0 M w w'->(∀b,M b->n0<=b)->w'.heap[kb]? =w.heap[kb]?:=by
 obtain⟨D,ks,hk,h1,h2,h4⟩:=h.ex;have hi:=(vm.1 hv).1;have hk':ks[i]? =some ks[i]:=vp (by omega);generalize ks[i]=k at hk';have hg:=fun j hj=>ky (f:=vaC) (m:=3) (fun _ _=>rfl) vs ks i j v k hv hk' hj;obtain⟨g0,g1⟩:=h2 i v k hv hk';obtain⟨A0,c0,rfl,_⟩:=id g0
 obtain⟨b,o,c,rfl,a1,a2,a3,a4⟩:=h1.plain5 (by
  intro e0;have:=hg 0 (by omega);unfold vasC at e0;rw[e0]at this
  simp[vaC]at this)
 refine⟨b,o,c,A0,c0,rfl,a1,a2,⟨a4 _ _ ((hg 0 (by omega)).trans rfl),?_,?_⟩,⟨_,rfl,g0,g1⟩,fun M w' hm hM=>?_⟩
 ·rw[Nat.add_assoc];exact a4 _ _ ((hg 1 (by omega)).trans rfl)
 ·rw[Nat.add_assoc];exact a4 _ _ ((hg 2 (by omega)).trans rfl)
 ·obtain⟨p1,p2,p3⟩:=h4 b a3;exact hm.keep b p1 p2 fun hMb=>p3.elim (fun h=>absurd (hM b hMb) (by omega)) id
def Mv.new(h:Mv n0 NoM w w1)(k:Mv n0 (· =m) w1 w2)(hm:w.heap.size<=m):Mv n0 NoM w w2:=
 ((NoM.mono h).trans k).less fun b hb e=>by have:b=m:=e;omega
def ParS(X:Cx10)(c:Nat)(σ:Stt)(w:World)(f:Xf)(k:Two)(vs:List Va)(V:Value)(m:Nat)(fr:List (List Nat×Va))(q:Nat)(i:Value)(wr:World):Prop:=
 ∃(j:Nat) (fj:List (List Nat×Va)),i=.int .i64 j/\q+j=f.params.length/\jd (f.params.drop j) (vs.drop j) fj=some fr/\RunS X c σ wr/\ScAt X.n0 wr (.pointer (some ⟨m+1,0,none⟩)) [m] [fj]/\Mv X.n0 NoM w wr /\
  wr.heap[w.heap.size]? =some (.cells #[.string (strN f.name),k.p,.int .i64 f.result,k.b,.int .i64 f.aW] 69 (0,0))/\wr.heap[w.heap.size+1]? =some (.cells #[.int .i64 0,.int .i64 0,.slice none 0 0] 41 (0,0))/\ArgX X.n0 wr V vs
def znn{b:Nat}{result aW:Int}{s:ByteArray}{k1 k2:Value}(h:w.heap[b]? =some (.cells #[.string s,k1,.int .i64 result,k2,.int .i64 aW] 69 (0,0))):w.cell? ⟨b,0,none⟩=some (.string s)/\w.cell? ⟨b,1,none⟩=some k1/\w.cell? ⟨b,2,none⟩=some (.int .i64 result)/\w.cell? ⟨b,3,none⟩=some k2/\w.cell? ⟨b,4,none⟩=some (.int .i64 aW):=by
 refine⟨?_,?_,?_,?_,?_⟩<;>simp[World.cell?,h]
def zjs(w:World)(eo:Obj):((w.alloc eo).alloc zO).heap[w.heap.size]? =some eo/\((w.alloc eo).alloc zO).heap[w.heap.size+1]? =some (.cells #[.int .i64 0,.int .i64 0,.slice none 0 0] 41 (0,0))/\Below w.heap.size w ((w.alloc eo).alloc zO)/\((w.alloc eo).alloc zO).heap.size=w.heap.size+2:=⟨(qO w eo).e,(qO w eo).z,(qO w eo).b,(qO w eo).s⟩
def zte(X:Cx10)(n:Nat)(hB:BOk X n):COk X (n+1):=by
 intro c f k vs σ r w V hc hr hf hx hsh hm;have hn0:=hr.hn;obtain⟨kp,kbd⟩:=k;obtain⟨AP,cP,hkp⟩:=hf.params.slice5;obtain⟨AB,cB,hkb⟩:=zt hf.body;dsimp only at hkp hkb;subst hkp hkb;obtain⟨AV,cV,rfl⟩:=hx.len;have H2:=zjs w (.cells #[.string (strN f.name),.slice AP f.params.length cP,.int .i64 f.result,.slice AB f.body.length cB,.int .i64 f.aW] 69);obtain⟨w0,hw0⟩:∃w0,(w.alloc (.cells #[.string (strN f.name),.slice AP f.params.length cP,.int .i64 f.result,.slice AB f.body.length cB,.int .i64 f.aW] 69)).alloc zO=w0:=⟨_,rfl⟩;rw[hw0]at H2;obtain⟨h1,h2,h3,h4⟩:=H2;have HW0:=aQ hw0;have hr0:=hr.on h3;obtain⟨z0,z1,z2,z3,z4⟩:=xq hr0;obtain⟨x0,x1,x2,x3,x4⟩:=znn h1;have HN:=aQ hn0;unfold xo at hm;show Calls prog 47 #[.pointer (some ⟨X.R,0,none⟩),.agg #[.string (strN f.name),.slice AP f.params.length cP,.int .i64 f.result,.slice AB f.body.length cB,.int .i64 f.aW],.slice AV vs.length cV] w (qR X c NoM VaC w r);by_cases h16:c=16
 ·subst h16;rw[if_pos rfl]at hm;have H9:Hid (r=.trap 4 σ):=by show _=_;injection hm with h;exact h.symm
  have HF:=aQ (And.intro hr0 h3);clear hr hf hx hsh hm h1 h2 h3 h4 hw0 hr0 hB;go_enter func47,ntmps47;(go_upto_region 1 with fail);rw[HW0.out]
  (go_wp2_with fail);refine(kt 4 (by decide) _).mono ?_;rintro e w3 ⟨rfl,rfl⟩;exact⟨rfl,zy H9.out (.of HF.out.2) HF.out.1⟩
 ·rw[if_neg h16]at hm;have q16:((c:Int)==16)=false:=by rw[yI];omega
  cases hfr:jd f.params vs []with
  | none=>rw[hfr]at hm;cases hm
  | some fr=>
   rw[hfr]at hm;dsimp only at hm;have KN:=aQ (vZ none w0);have HR0:=aQ hr0;have HX0:=aQ (hx.on h3);have HF:=aQ hf;have HZ:=aQ (And.intro h1 (And.intro h2 (And.intro h3 h4)));have HFR:=aQ hfr;have HBD:=aQ hB;have HSH:=aQ hsh;have HM:=aQ hm;have hpl:f.params.length<=9223372036854775807:=hf.params.len5;have hbl:f.body.length<=9223372036854775807:=by
    have hb:=hf.body;generalize hV:Value.slice AB f.body.length cB=Vb at hb;cases hb with
    | mk _ _ _ _ h1 _ _ _ _=>exact h1.len5
   clear hr hf hx hsh hm h1 h2 h3 h4 hw0 hr0 hB hfr;go_enter func47,ntmps47;(go_upto_region 1 with fail);rw[HW0.out]
   go_wp2_with fail
   (with_reducible refine KN.out.mono ?_)
   rintro e w1⟨rfl,k1,k2,k3⟩;have HST:Hid (ParS X c σ w f ⟨.slice AP f.params.length cP,.slice AB f.body.length cB⟩ vs (.slice AV vs.length cV) w0.heap.size fr f.params.length (.int .i64 0) w1):=by
    refine⟨0,[],rfl,rfl,by simpa using HFR.out,HR0.out.on k3,ScAt.begin ScAt.nil k3 k1 k2 ?_,(Mv.of HZ.out.2.2.1).then k3,zg k3 HZ.out.1 ?_,zg k3 HZ.out.2.1 ?_,HX0.out.on k3⟩
    ·have:=HZ.out.2.2.2;omega
    ·have:=HZ.out.2.2.2;omega
    ·have:=HZ.out.2.2.2;omega
   have y1:=zb x1 k3;clear k1 k2 k3 KN
   go_wp2_with fail
   go_loopg [22] f.params.length (fun k i wr=>ParS X c σ w f ⟨.slice AP f.params.length cP,.slice AB f.body.length cB⟩ vs (.slice AV vs.length cV) w0.heap.size fr k i wr)
   case atStart=>exact HST.out
   case round=>
    obtain⟨j,fj,rfl,hk,hfj,hR,hS,hM,e1,ez,hX⟩:=hrel;by_cases hlt:j<f.params.length
    ·have hlt':(j:Int)<(f.params.length:Int):=by omega
     obtain⟨p,hp⟩:∃p,f.params[j]? =some p:=⟨_,vp hlt⟩;rw[xw hp]at hfj;obtain⟨v,hv⟩:∃v,vs[j]? =some v:=by
      cases hv:vs[j]? with
      | some v=>exact⟨v,rfl⟩
      | none=>
       have hd:vs.drop j=[]:=List.drop_eq_nil_of_le (by simpa using hv);rw[hd]at hfj;cases hfj
     have hlt2:(j:Int)<(vs.length:Int):=by have:=(vm.1 hv).1;omega
     rw[xw hv]at hfj;have HFJ:Hid (jd (f.params.drop (j+1)) (vs.drop (j+1)) (updF fj p.1 v)=some fr):=hfj;obtain⟨pb,po,pc,hsl,p1,p2,q1,q2⟩:=(HF.out.params.same (xk hM HN.out)).param hp;dsimp only at hsl;injection hsl with hA _ hcc
     subst hA hcc;obtain⟨kb,ko,ac,A0,c0,hsl2,p3,p4,⟨a1,a2,a3⟩,hva,hkeep⟩:=hX.getk hv;injection hsl2 with hA2 _ hcc2
     subst hA2 hcc2;have BP:Below wr.heap.size wr (wr.alloc (.cells #[.string (strN p.1),.int .i64 p.2] 87)).drew:=(za _ _).drew;have HMM:=aQ hM.size;have HM0:=aQ HZ.out.2.2.2;have hgm:w0.heap.size≠X.g:=by have:=HR0.out.tab.lt;omega
     have KD:=aQ (ww X c σ _ (w0.heap.size+1) w0.heap.size [] fj [] p.1 v _ (hR.on BP) (hS.on BP) hgm (HF.out.names p (wM hp)) (hva.on BP));have HC:Hid (∀w',Mv X.n0 (· =w0.heap.size) (wr.alloc (.cells #[.string (strN p.1),.int .i64 p.2] 87)).drew w'->w'.cell? ⟨wr.heap.size,0,none⟩=some (.string (strN p.1))/\w'.cell? ⟨kb,ko+j*3,none⟩=some (.int .i64 v.t)/\w'.cell? ⟨kb,ko+j*3+1,none⟩=some (.int .i64 v.n)/\w'.cell? ⟨kb,ko+j*3+2,none⟩=some (.slice A0 v.s.length c0)):=fun w' h=>by
      have hn:(wr.alloc (.cells #[.string (strN p.1),.int .i64 p.2] 87)).drew.heap[wr.heap.size]? =some (.cells #[.string (strN p.1),.int .i64 p.2] 87 (0,0)):=ye wr _;have hn':=h.kept hn (by decide);have hkb:w'.heap[kb]? =wr.heap[kb]?:=hkeep _ w' ((Mv.of BP).trans h) fun b e=>by have:b=w0.heap.size:=e;have:=HN.out;have:=HM0.out;omega
      have hcell:∀o,w'.cell? ⟨kb,o,none⟩=wr.cell? ⟨kb,o,none⟩:=fun o=>by simp only[World.cell?,hkb]
      exact⟨zZ (cs:=[.string (strN p.1),.int .i64 p.2]) hn' 0 _ rfl,(hcell _).trans a1,(hcell _).trans a2,(hcell _).trans a3⟩
     have HG:=aQ (And.intro hk (And.intro hR (And.intro hM (And.intro e1 (And.intro ez hX)))));have HBP:=aQ BP;clear hk hR hS hM e1 ez hX hva hkeep hfj hp hv BP a1 a2 a3;(go_upto_region 7 with fail);clear q1 q2
     go_region_held2 (fun w'=>w'.cell? ⟨wr.heap.size,0,none⟩=some (.string (strN p.1))/\w'.cell? ⟨kb,ko+j*3,none⟩=some (.int .i64 v.t)/\w'.cell? ⟨kb,ko+j*3+1,none⟩=some (.int .i64 v.n)/\w'.cell? ⟨kb,ko+j*3+2,none⟩=some (.slice A0 v.s.length c0))
      (first|(with_reducible exact HC.out _ (.refl _ _ _))|(with_reducible exact HC.out _ hD))
      (first|(go_at_call 84;refine KD.out.mono ?_;rintro e w3 ⟨rfl,hD,hS3,hR3⟩))
     have HMv:=aQ (((HG.out.2.2.1.trans (Mv.of HBP.out)).new hD (by have:=HM0.out;omega)));have HF3:=aQ (And.intro hS3 (And.intro hR3 (And.intro (hD.kept (HBP.out.block _ (aU.1 HG.out.2.2.2.1).1 |>.trans HG.out.2.2.2.1) (by decide)) (And.intro (hD.kept (HBP.out.block _ (aU.1 HG.out.2.2.2.2.1).1 |>.trans HG.out.2.2.2.2.1) (by decide)) ((HG.out.2.2.2.2.2.on HBP.out).mv hD fun b e=>by have:b=w0.heap.size:=e;have:=HN.out;have:=HM0.out;omega)))));clear hD hS3 hR3
     go_wp2_with fail
     go_roundg (f.params.length-(j+1))
     case measure=>have:=HG.out.1;omega
     case rel=>exact⟨j+1,updF fj p.1 v,by simp,by have:=HG.out.1;omega,HFJ.out,HF3.out.2.1,HF3.out.1,HMv.out,HF3.out.2.2.1,HF3.out.2.2.2.1,HF3.out.2.2.2.2⟩
    ·have hj:j=f.params.length:=by omega
     have hnlt:¬(j:Int)<(f.params.length:Int):=by omega
     have hfe:fr=fj:=by
      rw[hj,List.drop_length]at hfj;cases hd:vs.drop f.params.length with
      | nil=>rw[hd]at hfj;injection hfj with h;exact h.symm
      | cons a l=>rw[hd]at hfj;cases hfj
     subst hfe;have hpc:((c+1:Nat):Int)=(c:Int)+1:=by simp
     obtain⟨D1,D2⟩:=zei hR (c+1);rw[hpc]at D1 D2;clear hpc;obtain⟨d0,d1,d2,d3,d4⟩:=xq hR;have d5:=zgo hR;have e1':=D2.kept e1 (by decide);have ez':=D2.kept ez (by decide);have hSc':=hS.mv D2 (fun _ _ h=>h);have HM2:=aQ (hM.trans D2);have HSc:=aQ hSc';have HD1:=aQ D1;have HBX:=aQ ((HF.out.body).same (xk HM2.out HN.out));obtain⟨f0,f1,f2,f3,f4⟩:=znn e1';have HM0:=aQ HZ.out.2.2.2;have HE:=aQ (And.intro e1' ez');have hgm:X.g ∉ [w0.heap.size]:=by
      intro h;have h:X.g=w0.heap.size:=by simpa using h
      have:=HR0.out.tab.lt;omega
     have KB:=fun ro h=>HBD.out (c+1) [fr] f.body σ ro _ (w0.heap.size+1) [w0.heap.size] _ (by omega) D1 hSc' hgm HBX.out HSH.out h;have hci:(c:Int)<=15:=by omega
     have hci0:0<=(c:Int):=by omega
     dsimp only at f1 f3;clear hk hR hS hM e1 ez hX D1 D2 e1' ez' hSc' hfj hj hlt;rcases qF HM.out with⟨t,τ,g1,g2⟩|⟨p,τ,g1,g2⟩
     ·have K:=aQ (KB _ g1);have H2:=aQ g2;clear KB g1 g2
      go_wp2_with fail
      (with_reducible refine K.out.mono ?_)
      rintro e w3⟨hM3,rfl,c',hs⟩;exact⟨rfl,zy H2.out (HM2.out.only hM3 (by have:=HM0.out;omega)) hs⟩
     ·have K:=aQ (KB _ g1);have H2:=aQ g2;clear KB g1 g2
      go_wp2_with fail
      (with_reducible refine K.out.mono ?_)
      rintro e w3⟨hM3,x,rfl,⟨hq,hsc⟩,hs⟩;obtain⟨A,cp,b,rfl,hv,_⟩:=zb2 hq;have H3:Hid (r=.ok (p.1.getD qe) τ):=by
       show _=_;have:=H2.out;injection this with h
       exact h.symm
      have HM3:=aQ (HM2.out.only hM3 (by have:=HM0.out;omega));have HE3:=aQ (And.intro (hM3.kept HE.out.1 (by decide)) (hM3.kept HE.out.2 (by decide)));clear hM3 hq hsc H2 K
      generalize p.1.getD qe=v at *
      obtain⟨w4,hw4⟩:∃w4,w3.alloc (.cells #[.int .i64 v.t,.int .i64 v.n,.slice A v.s.length cp] 41)=w4:=⟨_,rfl⟩;have b4:Below w3.heap.size w3 w4:=by rw[<- hw4];exact za _ _
      obtain⟨y0,y1,y2⟩:w4.cell? ⟨w3.heap.size,0,none⟩=some (.int .i64 v.t)/\w4.cell? ⟨w3.heap.size,1,none⟩=some (.int .i64 v.n)/\w4.cell? ⟨w3.heap.size,2,none⟩=some (.slice A v.s.length cp):=by
       rw[<- hw4];exact qr (ye w3 _)
      have hs4:=hs.on b4;obtain⟨m0,m1,m2,m3,m4⟩:=xq hs4;have m5:=zgo hs4;have hpc:((c+1:Nat):Int)=(c:Int)+1:=by simp
      rw[hpc]at m4;clear hpc;obtain⟨D1,D2⟩:=zei hs4 c;have HM5:=aQ ((HM3.out.then b4).trans D2);have HZ5:=aQ (D2.kept (zg b4 HE3.out.2 (aU.1 HE3.out.2).1) (by decide));have HV5:=aQ ((hv.on b4).off D2.off);have HS5:=aQ D1;have hWW:w3.heap.size≠X.R:=by have:=(aU.1 hs.cell).1;omega
      have q0:(w4.setCell ⟨X.R,4,none⟩ (.int .i64 c)).cell? ⟨w3.heap.size,0,none⟩=some (.int .i64 v.t):=by rw[World.cell?_setCell_far _ _ _ _ (Ne.symm hWW)];exact y0
      have q1:(w4.setCell ⟨X.R,4,none⟩ (.int .i64 c)).cell? ⟨w3.heap.size,1,none⟩=some (.int .i64 v.n):=by rw[World.cell?_setCell_far _ _ _ _ (Ne.symm hWW)];exact y1
      have q2:(w4.setCell ⟨X.R,4,none⟩ (.int .i64 c)).cell? ⟨w3.heap.size,2,none⟩=some (.slice A v.s.length cp):=by rw[World.cell?_setCell_far _ _ _ _ (Ne.symm hWW)];exact y2
      have HW4:=aQ hw4;clear hs hs4 b4 D1 D2 hv hw4;dsimp only;(go_upto_region 11 with fail);rw[HW4.out];(go_upto_region 12 with fail);clear m0 m1 m2 m3 m4 m5 y0 y1 y2 d0 d1 d2 d3 d4 d5
      go_wp2_with(refine zm rfl (.tmp 6) (.tmp 58) rfl rfl (w.heap.size+1) rfl v.t v.n A v.s.length cp rfl HZ5.out ?_;intro w6 g1)
      refine vS (qH results47 _ _ (w.heap.size+1) rfl g1.here) rfl ?_;exact qQ (v:=v) H3.out HS5.out HM5.out HV5.out (by omega) HZ5.out g1 HN.out
variable [Prt]
def RetV.var{o:Option Va}{x:Value}{t n:Int}(h:RetV w o x)(hv:VSt g t n (.slice A m cp) w w'){m0 cp0:Nat}(hw:w.heap[g]? =some (.cells #[.int .i64 t0,.int .i64 n1,.slice A0 m0 cp0] 41 (0,0))):RetV w' o x:=by
 cases o with
 | none=>exact h
 | some v=>obtain⟨u,e,k⟩:=h;exact⟨u,e,k.var hv hw⟩
def RetV.on{o:Option Va}{x:Value}(h:RetV w o x)(hb:Below w.heap.size w w'):RetV w' o x:=by
 cases o with
 | none=>exact h
 | some v=>obtain⟨u,e,k⟩:=h;exact⟨u,e,k.on hb⟩
def ScAt.var{p:Value}{ms:List Nat}{env:Env}{t n:Int}(h:ScAt n0 w p ms env)(hv:VSt g t n (.slice A m cp) w w'){m0 cp0:Nat}(hw:w.heap[g]? =some (.cells #[.int .i64 t0,.int .i64 n1,.slice A0 m0 cp0] 41 (0,0))):ScAt n0 w' p ms env:=by
 induction h with
 | nil=>exact .nil
 | cons hb hm h0 hne _ ih=>
  refine .cons ?_ ?_ h0 hne ih
  ·rw[hv.far _ (jV hb hw (by decide))];exact hb
  ·obtain⟨es,h1,h2⟩:=hm;obtain⟨arr,c,ho⟩:=h1.obj;refine⟨es,h1.of (hv.far _ fun e=>?_),h2.off (n0:=0) (hv.off (aK _) xF hw xF)⟩;rw[e,hw]at ho;cases ho
def qY{X:Cx10}{σ:Stt}{g b:Nat}{ms:List Nat}{o:Option Va}{env:Env}{t n:Int}{m0 cp0:Nat}{r:Ou (Option Va×Env)}{x:Value}(hr:r=.ok (o,env) σ)(hs:RunS X c σ w1)(hm:Mv X.n0 (·∈ms) w w1)(hq:RetV w1 o x)(hsc:ScAt X.n0 w1 (.pointer (some ⟨b,0,none⟩)) ms env)(hg:w.heap.size<=g)(hw:w1.heap[g]? =some (.cells #[.int .i64 t0,.int .i64 n1,.slice A0 m0 cp0] 41 (0,0)))(hV:VSt g t n (.slice A m cp) w1 w2)(hn:X.n0<=w.heap.size):qR X c (·∈ms) (QB10 X b ms) w r (.returned x) w2:=
 wJ hr (hm.under (hV.below hg)) ⟨hq.var hV hw,hsc.var hV hw⟩ (hs.var hV (aT hn hg) hw)
def XssC.getV{l:List Xs}{V:Value}(h:XssC w D l V){s:Xs}(he:l[i]? =some s):∃(kb ko c:Nat) (A1 A2 A3:Option Addr) (c1 c2 c3:Nat),V=.slice (some ⟨kb,ko,none⟩) l.length c/\l.length<=c/\c<=maxLen /\
  w.rangeAt kb (ko+i*6) [.int .i64 s.op,.string (strN s.aZ),.slice A1 s.aY.length c1,.slice A2 s.body.length c2,.slice A3 s.els.length c3,.int .i64 s.aW]/\XsV w D s (.agg #[.int .i64 s.op,.string (strN s.aZ),.slice A1 s.aY.length c1,.slice A2 s.body.length c2,.slice A3 s.els.length c3,.int .i64 s.aW]):=by
 obtain⟨ks,hst⟩:=h.ks;have hi:=(vm.1 he).1;obtain⟨k,hk'⟩:∃k,ks[i]? =some k:=⟨ks[i]'(by rw[hst.len];exact hi),vp _⟩;have hg:=fun j hj=>ky (f:=fun(s:Xs) (k:qM)=>xsC s k.e k.b k.f) (m:=6) (fun _ _=>rfl) l ks i j s k he hk' hj;have x1:=hst.e i s k he hk';have x2:=hst.b i s k he hk';have x3:=hst.f i s k he hk';have x4:=hst.txt s (wM he);obtain⟨A1,c1,e1⟩:=zu x1;obtain⟨A2,c2,e2⟩:=zt x2;obtain⟨A3,c3,e3⟩:=zt x3
 obtain⟨b,o,c,rfl,a1,a2,a3,a4⟩:=hst.row.plain5 (by
  intro e0;have:=hg 0 (by omega);unfold xssC at e0;rw[e0]at this
  simp[xsC]at this)
 refine⟨b,o,c,A1,A2,A3,c1,c2,c3,rfl,a1,a2,fun j v hv=>?_,⟨k,?_,x4,x1,x2,x3⟩⟩
 ·have hj:j<6:=by
   have:=(vm.1 hv).1;simpa using this
  rw[Nat.add_assoc];refine a4 _ v ((hg j hj).trans ?_);show(xsC s k.e k.b k.f)[j]? =_;rw[e1,e2,e3];exact hv
 ·rw[e1,e2,e3];rfl
def zli:∀ {l:List Xs} {i:Nat} {e:Xs},shB l=true->l[i]? =some e->shS e=true
 | x::l,0,e,h,he=>by
  unfold shB at h;simp at h he;rw[<- he];exact h.1
 | x::l,i+1,e,h,he=>by
  unfold shB at h;simp at h;exact zli h.2 (by simpa using he)
 | [],i,e,h,he=>by simp at he
def zhe:(prog.info? 145).map (·.size)=some 6:=by kernel_rfl
def BlS(X:Cx10)(c n:Nat)(l:List Xs)(r:Ou (Option Va×Env))(w:World)(b:Nat)(ms:List Nat)(k:Nat)(i:Value)(wr:World):Prop:=
 ∃(env:Env) (σ':Stt) (j m:Nat),i=.int .i64 j/\k+j=l.length/\m<=n/\RunS X c σ' wr/\ScAt X.n0 wr (.pointer (some ⟨b,0,none⟩)) ms env/\Mv X.n0 (·∈ms) w wr/\wr.heap[w.heap.size]? =some (.cells #[.int .i64 0,.int .i64 0,.slice none 0 0] 41 (0,0))/\qS X.lim X.F m c env (l.drop j) σ'=some r
def zrk(X:Cx10)(n:Nat)(hS:∀m,m<n->SOk X m):BOk X n:=by
 intro c env l σ r w b ms V hc hr hs hgm hl hsh hm;obtain⟨A,lc,rfl⟩:=zt hl;have hn0:=hr.hn;have HN:=aQ hn0;obtain⟨w0,hw0⟩:∃w0,w.alloc zO=w0:=⟨_,rfl⟩;have B0:Below w.heap.size w w0:=by rw[<- hw0];exact za _ _
 have Z0:=zpz w;rw[hw0]at Z0;have HW0:=aQ hw0;have HST:Hid (BlS X c n l r w b ms l.length (.int .i64 0) w0):=⟨env,σ,0,n,rfl,rfl,aR _,hr.on B0,hs.on B0,.of B0,Z0,hm⟩;have HL:=aQ hl;have HSS:=aQ hS;have HSH:=aQ hsh;have HGM:=aQ hgm;have hln:l.length<=9223372036854775807:=by
  obtain⟨_,h1⟩:=hl.ks;exact h1.row.len5
 clear hr hs hl hS hm hsh hgm hw0 B0 Z0;go_enter func85,ntmps85;go_upto_region 1 with fail
 rw[HW0.out]
 go_wp2_with fail
 go_loopg [14] l.length (fun k i wr=>BlS X c n l r w b ms k i wr)
 case atStart=>exact HST.out
 case round=>
  obtain⟨env',σ',j,m,rfl,hk,hmn,hR,hSc,hM,hz,hmr⟩:=hrel;by_cases hlt:j<l.length
  ·obtain⟨s,he⟩:∃s,l[j]? =some s:=⟨l[j],vp hlt⟩;have hlt':(j:Int)<(l.length:Int):=by omega
   rw[xw he]at hmr;obtain⟨m',rfl⟩:∃m',m=m'+1:=by
    cases m with
    | zero=>unfold qS at hmr;cases hmr
    | succ m=>exact⟨m,rfl⟩
   have hL:=HL.out.same (xk hM hn0);obtain⟨kb,ko,kc,A1,A2,A3,c1,c2,c3,hsl,q1,q2,hrg,hxs⟩:=hL.getV he;injection hsl with hA _ hcc
   subst hA hcc;have HRG:=aQ hrg;obtain⟨z0,z1,z2,z3,z4,z5⟩:=qA wr s.op s.aZ (.slice A1 s.aY.length c1) (.slice A2 s.body.length c2) (.slice A3 s.els.length c3) s.aW;have HB:=aQ (za wr (xsO s.op s.aZ (.slice A1 s.aY.length c1) (.slice A2 s.body.length c2) (.slice A3 s.els.length c3) s.aW));have hse:shS s=true:=zli HSH.out he;unfold qS at hmr;have hwr:X.n0<=wr.heap.size:=hR.hn;have hK:=fun ro h=>HSS.out m' (by omega) c env' s σ' ro _ b ms _ hc (hR.on HB.out) (hSc.on HB.out) HGM.out (hxs.same (xj HB.out hwr)) hse h;have HF:=aQ (And.intro hk (And.intro hmn (And.intro hM hz)));clear hk hmn hR hSc hM hz hxs hrg hL he hse;rcases qF hmr with⟨t,τ,h1,h2⟩|⟨p,τ,h1,h2⟩
   ·have K:=aQ (hK _ h1);have H2:=aQ h2;clear hK hmr h1 h2
    go_wp2_with(first|(refine wpList_load_mid rfl 145 (.tmp 16) rfl kb (ko+j*6) rfl [.int .i64 s.op,.string (strN s.aZ),.slice A1 s.aY.length c1,.slice A2 s.body.length c2,.slice A3 s.els.length c3,.int .i64 s.aW] _ HRG.out underlying145 rfl zhe ?_;refine Hid.out ?_)|fail)
    refine aQ ?_
    go_wp2_with fail
    (with_reducible refine K.out.mono ?_)
    rintro e w2⟨hM2,rfl,c',hs⟩;exact⟨rfl,zy H2.out (HF.out.2.2.1.trans ((Mv.of HB.out).trans hM2)) hs⟩
   ·have K:=aQ (hK _ h1);have H2:=aQ h2;clear hK hmr h1 h2
    go_wp2_with(first|(refine wpList_load_mid rfl 145 (.tmp 16) rfl kb (ko+j*6) rfl [.int .i64 s.op,.string (strN s.aZ),.slice A1 s.aY.length c1,.slice A2 s.body.length c2,.slice A3 s.els.length c3,.int .i64 s.aW] _ HRG.out underlying145 rfl zhe ?_;refine Hid.out ?_)|fail)
    refine aQ ?_
    go_wp2_with fail
    (with_reducible refine K.out.mono ?_)
    rintro e w2⟨hM2,x,rfl,⟨hq,hsc⟩,hs⟩;obtain⟨o,env2⟩:=p;dsimp only at hq hsc;have HM2:=aQ (HF.out.2.2.1.trans ((Mv.of HB.out).trans hM2));have HZ2:=aQ (hM2.kept (zg HB.out HF.out.2.2.2 (aU.1 HF.out.2.2.2).1) (by decide));clear hM2 K z0 z1 z2 z3 z4 z5;cases o with
    | none=>
     have hx:x=.tuple #[VV 0 0 kB,.bool false]:=hq;subst hx;have B3:=za w2 (.cells #[.int .i64 0,.int .i64 0,.slice none 0 0] 41);have HM3:=aQ (HM2.out.then B3);have HZ3:=aQ (zg B3 HZ2.out (aU.1 HZ2.out).1);have HS3:=aQ (And.intro (hs.on B3) (hsc.on B3));clear hs hsc B3 hq;dsimp only
     go_wp2_with fail
     go_roundg (l.length-(j+1))
     case measure=>have:=HF.out.1;omega
     case rel=>exact⟨env2,τ,j+1,m',by simp,by have:=HF.out.1;omega,by have:=HF.out.2.1;omega,HS3.out.1,HS3.out.2,HM3.out,HZ3.out,H2.out⟩
    | some v=>
     have HQ:=aQ hq;have H3:Hid (r=.ok (some v,env2) τ):=by
      show _=_;have:=H2.out;injection this with h
      exact h.symm
     obtain⟨u,rfl,hv⟩:=hq;obtain⟨A4,c4,rfl,_,_⟩:=xM hv;have B3:=za w2 (.cells #[.int .i64 v.t,.int .i64 v.n,.slice A4 v.s.length c4] 41);obtain⟨y0,y1,y2⟩:=qr (ye w2 (.cells #[.int .i64 v.t,.int .i64 v.n,.slice A4 v.s.length c4] 41));have HM3:=aQ (HM2.out.then B3);have HZ3:=aQ (zg B3 HZ2.out (aU.1 HZ2.out).1);have HS3:=aQ (And.intro (hs.on B3) (And.intro (hsc.on B3) (HQ.out.on B3)));clear hs hsc B3 HQ hv;dsimp only
     go_wp2_with(refine zm rfl (.tmp 6) (.tmp 26) rfl rfl w.heap.size rfl v.t v.n A4 v.s.length c4 rfl HZ3.out ?_;intro w6 g1)
     refine vS (qW results85 _ _ w.heap.size rfl g1.here) rfl ?_;exact qY (o:=some v) (env:=env2) H3.out HS3.out.1 HM3.out HS3.out.2.2 HS3.out.2.1 (aR _) HZ3.out g1 HN.out
  ·have hj:j=l.length:=by omega
   have hnlt:¬(j:Int)<(l.length:Int):=by omega
   have HR2:Hid (r=.ok (none,env') σ'):=by
    show _=_;rw[hj,List.drop_length]at hmr;cases m with
    | zero=>unfold qS at hmr;cases hmr
    | succ m=>
     unfold qS at hmr;have h:some (Ou.ok (none,env') σ')=some r:=hmr;injection h with h
     exact h.symm
   have HF:=aQ (And.intro hR (And.intro hSc (And.intro hM hz)));clear hk hmn hR hSc hM hz hmr hj hlt
   go_wp2_with(refine zm rfl (.tmp 6) (.tmp 28) rfl rfl w.heap.size rfl 0 0 none 0 0 rfl HF.out.2.2.2 ?_;intro w6 g1)
   refine vS (qW results85 _ _ w.heap.size rfl g1.here) rfl ?_;exact qY (o:=none) (env:=env') HR2.out HF.out.1 HF.out.2.2.1 rfl HF.out.2.1 (aR _) HF.out.2.2.2 g1 HN.out
variable [Prt]
def yx(X:Cx10)(n c:Nat)(env:Env)(l:List Xs)(σ:Stt)(r:Ou (Option Va×Env))(w w1:World)(b:Nat)(ms:List Nat)(q:Value)(bms:List Nat)(V:Value)(hB:∀m,m<n->BOk X m)(hc:c<=16)(hr:RunS X c σ w)(hs:ScAt X.n0 w (.pointer (some ⟨b,0,none⟩)) ms env)(hg:X.g ∉ ms)(hb:zc0 w (some ⟨b,0,none⟩) ms env q bms)(hl:XssC w (Lo X.n0) l V)(hsh:shB l=true)(hm:xe X.lim X.F n c env l σ=some r)
  (b1:Below w.heap.size w w1) (h1:w1.heap[w.heap.size+1]? =some (.cells #[.map (some w.heap.size),q] 206 (0,0))) (h2:qs w1 w.heap.size []) :
  Calls prog 85 #[.pointer (some ⟨X.R,0,none⟩),V,.pointer (some ⟨w.heap.size+1,0,none⟩)] w1 (fun e w2=>qR X c (·∈ms) (QB10 X b ms) w r e w2/\Mv X.n0 (·∈w.heap.size::bms) w1 w2):=by
 cases n with
 | zero=>unfold xe at hm;cases hm
 | succ n=>
  unfold xe at hm;have hq:=zk0 hs hb;obtain⟨a,rfl⟩:=hq.ptr;have hbeg:=ScAt.begin hq b1 h1 h2 hr.hn;have hgn:X.g ∉ w.heap.size::bms:=by
   intro h;rcases aC.1 h with h|h
   ·have:=hr.tab.lt;omega
   ·exact hg (yR hb _ h)
  obtain⟨ro,g1,HRO⟩:=xh hm;refine(hB n (by omega) c _ l σ ro w1 (w.heap.size+1) _ V hc (hr.on b1) hbeg hgn (hl.same (xj b1 hr.hn)) hsh g1).mono ?_;rintro e w2 ⟨hM,hG⟩;have hMw:Mv X.n0 (·∈ms) w w2:=((Mv.of b1).trans hM).less fun k hk h=>by
   rcases aC.1 h with h|h
   ·omega
   ·exact yR hb _ h
  refine⟨⟨hMw,?_⟩,hM⟩;rcases ro with⟨p,τ⟩|⟨t,τ⟩
  ·obtain⟨x,rfl,⟨hq2,hsc⟩,hrun⟩:=hG;have h3:=HRO.out.2 _ _ rfl;have h4:r=.ok (p.1,jj env p.2.tail) τ:=by injection h3 with h;exact h.symm
   subst h4;refine⟨x,rfl,⟨hq2,?_⟩,hrun⟩;have hk:=hM.kept h1 (by decide);generalize hp2:p.2=pe at hsc;cases hsc with
   | cons hb2 hm2 h02 hne2 hr2=>
    rw[hk]at hb2;injection hb2 with hb2
    injection hb2 with hb2 _ _
    simp at hb2;obtain⟨_,rfl⟩:=hb2;refine zd9 (M:=(·∈w.heap.size::bms)) hs hb ((Mv.of b1).trans hM) (fun m hm h=>?_) hr2;rcases aC.1 h with h|h
    ·have:=(hs.ms m hm).2.1;omega
    ·exact h
  ·obtain⟨rfl,c',hrun⟩:=hG;have h3:=HRO.out.1 _ _ rfl;subst h3;exact⟨rfl,c',hrun⟩
def wQ(X:Cx10)(n c:Nat)(env:Env)(l:List Xs)(σ:Stt)(r:Ou (Option Va×Env))(w w1:World)(b:Nat)(ms:List Nat)(q:Value)(bms:List Nat)(V:Value)(hB:∀m,m<n->BOk X m)(hc:c<=16)(hr:RunS X c σ w)(hs:ScAt X.n0 w (.pointer (some ⟨b,0,none⟩)) ms env)(hg:X.g ∉ ms)(hb:zc0 w (some ⟨b,0,none⟩) ms env q bms)(hl:XssC w (Lo X.n0) l V)(hsh:shB l=true)(hm:xe X.lim X.F n c env l σ=some r)
  (b1:Below w.heap.size w w1) (h1:w1.heap[w.heap.size+1]? =some (.cells #[.map (some w.heap.size),q] 206 (0,0))) (h2:qs w1 w.heap.size []) :
  Calls prog 85 #[.pointer (some ⟨X.R,0,none⟩),V,.pointer (some ⟨w.heap.size+1,0,none⟩)] w1 (qR X c (·∈ms) (QB10 X b ms) w r):=
 (yx X n c env l σ r w w1 b ms q bms V hB hc hr hs hg hb hl hsh hm b1 h1 h2).mono fun _ _ h=>h.1
structure Ks(X:Cx10)(c:Nat)(τ:Stt)(w:World)(eo:Array Value)(b:Nat)(ms:List Nat)(env:Env)(w1:World):Prop where
 run:RunS X c τ w1
 mv:Mv X.n0 (·∈ms) w w1
 e:w1.heap[w.heap.size]? =some (.cells eo 145 (0,0))
 z:w1.heap[w.heap.size+1]? =some (.cells #[.int .i64 0,.int .i64 0,.slice none 0 0] 41 (0,0))
 sc:ScAt X.n0 w1 (.pointer (some ⟨b,0,none⟩)) ms env
def Ks.on{X:Cx10}{τ:Stt}{b:Nat}{ms:List Nat}{env:Env}(h:Ks X c τ w eo b ms env w1)(hb:Below w1.heap.size w1 w2):Ks X c τ w eo b ms env w2:=
 ⟨h.run.on hb,h.mv.then hb,zg hb h.e (aU.1 h.e).1,zg hb h.z (aU.1 h.z).1,h.sc.on hb⟩
def Ks.go{X:Cx10}{τ τ':Stt}{b:Nat}{ms:List Nat}{env:Env}(h:Ks X c τ w eo b ms env w1)(hm:Mv X.n0 NoM w1 w2)(hr:RunS X c τ' w2):Ks X c τ' w eo b ms env w2:=
 ⟨hr,h.mv.trans (NoM.mono hm),hm.kept h.e (by decide),hm.kept h.z (by decide),h.sc.mv hm (fun _ _ h=>h)⟩
def Ks.block{X:Cx10}{τ τ':Stt}{b:Nat}{ms:List Nat}{env env':Env}(h:Ks X c τ w eo b ms env w1)(hm:Mv X.n0 (·∈ms) w1 w2)(hr:RunS X c τ' w2)(hs:ScAt X.n0 w2 (.pointer (some ⟨b,0,none⟩)) ms env'):Ks X c τ' w eo b ms env' w2:=
 ⟨hr,h.mv.trans hm,hm.kept h.e (by decide),hm.kept h.z (by decide),hs⟩
def yH{b:Nat}{op:Int}{s:ByteArray}{aW:Int}(h:w.heap[b]? =some (.cells #[.int .i64 op,.string s,K1,K2,K3,.int .i64 aW] 145 (0,0))):w.cell? ⟨b,0,none⟩=some (.int .i64 op)/\w.cell? ⟨b,1,none⟩=some (.string s)/\w.cell? ⟨b,2,none⟩=some K1/\w.cell? ⟨b,3,none⟩=some K2/\w.cell? ⟨b,4,none⟩=some K3/\w.cell? ⟨b,5,none⟩=some (.int .i64 aW):=by
 refine⟨?_,?_,?_,?_,?_,?_⟩<;>simp[World.cell?,h]
def Ks.s3{X:Cx10}{τ:Stt}{op aW:Int}{s:ByteArray}{b:Nat}{ms:List Nat}{env:Env}(h:Ks X c τ w #[.int .i64 op,.string s,K1,K2,K3,.int .i64 aW] b ms env w1):w1.cell? ⟨w.heap.size,3,none⟩=some K2:=(yH h.e).2.2.2.1
def Ks.s4{X:Cx10}{τ:Stt}{op aW:Int}{s:ByteArray}{b:Nat}{ms:List Nat}{env:Env}(h:Ks X c τ w #[.int .i64 op,.string s,K1,K2,K3,.int .i64 aW] b ms env w1):w1.cell? ⟨w.heap.size,4,none⟩=some K3:=(yH h.e).2.2.2.2.1
def zgz{x y z u:Value}(h:w1.cell? ⟨w.heap.size,o,none⟩=some u):(((w1.setCell ⟨w.heap.size+1,0,none⟩ x).setCell ⟨w.heap.size+1,1,none⟩ y).setCell ⟨w.heap.size+1,2,none⟩ z).cell? ⟨w.heap.size,o,none⟩=some u:=zEm h (by omega)
structure ztj(w:World)(eo:Obj)(w0:World):Prop where
 e:w0.heap[w.heap.size]? =some eo
 z:w0.heap[w.heap.size+1]? =some (.cells #[.int .i64 0,.int .i64 0,.slice none 0 0] 41 (0,0))
 b:Below w.heap.size w w0
def yq(w:World)(eo:Obj):ztj w eo ((w.alloc eo).alloc zO):=⟨(qO w eo).e,(qO w eo).z,(qO w eo).b⟩
def zn2(X:Cx10)(n:Nat)(hE:EOk X n)(hB:∀m,m<n->BOk X m)(c:Nat)(env:Env)(aZ:List Nat)(e:Xe)(body els:List Xs)(aW:Int)(σ:Stt)(r:Ou (Option Va×Env))(w:World)(b:Nat)(ms:List Nat)(A1 A2 A3:Option Addr)(c1 c2 c3:Nat)
  (hc:c<=16) (hr:RunS X c σ w) (hs:ScAt X.n0 w (.pointer (some ⟨b,0,none⟩)) ms env) (hgm:X.g ∉ ms) (hx:XesC w (Lo X.n0) [e] (.slice A1 1 c1)) (hy:XssC w (Lo X.n0) body (.slice A2 body.length c2)) (hf:XssC w (Lo X.n0) els (.slice A3 els.length c3)) (hse:shE e=true) (hsb:shB body=true) (hsf:shB els=true)
  (hm:(qD X.lim X.F n c env e σ).bind (fun v σ=>if v.n=1 then xe X.lim X.F n c env body σ else xe X.lim X.F n c env els σ)=some r) :
  Calls prog 153 #[.pointer (some ⟨X.R,0,none⟩),.agg #[.int .i64 3,.string (strN aZ),.slice A1 1 c1,.slice A2 body.length c2,.slice A3 els.length c3,.int .i64 aW],.pointer (some ⟨b,0,none⟩)] w (qR X c (·∈ms) (QB10 X b ms) w r):=by
 obtain⟨kb,ko,kc,A0,c0,hsl,p1,p2,hrg,hxe⟩:=hx.get5 (i:=0) (e:=e) rfl;have hrg':w.rangeAt kb (ko+0) [.int .i64 e.op,.int .i64 e.num,.string (strN e.aZ),.slice A0 e.aX.length c0,.int .i64 e.aW]:=by simpa[xeC]using hrg
 have hkd:=kid5 hrg';injection hsl with hA hlen hcc
 subst hA hcc;clear hlen;have hkb:Lo X.n0 kb:=zpd hx;have hn0:=hr.hn;have HN:=aQ hn0;have H3:=yq w (xsO 3 aZ (.slice (some ⟨kb,ko,none⟩) 1 c1) (.slice A2 body.length c2) (.slice A3 els.length c3) aW);obtain⟨w0,hw0⟩:∃w0,(w.alloc (xsO 3 aZ (.slice (some ⟨kb,ko,none⟩) 1 c1) (.slice A2 body.length c2) (.slice A3 els.length c3) aW)).alloc zO=w0:=⟨_,rfl⟩;rw[hw0]at H3;have HW0:=aQ hw0;have hK0:Ks X c σ w #[.int .i64 3,.string (strN aZ),.slice (some ⟨kb,ko,none⟩) 1 c1,.slice A2 body.length c2,.slice A3 els.length c3,.int .i64 aW] b ms env w0:=⟨hr.on H3.b,.of H3.b,H3.e,H3.z,hs.on H3.b⟩;obtain⟨e0,e1,e2,e3,e4,e5⟩:=yH hK0.e;obtain⟨k0,k1,k2,k3,k4⟩:=zcn hkd (H3.b.mono hn0) hkb;obtain⟨ro,g1,HRO⟩:=xh hm;have hxe0:=hxe.same (xj H3.b hn0);unfold xeC at hxe0;have K:=aQ (hE c env e σ ro w0 _ ms _ hc hK0.run hK0.sc hxe0 hse g1);have HY:=aQ (And.intro hy (And.intro hf (And.intro hsb (And.intro hsf hgm))));have HB:=aQ hB;have KC:=aQ hK0;clear hx hy hf hse hsb hsf hm hrg hrg' hkd hxe hxe0 hK0 H3 hw0 hr hs hE g1 hB hkb hgm;go_enter func153,ntmps153;go_upto_region 1 with fail
 rw[HW0.out]
 go_wp2_with fail
 (with_reducible refine K.out.mono ?_)
 rintro e' w1 hG;rcases ro with⟨v,τ⟩|⟨t,τ⟩
 rotate_left
 ·obtain⟨hM,rfl,c',hs⟩:=hG;exact⟨rfl,zy (HRO.out.1 _ _ rfl) (KC.out.mv.trans (NoM.mono hM)) hs⟩
 obtain⟨hM,u,rfl,hv,hs⟩:=hG;obtain⟨A4,c4,rfl,_,_⟩:=xM hv;replace KC:=aQ (KC.out.go hM hs);have h2:=HRO.out.2 _ _ rfl;clear K hM hv hs e0 e1 e2 e3 e4 e5 k0 k1 k2 k3 k4 HRO
 go_wp2_with fail
 refine(zch _ _ _ _).mono ?_;rintro e2 w2 ⟨rfl,b2⟩;replace KC:=aQ (KC.out.on b2);clear b2;by_cases hv1:v.n=1
 ·rw[if_pos hv1]at h2;have hb:(v.n==1)=true:=by rw[hv1];rfl
  rw[hb];clear hb;have KI0:=KC.out.on (Below.refl w2.heap.size w2).drew;obtain⟨q,bms,hbp,hin⟩:=zci X.n0 w2.drew _ ms env KI0.sc (by intro h;subst h;cases KI0.sc);have KI:=aQ hin
  have KB:Hid (∀w3,Below w2.drew.heap.size w2.drew w3->w3.heap[w2.drew.heap.size+1]? =some (.cells #[.map (some w2.drew.heap.size),q] 206 (0,0))->qs w3 w2.drew.heap.size []->Calls prog 85 #[.pointer (some ⟨X.R,0,none⟩),.slice A2 body.length c2,.pointer (some ⟨w2.drew.heap.size+1,0,none⟩)] w3 (qR X c (·∈ms) (QB10 X b ms) w2.drew r)):=fun w3 b1 g1 g2=>
   wQ X n c env body τ r w2.drew w3 b ms q bms _ HB.out hc KI0.run KI0.sc HY.out.2.2.2.2 hbp (HY.out.1.same (xk KI0.mv HN.out)) HY.out.2.2.1 h2 b1 g1 g2
  have KD:=aQ KI0;clear KI0 hin h2 hv1;go_upto_region 2 with fail
  go_region_held2 (fun w'=>w'.cell? ⟨w.heap.size,3,none⟩=some (.slice A2 body.length c2))
   (first|(with_reducible exact Ks.s3 KF.out)|(with_reducible exact zgz (Ks.s3 KF.out))|(with_reducible exact Ks.s3 KE.out)|(with_reducible exact Ks.s3 KD.out))
   (first
    | (go_at_call 190;refine KI.out.mono ?_;rintro e3 w3 ⟨rfl,g1,g2,g3⟩;have KE:=aQ (KD.out.on g3);have KBB:=aQ (KB.out w3 g3 g1 g2);clear g1 g2 g3)
    | (go_at_call 85;refine KBB.out.mono ?_;rintro e4 w4 hG;(rcases r with⟨⟨o,env2⟩,τ2⟩|⟨t2,τ2⟩<;>(try(obtain⟨hM,he,c',hs⟩:=hG;subst he;exact⟨rfl,zy rfl (KD.out.mv.trans hM) hs⟩)));obtain⟨hM,x,rfl,⟨hq,hsc⟩,hs⟩:=hG;dsimp only at hq hsc;obtain⟨A5,c5,bb,rfl,_,rfl⟩:=zb2 hq;have KF:=aQ (KD.out.block hM hs hsc);have HQ5:=aQ hq;obtain⟨⟨u0,u1,u2⟩,v0,v1,v2⟩:=ka KF.out.z;clear hM hs hsc hq))
  all_goals
   have HS9:=aQ (xa KF.out.z (o.getD qe).t (o.getD qe).n (.slice A5 (o.getD qe).s.length c5));go_wp2;refine vS (qW results153 _ _ (w.heap.size+1) rfl HS9.out.here) rfl ?_;exact qY (o:=o) (env:=env2) rfl KF.out.run KF.out.mv HQ5.out KF.out.sc (by omega) KF.out.z HS9.out HN.out
 ·rw[if_neg hv1]at h2;have hb:(v.n==1)=false:=by rw[yI];exact hv1
  rw[hb];clear hb;have KI0:=KC.out.on (Below.refl w2.heap.size w2).drew;obtain⟨q,bms,hbp,hin⟩:=zci X.n0 w2.drew _ ms env KI0.sc (by intro h;subst h;cases KI0.sc);have KI:=aQ hin
  have KB:Hid (∀w3,Below w2.drew.heap.size w2.drew w3->w3.heap[w2.drew.heap.size+1]? =some (.cells #[.map (some w2.drew.heap.size),q] 206 (0,0))->qs w3 w2.drew.heap.size []->Calls prog 85 #[.pointer (some ⟨X.R,0,none⟩),.slice A3 els.length c3,.pointer (some ⟨w2.drew.heap.size+1,0,none⟩)] w3 (qR X c (·∈ms) (QB10 X b ms) w2.drew r)):=fun w3 b1 g1 g2=>
   wQ X n c env els τ r w2.drew w3 b ms q bms _ HB.out hc KI0.run KI0.sc HY.out.2.2.2.2 hbp (HY.out.2.1.same (xk KI0.mv HN.out)) HY.out.2.2.2.1 h2 b1 g1 g2
  have KD:=aQ KI0;clear KI0 hin h2 hv1;go_upto_region 3 with fail
  go_region_held2 (fun w'=>w'.cell? ⟨w.heap.size,4,none⟩=some (.slice A3 els.length c3))
   (first|(with_reducible exact Ks.s4 KF.out)|(with_reducible exact zgz (Ks.s4 KF.out))|(with_reducible exact Ks.s4 KE.out)|(with_reducible exact Ks.s4 KD.out))
   (first
    | (go_at_call 190;refine KI.out.mono ?_;rintro e3 w3 ⟨rfl,g1,g2,g3⟩;have KE:=aQ (KD.out.on g3);have KBB:=aQ (KB.out w3 g3 g1 g2);clear g1 g2 g3)
    | (go_at_call 85;refine KBB.out.mono ?_;rintro e4 w4 hG;(rcases r with⟨⟨o,env2⟩,τ2⟩|⟨t2,τ2⟩<;>(try(obtain⟨hM,he,c',hs⟩:=hG;subst he;exact⟨rfl,zy rfl (KD.out.mv.trans hM) hs⟩)));obtain⟨hM,x,rfl,⟨hq,hsc⟩,hs⟩:=hG;dsimp only at hq hsc;obtain⟨A5,c5,bb,rfl,_,rfl⟩:=zb2 hq;have KF:=aQ (KD.out.block hM hs hsc);have HQ5:=aQ hq;obtain⟨⟨u0,u1,u2⟩,v0,v1,v2⟩:=ka KF.out.z;clear hM hs hsc hq))
  all_goals
   have HS9:=aQ (xa KF.out.z (o.getD qe).t (o.getD qe).n (.slice A5 (o.getD qe).s.length c5));go_wp2;refine vS (qW results153 _ _ (w.heap.size+1) rfl HS9.out.here) rfl ?_;exact qY (o:=o) (env:=env2) rfl KF.out.run KF.out.mv HQ5.out KF.out.sc (by omega) KF.out.z HS9.out HN.out
variable [Prt]
def zod{w0 w1 w2:World}{b:Nat}{ms:List Nat}{env pe:Env}{bms:List Nat}(hs:ScAt n0 w0 (.pointer (some ⟨b,0,none⟩)) ms env)(hb:zc0 w0 (some ⟨b,0,none⟩) ms env q bms)(b1:Below w0.heap.size w0 w1)(h1:w1.heap[w0.heap.size+1]? =some (.cells #[.map (some w0.heap.size),q] 206 (0,0)))(hM:Mv n0 (·∈w0.heap.size::bms) w1 w2)
  (hsc:ScAt n0 w2 (.pointer (some ⟨w0.heap.size+1,0,none⟩)) (w0.heap.size::bms) pe):ScAt n0 w2 (.pointer (some ⟨b,0,none⟩)) ms (jj env pe.tail):=by
 have hk:=hM.kept h1 (by decide);cases hsc with
 | cons hb2 hm2 h02 hne2 hr2=>
  rw[hk]at hb2;injection hb2 with hb2
  injection hb2 with hb2 _ _
  simp at hb2;obtain⟨_,rfl⟩:=hb2;refine zd9 (M:=(·∈w0.heap.size::bms)) hs hb ((Mv.of b1).trans hM) (fun m hm h=>?_) hr2;rcases aC.1 h with h|h
  ·have:=(hs.ms m hm).2.1;omega
  ·exact h
def zq3{w0 w1 w2:World}{a:Option Addr}{ms:List Nat}{env:Env}{bms:List Nat}(hb:zc0 w0 a ms env q bms)(b1:Below w0.heap.size w0 w1)(hM:Mv n0 (·∈w0.heap.size::bms) w1 w2):Mv n0 (·∈ms) w0 w2:=
 ((Mv.of b1).trans hM).less fun k hk h=>by
  rcases aC.1 h with h|h
  ·omega
  ·exact yR hb _ h
def ArgX.two{V:Value}{x y:Va}(h:ArgX n0 w V [x,y]):∃(kb ko c:Nat),V=.slice (some ⟨kb,ko,none⟩) 2 c/\2<=c/\c<=maxLen/\fits x.n/\fits y.n /\
  ∀(w':World),Mv n0 (fun b=>n0<=b) w w'->w'.cell? ⟨kb,ko+1,none⟩=some (.int .i64 x.n)/\w'.cell? ⟨kb,ko+3+1,none⟩=some (.int .i64 y.n):=by
 obtain⟨kb,ko,c,A0,c0,rfl,h1,h2,⟨_,a2,_⟩,⟨_,_,_,v1⟩,k1⟩:=h.getk (i:=0) (v:=x) rfl;obtain⟨kb',ko',c',A0',c0',e,_,_,⟨_,b2,_⟩,⟨_,_,_,v2⟩,k2⟩:=h.getk (i:=1) (v:=y) rfl;injection e with e1 _ e3
 injection e1 with e1
 injection e1 with e1 e2 _
 subst e1 e2;refine⟨kb,ko,c,rfl,h1,h2,v1.1,v2.1,fun w' hm=>?_⟩;have hk:=k1 _ w' hm (fun b h=>h);have hc:∀o,w'.cell? ⟨kb,o,none⟩=w.cell? ⟨kb,o,none⟩:=fun o=>by simp only[World.cell?,hk]
 exact⟨by rw[hc];simpa using a2,by rw[hc];simpa using b2⟩
structure Lk(X:Cx10)(c:Nat)(τ:Stt)(w wb:World)(eo:Array Value)(cb:Nat)(ms:List Nat)(env:Env)(kb ko:Nat)(x y:Va)(w1:World):Prop where
 run:RunS X c τ w1
 mv:Mv X.n0 (·∈ms) wb w1
 e:w1.heap[w.heap.size]? =some (.cells eo 145 (0,0))
 z:w1.heap[w.heap.size+1]? =some (.cells #[.int .i64 0,.int .i64 0,.slice none 0 0] 41 (0,0))
 sc:ScAt X.n0 w1 (.pointer (some ⟨cb,0,none⟩)) ms env
def Lk.on{X:Cx10}{τ:Stt}{b:Nat}{ms:List Nat}{env:Env}{x y:Va}(h:Lk X c τ w wb eo b ms env kb ko x y w1)(hb:Below w1.heap.size w1 w2):Lk X c τ w wb eo b ms env kb ko x y w2:=
 ⟨h.run.on hb,h.mv.then hb,zg hb h.e (aU.1 h.e).1,zg hb h.z (aU.1 h.z).1,h.sc.on hb⟩
def Lk.go{X:Cx10}{τ τ':Stt}{b:Nat}{ms:List Nat}{env:Env}{x y:Va}(h:Lk X c τ w wb eo b ms env kb ko x y w1)(hm:Mv X.n0 NoM w1 w2)(hr:RunS X c τ' w2):Lk X c τ' w wb eo b ms env kb ko x y w2:=
 ⟨hr,h.mv.trans (NoM.mono hm),hm.kept h.e (by decide),hm.kept h.z (by decide),h.sc.mv hm (fun _ _ h=>h)⟩
def Lk.block{X:Cx10}{τ τ':Stt}{b:Nat}{ms:List Nat}{env env':Env}{x y:Va}(h:Lk X c τ w wb eo b ms env kb ko x y w1)(hm:Mv X.n0 (·∈ms) w1 w2)(hr:RunS X c τ' w2)(hs:ScAt X.n0 w2 (.pointer (some ⟨b,0,none⟩)) ms env'):Lk X c τ' w wb eo b ms env' kb ko x y w2:=
 ⟨hr,h.mv.trans hm,hm.kept h.e (by decide),hm.kept h.z (by decide),hs⟩
def Lk.s1{X:Cx10}{τ:Stt}{op aW:Int}{s:ByteArray}{b:Nat}{ms:List Nat}{env:Env}{x y:Va}(h:Lk X c τ w wb #[.int .i64 op,.string s,K1,K2,K3,.int .i64 aW] b ms env kb ko x y w1):w1.cell? ⟨w.heap.size,1,none⟩=some (.string s):=(yH h.e).2.1
def Lk.s3{X:Cx10}{τ:Stt}{op aW:Int}{s:ByteArray}{b:Nat}{ms:List Nat}{env:Env}{x y:Va}(h:Lk X c τ w wb #[.int .i64 op,.string s,K1,K2,K3,.int .i64 aW] b ms env kb ko x y w1):w1.cell? ⟨w.heap.size,3,none⟩=some K2:=(yH h.e).2.2.2.1
def Lk.var{X:Cx10}{τ:Stt}{b:Nat}{ms:List Nat}{env:Env}{x y:Va}{t n:Int}(h:Lk X c τ w wb eo b ms env kb ko x y w1)(hv:VSt g t n (.slice A m cp) w1 w2){m0 cp0:Nat}(hw:w1.heap[g]? =some (.cells #[.int .i64 t0,.int .i64 n1,.slice A0 m0 cp0] 41 (0,0)))(hg:wb.heap.size<=g)(hs:w.heap.size+1<wb.heap.size)(hn:X.n0<=w.heap.size):Lk X c τ w wb eo b ms env kb ko x y w2:=
 ⟨h.run.var hv (by omega) hw,h.mv.under (hv.below hg),by rw[hv.far _ (by omega)];exact h.e,by rw[hv.far _ (by omega)];exact h.z,h.sc.var hv hw⟩
structure Inn(w0:World)(q:Value)(w1:World):Prop where
 b:Below w0.heap.size w0 w1
 s:w1.heap[w0.heap.size+1]? =some (.cells #[.map (some w0.heap.size),q] 206 (0,0))
 m:qs w1 w0.heap.size []
def Inn.on(h:Inn w0 q w1)(hb:Below w1.heap.size w1 w2):Inn w0 q w2:=
 ⟨h.b.trans (hb.mono h.b.size),zg hb h.s (aU.1 h.s).1,h.m.of (hb.block _ h.m.lt)⟩
def zle(n0:Nat)(w:World)(cb:Nat)(ms:List Nat)(f:List (List Nat×Va))(env:Env)(hs:ScAt n0 w (.pointer (some ⟨cb,0,none⟩)) ms (f::env))(hf:f≠[]):Calls prog 190 #[.pointer (some ⟨cb,0,none⟩)] w fun e w'=>e=.returned (.pointer (some ⟨w.heap.size+1,0,none⟩))/\Inn w (.pointer (some ⟨cb,0,none⟩)) w':=by
 obtain⟨q,bms,hb,hc⟩:=zci n0 w _ ms _ hs (by simp);rcases hb with⟨r,b,m,e,_⟩|⟨_,rfl,rfl⟩
 ·injection e with e _
  exact absurd e hf
 ·exact hc.mono fun e w' ⟨h1,h2,h3,h4⟩=>⟨h1,h4,h2,h3⟩
def zpw(f:List (List Nat×Va))(s:List Nat)(v:Va):updF f s v≠[]:=by
 cases f with
 | nil=>simp[updF]
 | cons p f=>obtain⟨k,u⟩:=p;unfold updF;split<;>simp
def zkr{cb:Nat}{ms:List Nat}{f:List (List Nat×Va)}{env:Env}(hf:f≠[]):zc0 w (some ⟨cb,0,none⟩) ms (f::env) (.pointer (some ⟨cb,0,none⟩)) ms:=.inr ⟨fun r h=>by injection h with h _;exact hf h,rfl,rfl⟩
def zk1(w:World):(w.alloc (.cells #[.int .i64 0,.int .i64 0,.slice none 0 0] 41)).heap[w.heap.size]? =some (.cells #[.int .i64 0,.int .i64 0,.slice none 0 0] 41 (0,0)):=ye w _
def LpS(X:Cx10)(c:Nat)(N:Nat)(w wb:World)(eo:Array Value)(cb:Nat)(ms:List Nat)(kb ko:Nat)(x y:Va)(aZ:List Nat)(body:List Xs)(ro:Ou (Option Va×Env))(k:Nat)(iv:Value)(wr:World):Prop:=
 ∃(env:Env) (σ:Stt) (i:Int),iv=.int .i64 i/\k<=N/\fits i/\Lk X c σ w wb eo cb ms env kb ko x y wr/\k7 X.lim X.F k c i y.n aZ body env σ=some ro
def zsv(X:Cx10)(n:Nat)(hEs:EsOk X n)(hB:∀m,m<n->BOk X m)(c:Nat)(env:Env)(aZ:List Nat)(aY:List Xe)(body els:List Xs)(aW:Int)(σ:Stt)(r:Ou (Option Va×Env))(w:World)(b:Nat)(ms:List Nat)(A1 A2 A3:Option Addr)(c1 c2 c3:Nat)
  (hc:c<=16) (hr:RunS X c σ w) (hs:ScAt X.n0 w (.pointer (some ⟨b,0,none⟩)) ms env) (hgm:X.g ∉ ms) (ht:Byn aZ) (hx:XesC w (Lo X.n0) aY (.slice A1 aY.length c1)) (hy:XssC w (Lo X.n0) body (.slice A2 body.length c2)) (hse:shL aY=true) (hsb:shB body=true)
  (hm:(qK X.lim X.F n c env aY σ).bind (fun vs σ=>match vs with
    | [a,b]=>(k7 X.lim X.F n c a.n b.n aZ body ([]::zap env) σ).bind fun r σ=>qv (r.1,jj env r.2.tail) σ
    | _=>none)=some r) :
  Calls prog 154 #[.pointer (some ⟨X.R,0,none⟩),.agg #[.int .i64 4,.string (strN aZ),.slice A1 aY.length c1,.slice A2 body.length c2,.slice A3 els.length c3,.int .i64 aW],.pointer (some ⟨b,0,none⟩)] w (qR X c (·∈ms) (QB10 X b ms) w r):=by
 have hn0:=hr.hn;have HN:=aQ hn0;have H3:=yq w (xsO 4 aZ (.slice A1 aY.length c1) (.slice A2 body.length c2) (.slice A3 els.length c3) aW);obtain⟨w0,hw0⟩:∃w0,(w.alloc (xsO 4 aZ (.slice A1 aY.length c1) (.slice A2 body.length c2) (.slice A3 els.length c3) aW)).alloc zO=w0:=⟨_,rfl⟩;rw[hw0]at H3;have HW0:=aQ hw0;have hK0:Ks X c σ w #[.int .i64 4,.string (strN aZ),.slice A1 aY.length c1,.slice A2 body.length c2,.slice A3 els.length c3,.int .i64 aW] b ms env w0:=⟨hr.on H3.b,.of H3.b,H3.e,H3.z,hs.on H3.b⟩;obtain⟨e0,e1,e2,e3,e4,e5⟩:=yH hK0.e;obtain⟨ro,g1,HRO⟩:=xh hm;have K:=aQ (hEs c env aY σ ro w0 _ ms _ hc hK0.run hK0.sc (hx.same (xj H3.b hn0)) hse g1);have HY:=aQ (And.intro hy (And.intro ht (And.intro hsb hgm)));have HB:=aQ hB;have KC:=aQ hK0;clear hx hy hse hsb hm hK0 H3 hw0 hr hs hEs g1 hB hgm ht;go_enter func154,ntmps154;go_upto_region 1 with fail
 rw[HW0.out]
 go_wp2_with fail
 (with_reducible refine K.out.mono ?_)
 rintro e' w1 hG;rcases ro with⟨vs,τ⟩|⟨t,τ⟩
 rotate_left
 ·obtain⟨hM,rfl,c',hs⟩:=hG;exact⟨rfl,zy (HRO.out.1 _ _ rfl) (KC.out.mv.trans (NoM.mono hM)) hs⟩
 obtain⟨hM,V,rfl,hO,hs⟩:=hG;have h2:=HRO.out.2 _ _ rfl;clear K HRO
 match vs,h2,hO with
 | [x,y],h2,hO=>
  dsimp only at h2;replace KC:=aQ (KC.out.go hM hs);obtain⟨kb,ko,vc,rfl,p1,p2,fx,fy,hcells⟩:=(OwnV.argX (n0:=X.n0) hO).two;obtain⟨ro,g1,HRO⟩:=xh h2;obtain⟨q,bms,hbp,hin⟩:=zci X.n0 w1 _ ms env KC.out.sc (by intro h;subst h;cases KC.out.sc);have KI:=aQ hin;have HBP:=aQ hbp;have HG1:=aQ g1;have HCE:=aQ hcells;have HFF:=aQ (And.intro fx fy);clear hM hs hO h2 hbp hin g1 hcells e0 e1 e2 e3 e4 e5 fx fy
  go_wp2_with fail
  (with_reducible refine KI.out.mono ?_)
  rintro e3 wb⟨rfl,i1,i2,i3⟩;obtain⟨a0,a1⟩:=HCE.out wb (.of i3);have HM1:=aQ KC.out.mv;have HBM:Hid (∀w2,Mv X.n0 (·∈w1.heap.size::bms) wb w2->Mv X.n0 (·∈ms) w w2):=fun w2 h=>HM1.out.trans (zq3 HBP.out i3 h);have HBF:Hid (∀w2 pe,Mv X.n0 (·∈w1.heap.size::bms) wb w2->ScAt X.n0 w2 (.pointer (some ⟨w1.heap.size+1,0,none⟩)) (w1.heap.size::bms) pe->ScAt X.n0 w2 (.pointer (some ⟨b,0,none⟩)) ms (jj env pe.tail)):=fun w2 pe h h'=>zod KC.out.sc HBP.out i3 i1 h h';have hq:=zk0 KC.out.sc HBP.out;obtain⟨qa,rfl⟩:=hq.ptr
  have HST:Hid (LpS X c n w wb #[.int .i64 4,.string (strN aZ),.slice A1 aY.length c1,.slice A2 body.length c2,.slice A3 els.length c3,.int .i64 aW] (w1.heap.size+1) (w1.heap.size::bms) kb ko x y aZ body ro n (.int .i64 x.n) wb):=
   ⟨_,τ,x.n,rfl,aR _,HFF.out.1,⟨KC.out.run.on i3,.refl _ _ _,zg i3 KC.out.e (aU.1 KC.out.e).1,zg i3 KC.out.z (aU.1 KC.out.z).1,ScAt.begin hq i3 i1 i2 KC.out.run.hn⟩,HG1.out⟩
  have HGN:Hid (X.g ∉ w1.heap.size::bms):=by
   show X.g ∉ _;intro h;rcases aC.1 h with h|h
   ·have:=KC.out.run.tab.lt;omega
   ·exact HY.out.2.2.2 (yR HBP.out _ h)
  have HCB:Hid (∀w2,Mv X.n0 (·∈w1.heap.size::bms) wb w2->w2.cell? ⟨kb,ko+1,none⟩=some (.int .i64 x.n)/\w2.cell? ⟨kb,ko+3+1,none⟩=some (.int .i64 y.n)):=fun w2 h=>
   HCE.out w2 ((Mv.of i3).trans (h.less fun k _ hk=>by
    rcases aC.1 hk with e|e
    ·rw[e];exact KC.out.run.hn
    ·exact(hq.ms _ e).1))
  have HSZ:Hid (w.heap.size+1<wb.heap.size):=(aU.1 (zg i3 KC.out.z (aU.1 KC.out.z).1)).1;clear hq i1 i2 i3 KI
  go_wp2_with fail
  go_loopg [10] n (fun k i wr=>LpS X c n w wb #[.int .i64 4,.string (strN aZ),.slice A1 aY.length c1,.slice A2 body.length c2,.slice A3 els.length c3,.int .i64 aW] (w1.heap.size+1) (w1.heap.size::bms) kb ko x y aZ body ro k i wr)
  case atStart=>exact HST.out
  case round=>
   obtain⟨env',σ',i,rfl,hkn,hfi,hL,hl⟩:=hrel;obtain⟨m',rfl⟩:∃m',gk=m'+1:=by
    cases gk with
    | zero=>unfold k7 at hl;cases hl
    | succ m=>exact⟨m,rfl⟩
   unfold k7 at hl;obtain⟨d0,d1⟩:=HCB.out wr hL.mv;by_cases hlt:i<y.n
   ·rw[if_pos hlt]at hl;obtain⟨ru,g1,HRU⟩:=xh hl;have K1:=aQ (xY X c σ' wr 1 (by decide) (by decide) _ hL.run g1);have KL:=aQ hL;clear hl g1 hL
    go_wp2_with fail
    (with_reducible refine K1.out.mono ?_)
    rintro e4 w2 hG;rcases ru with⟨_,τ2⟩|⟨t,τ2⟩
    rotate_left
    ·obtain⟨hM,rfl,c',hs⟩:=hG;exact⟨rfl,zy (HRO.out.1 _ _ (HRU.out.1 _ _ rfl)) (HBM.out _ (KL.out.mv.trans (NoM.mono hM))) hs⟩
    obtain⟨hM,u,rfl,hu,hs⟩:=hG;replace KL:=aQ (KL.out.go hM hs);have h3:=HRU.out.2 _ _ rfl;clear K1 hM hs hu HRU d0 d1;obtain⟨f,rest,rfl⟩:∃f rest,env'=f::rest:=by
     cases env' with
     | nil=>exact absurd KL.out.sc (by intro h;cases h)
     | cons f rest=>exact⟨f,rest,rfl⟩
    have KN:Hid (∀w',Calls prog 191 #[.int .i64 i] w' fun e w''=>e=.returned (VV 1 i kB)/\Below w'.heap.size w' w''):=fun w'=>numC i w';have KDc:Hid (∀w',Lk X c τ2 w wb #[.int .i64 4,.string (strN aZ),.slice A1 aY.length c1,.slice A2 body.length c2,.slice A3 els.length c3,.int .i64 aW] (w1.heap.size+1) (w1.heap.size::bms) (f::rest) kb ko x y w'->Calls prog 84 #[.pointer (some ⟨w1.heap.size+1,0,none⟩),.string (strN aZ),VV 1 i kB] w' fun e w''=>e=.returned (.tuple #[])/\Lk X c τ2 w wb #[.int .i64 4,.string (strN aZ),.slice A1 aY.length c1,.slice A2 body.length c2,.slice A3 els.length c3,.int .i64 aW] (w1.heap.size+1) (w1.heap.size::bms) (updF f aZ (intV i)::rest) kb ko x y w''):=fun w' h=>by
     refine(ww X c τ2 w' (w1.heap.size+1) w1.heap.size bms f rest aZ (intV i) _ h.run h.sc (by intro e;exact HGN.out (by simp[e])) HY.out.2.1 ⟨_,rfl,SB.nil _ _,hfi,by simp[intV]⟩).mono ?_;rintro e w'' ⟨rfl,g1,g2,g3⟩;exact⟨rfl,h.block (g1.less fun b _ e=>by simp[e]) g3 g2⟩
    replace KL:=aQ (KL.out.on (Below.refl w2.heap.size w2).drew);have H3:=aQ h3;clear h3;dsimp only;go_upto_region 7 with fail
    go_region_held2 (fun w'=>w'.cell? ⟨w.heap.size,1,none⟩=some (.string (strN aZ)))
     (first|(with_reducible exact Lk.s1 KP.out)|(with_reducible exact Lk.s1 KM.out)|(with_reducible exact Lk.s1 KL.out))
     (first
      | (go_at_call 191;refine(KN.out _).mono ?_;rintro e5 w3 ⟨rfl,b5⟩;have KM:=aQ (KL.out.on b5);clear b5)
      | (go_at_call 84;refine(KDc.out _ KM.out).mono ?_;rintro e6 w4 ⟨rfl,hk6⟩;have KP:=aQ hk6;clear hk6))
    obtain⟨r2,g2,HR2⟩:=xh H3.out;have hne:=zpw f aZ (intV i);have h4:xe X.lim X.F m' c (updF f aZ (intV i)::rest) body τ2=some r2:=g2;replace KP:=aQ (KP.out.on (Below.refl w4.heap.size w4).drew)
    generalize updF f aZ (intV i)=f2 at *
    have KI:Hid (∀w',Lk X c τ2 w wb #[.int .i64 4,.string (strN aZ),.slice A1 aY.length c1,.slice A2 body.length c2,.slice A3 els.length c3,.int .i64 aW] (w1.heap.size+1) (w1.heap.size::bms) (f2::rest) kb ko x y w'->Calls prog 190 #[.pointer (some ⟨w1.heap.size+1,0,none⟩)] w' fun e w''=>e=.returned (.pointer (some ⟨w'.heap.size+1,0,none⟩))/\Inn w' (.pointer (some ⟨w1.heap.size+1,0,none⟩)) w''):=fun w' h=>zle X.n0 w' _ _ f2 rest h.sc hne;have KB:Hid (∀w' w'' (p:Nat),p=w'.heap.size+1->Lk X c τ2 w wb #[.int .i64 4,.string (strN aZ),.slice A1 aY.length c1,.slice A2 body.length c2,.slice A3 els.length c3,.int .i64 aW] (w1.heap.size+1) (w1.heap.size::bms) (f2::rest) kb ko x y w'->Inn w' (.pointer (some ⟨w1.heap.size+1,0,none⟩)) w''->Calls prog 85 #[.pointer (some ⟨X.R,0,none⟩),.slice A2 body.length c2,.pointer (some ⟨p,0,none⟩)] w'' fun e w3=>qR X c (·∈w1.heap.size::bms) (QB10 X (w1.heap.size+1) (w1.heap.size::bms)) w' r2 e w3/\Mv X.n0 (·∈w'.heap.size::w1.heap.size::bms) w'' w3):=fun w' w'' p hp h hj=>by
     subst hp;exact yx X m' c (f2::rest) body τ2 r2 w' w'' (w1.heap.size+1) (w1.heap.size::bms) _ _ _ (fun m hm=>HB.out m (by omega)) hc h.run h.sc HGN.out (zkr hne) (HY.out.1.same (xk (HBM.out _ h.mv) HN.out)) HY.out.2.2.1 h4 hj.b hj.s hj.m
    have HL4:Hid (w.heap.size<w4.heap.size):=(aU.1 KP.out.e).1;have HL5:Hid (wb.heap.size<=w4.heap.size):=KP.out.mv.size;have HL6:Hid (w.heap.size+1<wb.heap.size):=HSZ.out;clear g2 h4 KM KL KN KDc H3 hne;go_upto_region 8 with fail
    go_region_held2 (fun w'=>w'.cell? ⟨w.heap.size,3,none⟩=some (.slice A2 body.length c2))
     (first|(with_reducible exact Lk.s3 KF.out)|(with_reducible exact Lk.s3 (KF.out.on (za _ _)))|(with_reducible exact zEm (Lk.s3 KF.out) (aL (aU.1 KQ.out.e).1))|(with_reducible exact zEm (Lk.s3 KF.out) (aL HL4.out))|(with_reducible exact zEm (Lk.s3 (KF.out.on (za _ _))) (aL (aU.1 KF.out.e).1))|(with_reducible exact Lk.s3 KQ.out)|(with_reducible exact Lk.s3 (KQ.out.on (za _ _)))|(with_reducible exact Lk.s3 KP.out)|(with_reducible exact Lk.s3 (KP.out.on (za _ _))))
     (first
      | (go_at_call 190;(first|(with_reducible refine(KI.out _ KP.out).mono ?_)|(have HZ:Hid ((w4.drew.alloc (.cells #[.int .i64 0,.int .i64 0,.slice none 0 0] 41)).heap[w4.heap.size]? =some (.cells #[.int .i64 0,.int .i64 0,.slice none 0 0] 41 (0,0))):=zk1 w4.drew;replace KP:=aQ (KP.out.on (za _ (.cells #[.int .i64 0,.int .i64 0,.slice none 0 0] 41)));refine(KI.out _ KP.out).mono ?_));rintro e5 w5 ⟨rfl,g1⟩;have KJ:=aQ g1;have KQ:=aQ (KP.out.on g1.b);(try replace HZ:=aQ (zg g1.b HZ.out (aU.1 HZ.out).1));clear g1)
      | (go_at_call 85;(first|(with_reducible refine(KB.out _ _ _ ?_ KP.out KJ.out).mono ?_;focus (first|rfl|(simp;done)))|(have HZ:=aQ (zk1 w5);replace KJ:=aQ (KJ.out.on (za _ (.cells #[.int .i64 0,.int .i64 0,.slice none 0 0] 41)));with_reducible refine(KB.out _ _ _ ?_ KP.out KJ.out).mono ?_;focus (first|rfl|(simp;done))));rintro e6 w6 ⟨hG,hM6⟩;(rcases r2 with⟨⟨o,env2⟩,τ3⟩|⟨t2,τ3⟩<;>(try(obtain⟨hM,he,c',hs⟩:=hG;subst he;exact⟨rfl,zy (HRO.out.1 _ _ (HR2.out.1 _ _ rfl)) (HBM.out _ (KP.out.mv.trans hM)) hs⟩)));obtain⟨hM,x5,rfl,⟨hq,hsc⟩,hs⟩:=hG;dsimp only at hq hsc;obtain⟨A5,c5,bb,rfl,hv5,rfl⟩:=zb2 hq;have KF:=aQ (KP.out.block hM hs hsc);have HQ5:=aQ hq;(try(replace HZ:=aQ (hM6.kept HZ.out (by decide));obtain⟨⟨u0,u1,u2⟩,v0,v1,v2⟩:=ka HZ.out));clear hM hs hsc hq hv5 hM6))
    all_goals
     first
     | (have HV:VSt (w5.heap.size) (o.getD qe).t (o.getD qe).n (.slice A5 (o.getD qe).s.length c5) w6 (((w6.setCell ⟨w5.heap.size,0,none⟩ (.int .i64 (o.getD qe).t)).setCell ⟨w5.heap.size,1,none⟩ (.int .i64 (o.getD qe).n)).setCell ⟨w5.heap.size,2,none⟩ (.slice A5 (o.getD qe).s.length c5)):=xa HZ.out _ _ _
        have KW:=aQ (KF.out.var HV HZ.out KQ.out.mv.size HL6.out HN.out);have HGW:=aQ HV.here;have HQW:=aQ (HQ5.out.var HV HZ.out);clear HV HZ v0 v1 v2 u0 u1 u2
        generalize(((w6.setCell ⟨w5.heap.size,0,none⟩ (.int .i64 (o.getD qe).t)).setCell ⟨w5.heap.size,1,none⟩ (.int .i64 (o.getD qe).n)).setCell ⟨w5.heap.size,2,none⟩ (.slice A5 (o.getD qe).s.length c5))=W at *
        generalize w5.heap.size=gW at *)
     | (have HV:VSt (w4.heap.size) (o.getD qe).t (o.getD qe).n (.slice A5 (o.getD qe).s.length c5) w6 (((w6.setCell ⟨w4.heap.size,0,none⟩ (.int .i64 (o.getD qe).t)).setCell ⟨w4.heap.size,1,none⟩ (.int .i64 (o.getD qe).n)).setCell ⟨w4.heap.size,2,none⟩ (.slice A5 (o.getD qe).s.length c5)):=xa HZ.out _ _ _
        have KW:=aQ (KF.out.var HV HZ.out HL5.out HL6.out HN.out);have HGW:=aQ HV.here;have HQW:=aQ (HQ5.out.var HV HZ.out);clear HV HZ v0 v1 v2 u0 u1 u2
        generalize(((w6.setCell ⟨w4.heap.size,0,none⟩ (.int .i64 (o.getD qe).t)).setCell ⟨w4.heap.size,1,none⟩ (.int .i64 (o.getD qe).n)).setCell ⟨w4.heap.size,2,none⟩ (.slice A5 (o.getD qe).s.length c5))=W at *
        generalize w4.heap.size=gW at *)
     | (have KW:=aQ (KF.out.on (za w6 (.cells #[.int .i64 (o.getD qe).t,.int .i64 (o.getD qe).n,(.slice A5 (o.getD qe).s.length c5)] 41)))
        have HGW:=aQ (ye w6 (.cells #[.int .i64 (o.getD qe).t,.int .i64 (o.getD qe).n,(.slice A5 (o.getD qe).s.length c5)] 41));have HQW:=aQ (HQ5.out.on (za w6 (.cells #[.int .i64 (o.getD qe).t,.int .i64 (o.getD qe).n,(.slice A5 (o.getD qe).s.length c5)] 41)))
        generalize w6.alloc (.cells #[.int .i64 (o.getD qe).t,.int .i64 (o.getD qe).n,(.slice A5 (o.getD qe).s.length c5)] 41)=W at *
        generalize w6.heap.size=gW at *)
    all_goals
     clear KF HQ5;have hi1:i+1<=9223372036854775807:=by have:=HFF.out.2;unfold fits at this;omega
     have hi0:-9223372036854775808<=i+1:=by unfold fits at hfi;omega
     obtain⟨u0,u1,u2⟩:=qr HGW.out;cases o with
     | none=>
      have H5:Hid (k7 X.lim X.F m' c (i+1) y.n aZ body env2 τ3=some ro):=HR2.out.2 _ _ rfl
      simp only[Option.getD_none,Option.isSome_none]at *
      go_wp2_with fail
      go_roundg m'
      case measure=>omega
      case rel=>exact⟨env2,τ3,i+1,rfl,by omega,⟨hi0,hi1⟩,KW.out,H5.out⟩
     | some v=>
      have h5:some (Ou.ok (some v,env2) τ3)=some ro:=HR2.out.2 _ _ rfl;injection h5 with h5
      have h6:=HRO.out.2 _ _ h5.symm;have H6:Hid (r=.ok (some v,jj env env2.tail) τ3):=by
       show _=_;injection h6 with h
       exact h.symm
      clear h5 h6
      simp only[Option.getD_some,Option.isSome_some]at *
      go_wp2_with(refine zm rfl (.tmp 6) (.tmp 50) rfl rfl (w.heap.size+1) rfl v.t v.n A5 v.s.length c5 rfl KW.out.z ?_;intro w7 g1)
      refine vS (qW results154 _ _ (w.heap.size+1) rfl g1.here) rfl ?_;exact qY (o:=some v) (env:=jj env env2.tail) H6.out KW.out.run (HBM.out _ KW.out.mv) HQW.out (HBF.out _ _ KW.out.mv KW.out.sc) (by omega) KW.out.z g1 HN.out
   ·rw[if_neg hlt]at hl;have h5:some (Ou.ok (none,env') σ')=some ro:=hl;injection h5 with h5
    have h6:=HRO.out.2 _ _ h5.symm;have H6:Hid (r=.ok (none,jj env env'.tail) σ'):=by
     show _=_;injection h6 with h
     exact h.symm
    have KW:=aQ hL;clear hl h5 h6 hL
    go_wp2_with(refine zm rfl (.tmp 6) (.tmp 51) rfl rfl (w.heap.size+1) rfl 0 0 none 0 0 rfl KW.out.z ?_;intro w7 g1)
    refine vS (qW results154 _ _ (w.heap.size+1) rfl g1.here) rfl ?_;exact qY (o:=none) (env:=jj env env'.tail) H6.out KW.out.run (HBM.out _ KW.out.mv) rfl (HBF.out _ _ KW.out.mv KW.out.sc) (by omega) KW.out.z g1 HN.out
end
end Go.Proofs.YtcilgkdnjgmogaaGreatDoor
