/- A part of the proof. -/
import Derived.Test.YtcilgkdnjgmogaaGreatDoorYE
namespace Go.Proofs.YtcilgkdnjgmogaaGreatDoor
open Go.Proofs.Tryz
set_option maxRecDepth 100000
set_option maxHeartbeats 12800000
set_option linter.all false
variable {B cB g i k m n:Nat} {D:Nat->Prop} {s:List Nat} {w w':World}
section
section
open Go.RowKit
def zmg{a a2:Xe}{V:Value}(h:XesC w D [a,a2] V):∃(kb ko c:Nat) (A0 A1:Option Addr) (c0 c1:Nat),V=.slice (some ⟨kb,ko,none⟩) 2 c/\2<=c/\c<=9223372036854775807 /\
  w.rangeAt kb ko (xeC a (.slice A0 a.aX.length c0))/\w.rangeAt kb (ko+5) (xeC a2 (.slice A1 a2.aX.length c1))/\XeV w D a (.agg (xeC a (.slice A0 a.aX.length c0)).toArray)/\XeV w D a2 (.agg (xeC a2 (.slice A1 a2.aX.length c1)).toArray):=by
 cases h with
 | mk _ ks _ hk h1 ht h2=>
  match ks,hk with
  | [k0,k1],_=>
   have g0:=h2 0 a k0 rfl rfl;have g1:=h2 1 a2 k1 rfl rfl;obtain⟨A0,c0,rfl⟩:=zu g0;obtain⟨A1,c1,rfl⟩:=zu g1;obtain⟨kb,ko,c,rfl,e1,e2,_,e4⟩:=h1.plain5 (by simp[xesC,xeC]);refine⟨kb,ko,c,A0,A1,c0,c1,rfl,e1,by unfold maxLen at e2;omega,fun j v hv=>e4 j v ?_,fun j v hv=>?_,⟨_,rfl,ht a (by simp),g0⟩,⟨_,rfl,ht a2 (by simp),g1⟩⟩
   ·have hj:j<5:=by
     have:=(vm.1 hv).1;simpa[xeC]using this
    simp only[xesC,List.zipWith_cons_cons,List.zipWith_nil_left,List.flatten_cons,List.flatten_nil,List.append_nil];rw[aF (by simpa[xeC]using hj)];exact hv
   ·have:=e4 (5+j) v (by
     simp only[xesC,List.zipWith_cons_cons,List.zipWith_nil_left,List.flatten_cons,List.flatten_nil,List.append_nil];rw[aG (by simp[xeC])]
     simpa[xeC]using hv)
    rwa [<- Nat.add_assoc]at this
def zmh{b o:Nat}{x0 x1 x2 x3 x4:Value}(h:w.rangeAt b o [x0,x1,x2,x3,x4]):w.cell? ⟨b,o,none⟩=some x0/\w.cell? ⟨b,o+1,none⟩=some x1/\w.cell? ⟨b,o+2,none⟩=some x2/\w.cell? ⟨b,o+3,none⟩=some x3/\w.cell? ⟨b,o+4,none⟩=some x4:=
 ⟨h 0 _ rfl,h 1 _ rfl,h 2 _ rfl,h 3 _ rfl,h 4 _ rfl⟩
def zag{b o:Nat}{cs:List Value}(h:w.rangeAt b o cs)(hb:Below w.heap.size w w'):w'.rangeAt b o cs:=fun j v hv=>zb (h j v hv) hb
def twoC(op num:Int)(aZ:List Nat)(a a2:Xe)(aW:Int)(gs:Sg)(hg:qN aZ=some gs)(hE:EC a)(hE2:EC a2)(B cB g b:Nat)(fs:List Xf)(res:Int)(sc:zX)(w:World)(V:Value)
  (hc:Cx w B cB g fs res) (hs:Sco w b sc) (ht:Byn aZ) (hk:XesC w (Lo B) [a,a2] V) :
  Calls prog 324 #[.pointer (some ⟨cB,0,none⟩),.agg #[.int .i64 op,.int .i64 num,.string (strN aZ),V,.int .i64 aW],.map (some b)] w fun x w'=>TOut (twoR gs aW (zE (zh fs) sc [a,a2])) x w'/\Below w.heap.size w w':=by
 have hB:B<=w.heap.size:=by have:=hc.lt;have:=hc.hc;omega
 obtain⟨kb,ko,c,A0,A1,c0,c1,rfl,hn1,hn2,ra,rb,v0,v1⟩:=zmg hk;have BA:=aQ (za w (xeO op num aZ (.slice (some ⟨kb,ko,none⟩) 2 c) aW));have KS:=aQ (ztv aZ ht);obtain⟨z0,z1,z2,z3,z4⟩:=qx w op num aZ (.slice (some ⟨kb,ko,none⟩) 2 c) aW
 have K0:Hid (∀w' fv,Below w.heap.size w w'->FitV w' fv gs.takes->Calls prog 273 #[.pointer (some ⟨cB,0,none⟩),.agg (xeC a (.slice A0 a.aX.length c0)).toArray,.map (some b),fv] w' fun x w''=>TOut (zM gs.takes (a.aW,qk (zh fs) sc a)) x w''/\Below w'.heap.size w' w''):=
  fun w' fv hb hf=>vQ a hE B cB g b fs res sc w' _ fv _ (hc.below hb) (hs.below hb) (v0.same (zk hb hB)) hf
 have K1:Hid (∀w' fv,Below w.heap.size w w'->FitV w' fv gs.takes->Calls prog 273 #[.pointer (some ⟨cB,0,none⟩),.agg (xeC a2 (.slice A1 a2.aX.length c1)).toArray,.map (some b),fv] w' fun x w''=>TOut (zM gs.takes (a2.aW,qk (zh fs) sc a2)) x w''/\Below w'.heap.size w' w''):=
  fun w' fv hb hf=>vQ a2 hE2 B cB g b fs res sc w' _ fv _ (hc.below hb) (hs.below hb) (v1.same (zk hb hB)) hf
 have R0:Hid (∀w',Below w.heap.size w w'->w'.rangeAt kb ko (xeC a (.slice A0 a.aX.length c0))/\w'.rangeAt kb (ko+5) (xeC a2 (.slice A1 a2.aX.length c1))):=fun w' hb=>⟨zag ra hb,zag rb hb⟩;have HM0:Hid (∀c p,zM gs.takes (a.aW,qk (zh fs) sc a)=.bad c p->twoR gs aW (zE (zh fs) sc [a,a2])=.bad c p):=fun c p h=>by simp[zE,twoR,h]
 have HM1:Hid (∀x c p,zM gs.takes (a.aW,qk (zh fs) sc a)=.ok x->zM gs.takes (a2.aW,qk (zh fs) sc a2)=.bad c p->twoR gs aW (zE (zh fs) sc [a,a2])=.bad c p):=fun x c p h h'=>by simp[zE,twoR,h,h']
 have HM2:Hid (∀x y,zM gs.takes (a.aW,qk (zh fs) sc a)=.ok x->zM gs.takes (a2.aW,qk (zh fs) sc a2)=.ok y->twoR gs aW (zE (zh fs) sc [a,a2])=if x=y then .ok (gs.gives x)else .bad 51 aW):=fun x y h h'=>by simp[zE,twoR,h,h']
 generalize twoR gs aW (zE (zh fs) sc [a,a2])=m at *
 generalize zM gs.takes (a.aW,qk (zh fs) sc a)=r0 at *
 generalize zM gs.takes (a2.aW,qk (zh fs) sc a2)=r1 at *
 unfold xeC at *
 clear hc hs hk hE hE2 ht ra rb v0 v1;go_enter func324,ntmps324;go_upto_region 1 with fail
 have L0:Hid (w.heap.size<(w.alloc (xeO op num aZ (.slice (some ⟨kb,ko,none⟩) 2 c) aW)).heap.size):=by show _<_;simp
 generalize w.alloc (.cells #[.int .i64 op,.int .i64 num,.string (strN aZ),.slice (some ⟨kb,ko,none⟩) 2 c,.int .i64 aW] 202)=w0 at *
 go_wp2_with fail
 refine(KS.out _).mono ?_;rintro x w1 h1;obtain⟨g',hg',v1,v2,rfl,f1,f2,b1⟩:∃g',qN aZ=some g'/\x8 g' w0 x w1:=by
  rcases h1 with h1|⟨h1,_⟩
  ·exact h1
  ·rw[hg]at h1;cases h1
 rw[hg]at hg';injection hg' with hg'
 subst hg';have F1:=aQ f1;have F2:=aQ f2;have B1:=aQ (zd BA.out b1 BA.out.size);have y3:=zb z3 b1;have y4:=zb z4 b1;obtain⟨fn1,caps1,D1,rfl,_⟩:=f1;obtain⟨fn2,caps2,D2,rfl,_⟩:=f2;clear z0 z1 z2 z3 z4 b1 KS BA hg
 go_wp2_with(refine zc zL rfl (.tmp 8) (.tmp 17) rfl rfl w1.heap.size rfl [_,_] rfl rfl (zD (cs:=[_,_]) (ye w1 _) rfl) (by simp[Value.oneCell']) ?_;intro w2 g1 g2 g3 g4 g5;refine Hid.out ?_)
 refine aQ ?_;have hbx:Below w1.heap.size w1 w2:=(za w1 opO).trans g3
 have HY2:Hid (w2.cell? ⟨w.heap.size,3,none⟩=some (.slice (some ⟨kb,ko,none⟩) 2 c)/\w2.cell? ⟨w.heap.size,4,none⟩=some (.int .i64 aW)/\w2.cell? ⟨w1.heap.size,0,none⟩=some (.func (.func fn1) #[] caps1)/\w2.cell? ⟨w1.heap.size,1,none⟩=some (.func (.func fn2) #[] caps2)):=
  ⟨zb y3 hbx,zb y4 hbx,g1 0 _ rfl,g1 1 _ rfl⟩
 have HF2:=aQ (F1.out.below hbx);have HG2:=aQ (F2.out.below hbx);have HB2:=aQ (zd B1.out hbx B1.out.size);clear g1 g2 g3 g4 g5 hbx y3 y4 F1 F2 B1 L0;go_upto_region 2 with fail
 have hbl:Below w2.heap.size w2 w2.drew:=(Below.refl _ _).drew
 have HQ:Hid (∀w',Below w2.heap.size w2 w'->w'.cell? ⟨w.heap.size,3,none⟩=some (.slice (some ⟨kb,ko,none⟩) 2 c)/\w'.cell? ⟨w1.heap.size,0,none⟩=some (.func (.func fn1) #[] caps1)/\(w'.cell? ⟨kb,ko,none⟩=some (.int .i64 a.op)/\w'.cell? ⟨kb,ko+1,none⟩=some (.int .i64 a.num)/\w'.cell? ⟨kb,ko+2,none⟩=some (.string (strN a.aZ))/\w'.cell? ⟨kb,ko+3,none⟩=some (.slice A0 a.aX.length c0)/\w'.cell? ⟨kb,ko+4,none⟩=some (.int .i64 a.aW))):=
  fun w' hb=>⟨zb HY2.out.1 hb,zb HY2.out.2.2.1 hb,zmh (R0.out w' (zd HB2.out hb HB2.out.size)).1⟩
 go_region_held3(fun w'=>w'.cell? ⟨w.heap.size,3,none⟩=some (.slice (some ⟨kb,ko,none⟩) 2 c)/\w'.cell? ⟨w1.heap.size,0,none⟩=some (.func (.func fn1) #[] caps1)/\(w'.cell? ⟨kb,ko,none⟩=some (.int .i64 a.op)/\w'.cell? ⟨kb,ko+1,none⟩=some (.int .i64 a.num)/\w'.cell? ⟨kb,ko+2,none⟩=some (.string (strN a.aZ))/\w'.cell? ⟨kb,ko+3,none⟩=some (.slice A0 a.aX.length c0)/\w'.cell? ⟨kb,ko+4,none⟩=some (.int .i64 a.aW)))
  (with_reducible exact HQ.out _ hbl)
  (first|(go_at_call 273;refine(K0.out _ _ (zd HB2.out hbl HB2.out.size) (HF2.out.below hbl)).mono ?_;rintro e wn ⟨⟨v,rfl,hv⟩,hbn⟩;replace hbl:=zd hbl hbn hbl.size))
 have hbx:Below w2.heap.size w2 wn:=hbl
 have HY5:Hid (wn.cell? ⟨w.heap.size,3,none⟩=some (.slice (some ⟨kb,ko,none⟩) 2 c)/\wn.cell? ⟨w.heap.size,4,none⟩=some (.int .i64 aW)/\wn.cell? ⟨w1.heap.size,0,none⟩=some (.func (.func fn1) #[] caps1)/\wn.cell? ⟨w1.heap.size,1,none⟩=some (.func (.func fn2) #[] caps2)):=
  ⟨zb HY2.out.1 hbx,zb HY2.out.2.1 hbx,zb HY2.out.2.2.1 hbx,zb HY2.out.2.2.2 hbx⟩
 have HF5:=aQ (HF2.out.below hbx);have HG5:=aQ (HG2.out.below hbx);have HB5:=aQ (zd HB2.out hbx HB2.out.size);have HV:=aQ hv;clear hbn hbx hbl HQ HY2 HF2 HG2 HB2 K0;cases r0 with
 | bad cc pp=>
  obtain⟨bf,rfl,_⟩:=hv;have HE:Hid (m=.bad cc pp):=HM0.out cc pp rfl;go_wp2
  go_ret2
  exact⟨⟨_,by rw[HE.out];rfl,by rw[HE.out];exact HV.out⟩,HB5.out⟩
 | ok x=>
  obtain rfl:v=.pointer none:=hv;clear HV
  simp only[Rt.val]at *
  (go_upto_region 5 with fail);have hbl:Below wn.heap.size wn wn.drew:=(Below.refl _ _).drew
  have HQ:Hid (∀w',Below wn.heap.size wn w'->w'.cell? ⟨w.heap.size,3,none⟩=some (.slice (some ⟨kb,ko,none⟩) 2 c)/\w'.cell? ⟨w1.heap.size,0,none⟩=some (.func (.func fn1) #[] caps1)/\(w'.cell? ⟨kb,ko+5,none⟩=some (.int .i64 a2.op)/\w'.cell? ⟨kb,ko+5+1,none⟩=some (.int .i64 a2.num)/\w'.cell? ⟨kb,ko+5+2,none⟩=some (.string (strN a2.aZ))/\w'.cell? ⟨kb,ko+5+3,none⟩=some (.slice A1 a2.aX.length c1)/\w'.cell? ⟨kb,ko+5+4,none⟩=some (.int .i64 a2.aW))):=
   fun w' hb=>⟨zb HY5.out.1 hb,zb HY5.out.2.2.1 hb,zmh (R0.out w' (zd HB5.out hb HB5.out.size)).2⟩
  go_region_held3(fun w'=>w'.cell? ⟨w.heap.size,3,none⟩=some (.slice (some ⟨kb,ko,none⟩) 2 c)/\w'.cell? ⟨w1.heap.size,0,none⟩=some (.func (.func fn1) #[] caps1)/\(w'.cell? ⟨kb,ko+5,none⟩=some (.int .i64 a2.op)/\w'.cell? ⟨kb,ko+5+1,none⟩=some (.int .i64 a2.num)/\w'.cell? ⟨kb,ko+5+2,none⟩=some (.string (strN a2.aZ))/\w'.cell? ⟨kb,ko+5+3,none⟩=some (.slice A1 a2.aX.length c1)/\w'.cell? ⟨kb,ko+5+4,none⟩=some (.int .i64 a2.aW)))
   (with_reducible exact HQ.out _ hbl)
   (first|(go_at_call 273;refine(K1.out _ _ (zd HB5.out hbl HB5.out.size) (HF5.out.below hbl)).mono ?_;rintro e wk ⟨⟨v,rfl,hv⟩,hbn⟩;replace hbl:=zd hbl hbn hbl.size))
  have d4:=zb HY5.out.2.1 hbl;have df:=zb HY5.out.2.2.2 hbl;have HG6:=aQ (HG5.out.below hbl);have HB6:=aQ (zd HB5.out hbl HB5.out.size);have HV:=aQ hv;clear hbn hbl HQ HY5 HF5 HG5 HB5 K1 R0;cases r1 with
  | bad cc pp=>
   obtain⟨bf,rfl,_⟩:=hv;have HE:Hid (m=.bad cc pp):=HM1.out x cc pp rfl rfl;clear d4 df;go_wp2
   go_ret2
   exact⟨⟨_,by rw[HE.out];rfl,by rw[HE.out];exact HV.out⟩,HB6.out⟩
  | ok y=>
   obtain rfl:v=.pointer none:=hv
   simp only[Rt.val]at *
   by_cases hxy:x=y
   ·subst hxy;have HE:Hid (m=.ok (gs.gives x)):=by show _=_;rw[HM2.out x x rfl rfl,if_pos rfl]
    have HK2:Hid (Calls prog fn2 (#[.int .i64 x]++caps2) wk fun e w'=>e=.returned (.int .i64 (gs.gives x))/\Below wk.heap.size wk w'):=by
     obtain⟨fn3,caps3,D3,e,_,g1,g2⟩:=HG6.out;injection e with e1 e2 e3
     injection e1 with e1
     subst e1 e3;exact g2 x wk (fun k _=>rfl) (aR _)
    have he':∀(args:Array Value) (w:World),(callFunc fn2 args).run prog w=.ok (.enter fn2 args) w:=by
     obtain⟨fn3,caps3,D3,e,g0,_⟩:=HG6.out;injection e with e1 e2 e3
     injection e1 with e1
     subst e1;exact g0
    clear d4 HG6
    (go_wp2_with fail);refine HK2.out.mono ?_;rintro e w5 ⟨rfl,b5⟩;have HB7:=aQ (zd HB6.out b5 HB6.out.size);clear b5 df
    go_wp2
    go_ret2
    exact⟨⟨_,by rw[HE.out];rfl,by rw[HE.out];rfl⟩,HB7.out⟩
   ·have HE:Hid (m=.bad 51 aW):=by show _=_;rw[HM2.out x y rfl rfl,if_neg hxy]
    have q:(x != y)=true:=by rw[bne_iff_ne];exact hxy
    clear hxy df HG6;go_upto_region 9 with fail
    go_region
    go_wp2
    go_ret2
    exact⟨⟨_,by rw[HE.out];rfl,by rw[HE.out];exact xK wk 51 aW⟩,(HB6.out.alloc HB6.out.size _).drew⟩
def yd{es:List (List Nat×Value)}(h:qs w g es)(hs:Byn s):(Instr.lookup 96 (.map (some g)) (.string (strN s)) true).run prog w=.ok (.tuple #[(seek es s).getD (.agg #[.string ⟨#[]⟩,.slice none 0 0,.int .i64 0,.slice none 0 0,.int .i64 0]),.bool (seek es s).isSome]) w:=by
 have hz:(zeroValue 69).run prog w=.ok (.agg #[.string ⟨#[]⟩,.slice none 0 0,.int .i64 0,.slice none 0 0,.int .i64 0]) w:=by simp[Tryz.zeroValue69]
 exact jH h hs underlying96 hz
def Cx.cells{fs:List Xf}{res:Int}(h:Cx w B cB g fs res):w.cell? ⟨cB,0,none⟩=some (.map (some g))/\w.cell? ⟨cB,1,none⟩=some (.int .i64 res):=
 ⟨by rw[wy _ _ _ _ _ _ h.cell];rfl,by rw[wy _ _ _ _ _ _ h.cell];rfl⟩
def ky{α β:Type}{f:α->β->List Value}(hf:∀a b,(f a b).length=m):∀(l:List α) (ks:List β) (i j:Nat) (a:α) (b:β),l[i]? =some a->ks[i]? =some b->j<m->((List.zipWith f l ks).flatten)[i*m+j]? =(f a b)[j]?
 | [],_,i,j,a,b,h,_,_=>by simp at h
 | _::_,[],i,j,a,b,_,h,_=>by simp at h
 | x::l,y::ks,0,j,a,b,h,h',hj=>by
  simp at h h';subst h h';simp only[List.zipWith_cons_cons,List.flatten_cons];rw[aF (by rw[hf];omega)];simp
 | x::l,y::ks,i+1,j,a,b,h,h',hj=>by
  have ih:=ky hf l ks i j a b (by simpa using h) (by simpa using h') hj;simp only[List.zipWith_cons_cons,List.flatten_cons];have e:(i+1)*m=m+i*m:=by rw[Nat.add_mul];omega
  rw[aG (by rw[hf];omega),hf];rw[show(i+1)*m+j-m=i*m+j by omega];exact ih
def XesC.get5{l:List Xe}{V:Value}(h:XesC w D l V){e:Xe}(he:l[i]? =some e):∃(kb ko c:Nat) (A0:Option Addr) (c0:Nat),V=.slice (some ⟨kb,ko,none⟩) l.length c/\l.length<=c/\c<=maxLen /\
  w.rangeAt kb (ko+i*5) (xeC e (.slice A0 e.aX.length c0))/\XeV w D e (.agg (xeC e (.slice A0 e.aX.length c0)).toArray):=by
 cases h with
 | mk _ ks _ hk h1 ht h2=>
  have hi:=(vm.1 he).1;have hk':ks[i]? =some ks[i]:=vp (by omega);generalize ks[i]=k at hk';have hg:=fun j hj=>ky (f:=xeC) (m:=5) (fun _ _=>rfl) l ks i j e k he hk' hj;have g0:=h2 i e k he hk';obtain⟨A0,c0,rfl⟩:=zu g0
  obtain⟨b,o,c,rfl,a1,a2,a3,a4⟩:=h1.plain5 (by
   intro e0;have:=hg 0 (by omega);unfold xesC at e0;rw[e0]at this
   simp[xeC]at this)
  refine⟨b,o,c,A0,c0,rfl,a1,a2,fun j v hv=>?_,⟨_,rfl,ht e (wM he),g0⟩⟩;have hj:j<5:=by
   have:=(vm.1 hv).1;simpa[xeC]using this
  rw[Nat.add_assoc];exact a4 _ v ((hg j hj).trans hv)
def RowF.param{l:List (List Nat×Int)}{V:Value}(h:RowF w D l.length (xpsC l) V){p:List Nat×Int}(hp:l[i]? =some p):∃(pb po c:Nat),V=.slice (some ⟨pb,po,none⟩) l.length c/\l.length<=c/\c<=maxLen /\
  w.cell? ⟨pb,po+i*2,none⟩=some (.string (strN p.1))/\w.cell? ⟨pb,po+i*2+1,none⟩=some (.int .i64 p.2):=by
 have hg:=fun j hj=>jF (cel:=xpC) (n:=2) (fun _=>rfl) l i j p hp hj
 obtain⟨b,o,c,rfl,a1,a2,a3,a4⟩:=h.plain5 (by
  intro e0;have:=hg 0 (by omega);unfold xpsC at e0;rw[e0]at this
  simp[xpC]at this)
 exact⟨b,o,c,rfl,a1,a2,a4 _ _ ((hg 0 (by omega)).trans rfl),a4 _ _ ((hg 1 (by omega)).trans rfl)⟩
def zl9{p:Int×Rt}{l:List (Int×Rt)}{t:Int}{ts:List Int}:vX (p::l) (t::ts)=(match zM (fun x=>x==t) p with|.bad c a=>some (c,a)|.ok _=>vX l ts):=rfl
def xw{α:Type}{l:List α}{a:α}(h:l[k]? =some a):l.drop k=a::l.drop (k+1):=by
 obtain⟨h1,h2⟩:=vm.1 h;rw[wv h1,h2]
abbrev zF:Obj:=.cells #[.string ⟨#[]⟩,.slice none 0 0,.int .i64 0,.slice none 0 0,.int .i64 0] 69
def zvh(op num:Int)(aZ:List Nat)(aX:List Xe)(aW:Int)(hE:∀e∈aX,EC e)(B cB g b:Nat)(fs:List Xf)(res:Int)(sc:zX)(w:World)(A:Option Addr)(c:Nat)
  (hc:Cx w B cB g fs res) (hs:Sco w b sc) (ht:Byn aZ) (hk:XesC w (Lo B) aX (.slice A aX.length c)) :
  Calls prog 323 #[.pointer (some ⟨cB,0,none⟩),.agg #[.int .i64 op,.int .i64 num,.string (strN aZ),.slice A aX.length c,.int .i64 aW],.map (some b)] w fun x w'=>TOut (yC (zh fs) aZ aW (zE (zh fs) sc aX)) x w'/\Below w.heap.size w w':=by
 have hB:B<=w.heap.size:=by have:=hc.lt;have:=hc.hc;omega
 have BA:=aQ (za w (xeO op num aZ (.slice A aX.length c) aW));obtain⟨z0,z1,z2,z3,z4⟩:=qx w op num aZ (.slice A aX.length c) aW;have hc0:=hc.below BA.out;obtain⟨k0,k1⟩:=hc0.cells;obtain⟨ks,hks,hmap,hpar⟩:=hc0.tab;have BB:=(za (w.alloc (xeO op num aZ (.slice A aX.length c) aW)) zF).drew;have hr1:=yd (w:=(w.alloc (xeO op num aZ (.slice A aX.length c) aW)).drew) hmap ht;have hr2:=yd (w:=((w.alloc (xeO op num aZ (.slice A aX.length c) aW)).alloc zF).drew) (qs.of hmap (BB.block _ hmap.lt)) ht;have k0':=zb k0 BB;have x2:=zb z2 BB;rcases vP aZ fs ks hks with⟨hf,hsk⟩|⟨i,f,k,hfi,hki,hf,hsk⟩
 ·rw[hsk]at hr1 hr2;simp only[Option.getD_none,Option.isSome_none]at hr1 hr2;have HE:Hid (yC (zh fs) aZ aW (zE (zh fs) sc aX)=.bad 52 aW):=by show _=_;simp[yC,zh,hf]
  clear hc hs hk hE hmap hpar hc0 BB hf hsk hks;go_enter func323,ntmps323;go_upto_region 1 with fail
  generalize w.alloc (.cells #[.int .i64 op,.int .i64 num,.string (strN aZ),.slice A aX.length c,.int .i64 aW] 202)=w0 at *
  go_region
  all_goals
   (go_upto_region 3 with fail);have HB:=aQ (zd BA.out (za w0 zF).drew BA.out.size);have x4:=zb z4 (za w0 zF).drew;clear z4 z0 z1 z2 z3 k0 k1 hr1 hr2 k0' x2
   generalize(w0.alloc (.cells #[.string ⟨#[]⟩,.slice none 0 0,.int .i64 0,.slice none 0 0,.int .i64 0] 69)).drew=w1 at *
   go_region
   go_wp2
   go_ret2
   exact⟨⟨_,by rw[HE.out];rfl,by rw[HE.out];exact xK w1 52 aW⟩,(HB.out.alloc HB.out.size _).drew⟩
 ·obtain⟨hrow,A4,n4,c4,hkb⟩:=hpar i f k hfi hki;obtain⟨A5,c5,hkp⟩:=hrow.slice5;obtain⟨kp,kbd⟩:=k;simp only at hkb hkp hrow;subst hkb hkp;rw[hsk]at hr1 hr2;simp only[Option.getD_some,Option.isSome_some,xfC]at hr1 hr2;have HE1:Hid (aX.length≠f.params.length->yC (zh fs) aZ aW (zE (zh fs) sc aX)=.bad 51 aW):=fun h=>by simp[yC,zh,hf,qf,h]
  have HE2:Hid (∀c p,aX.length=f.params.length->vX (zE (zh fs) sc aX) (f.params.map (·.2))=some (c,p)->yC (zh fs) aZ aW (zE (zh fs) sc aX)=.bad c p):=fun c p h h'=>by simp[yC,zh,hf,qf,h,h']
  have HE3:Hid (aX.length=f.params.length->vX (zE (zh fs) sc aX) (f.params.map (·.2))=none->yC (zh fs) aZ aW (zE (zh fs) sc aX)=.ok f.result):=fun h h'=>by simp[yC,zh,hf,qf,h,h']
  have HKid:Hid (∀k e,aX[k]? =some e->(zE (zh fs) sc aX)[k]? =some (e.aW,qk (zh fs) sc e)):=fun k e h=>by rw[zae,List.getElem?_map,h];rfl
  have HLen:Hid ((zE (zh fs) sc aX).length=aX.length):=qf _ _ _
  generalize yC (zh fs) aZ aW (zE (zh fs) sc aX)=m at *
  generalize zE (zh fs) sc aX=rs at *
  have HC:=aQ hc;have HS:=aQ hs;have HKD:=aQ hk;have HRow:=aQ hrow;have HEC:=aQ hE;clear hE hmap hpar hc0 BB hf hsk hks hc hs hk hrow hfi hki ht;go_enter func323,ntmps323;(go_upto_region 1 with fail);have L0:Hid (w.heap.size<(w.alloc (xeO op num aZ (.slice A aX.length c) aW)).heap.size):=by show _<_;simp
  generalize w.alloc (.cells #[.int .i64 op,.int .i64 num,.string (strN aZ),.slice A aX.length c,.int .i64 aW] 202)=w0 at *
  go_cut [8,9] (fun p q wx=>p=.pointer (some ⟨w0.heap.size,0,none⟩)/\q=.bool true/\wx=(w0.alloc (.cells #[.string (strN f.name),.slice A5 f.params.length c5,.int .i64 f.result,.slice A4 n4 c4,.int .i64 f.aW] 69)).drew)
  case first=>
   go_region
   all_goals(go_wp2_with fail;go_meet)
   all_goals exact⟨rfl,rfl,rfl⟩
  case rest=>
   obtain⟨rfl,rfl,rfl⟩:=hcut;have BX:=(za w0 (.cells #[.string (strN f.name),.slice A5 f.params.length c5,.int .i64 f.result,.slice A4 n4 c4,.int .i64 f.aW] 69)).drew;have y3:=zb z3 BX;have y4:=zb z4 BX;have p1:(w0.alloc (.cells #[.string (strN f.name),.slice A5 f.params.length c5,.int .i64 f.result,.slice A4 n4 c4,.int .i64 f.aW] 69)).drew.cell? ⟨w0.heap.size,1,none⟩=some (.slice A5 f.params.length c5):=by
    show(w0.alloc _).cell? _=_;rw[wy _ _ _ _ _ _ (ye w0 _)];rfl
   have p2:(w0.alloc (.cells #[.string (strN f.name),.slice A5 f.params.length c5,.int .i64 f.result,.slice A4 n4 c4,.int .i64 f.aW] 69)).drew.cell? ⟨w0.heap.size,2,none⟩=some (.int .i64 f.result):=by
    show(w0.alloc _).cell? _=_;rw[wy _ _ _ _ _ _ (ye w0 _)];rfl
   have HB2:=aQ (zd BA.out BX BA.out.size);have HRow2:=aQ (HRow.out.same (zk BX (by have:=L0.out;omega)));clear z0 z1 z2 z3 z4 k0 k1 hr1 hr2 k0' x2 BX BA
   generalize(w0.alloc (.cells #[.string (strN f.name),.slice A5 f.params.length c5,.int .i64 f.result,.slice A4 n4 c4,.int .i64 f.aW] 69)).drew=w2 at *
   generalize w0.heap.size=bF at *
   by_cases hlen:aX.length=f.params.length
   ·have q:((aX.length:Int)!=f.params.length)=false:=by rw[bne_eq_false_iff_eq];omega
    have HY:Hid (w2.cell? ⟨bF,1,none⟩=some (.slice A5 f.params.length c5)/\w2.cell? ⟨bF,2,none⟩=some (.int .i64 f.result)):=⟨p1,p2⟩;have hmx:aX.length<=9223372036854775807:=by
     have:=HRow.out.len5;omega
    have HBF:Hid (bF<w2.heap.size):=wW w2 _ p1;have HL2:=aQ hlen;(go_upto_region 6 with fail);clear p1 p2 y4 q hlen;go_wp2;clear y3
    go_loopw [10,11,12,13,44] (fun _ _ _ _ i wr=>∃(k:Nat),k<=aX.length/\i=.int .i64 k/\Hid (Below w2.heap.size w2 wr/\vX rs (f.params.map (·.2))=vX (rs.drop k) ((f.params.map (·.2)).drop k))) (fun _ _ _ _ i _=>aX.length-(intOf i).toNat)
    case atStart=>exact⟨0,aK _,rfl,Below.refl _ _,rfl⟩
    case round=>
     obtain⟨k,hk,rfl,HRel⟩:=hrel;by_cases hlt:k<aX.length
     ·obtain⟨e,he⟩:∃e,aX[k]? =some e:=⟨_,vp hlt⟩;obtain⟨pr,hpr⟩:∃pr,f.params[k]? =some pr:=⟨_,vp (by have:=HL2.out;omega)⟩;have bwr:=zd HB2.out HRel.out.1 HB2.out.size;obtain⟨kb,ko,c',A0,c0,hV,a1,a2,hrg,hXV⟩:=(HKD.out.same (zk bwr hB)).get5 he;injection hV with hV1 hV2 hV3
      subst hV1 hV3;obtain⟨pb,po,c6,hP,a3,a4,_,hpt⟩:=(HRow2.out.same (zk HRel.out.1 (by have:=HB2.out.size;omega))).param hpr;injection hP with hP1 hP2 hP3
      subst hP1 hP3;have hpty:=zb hpt (za wr (xeO e.op e.num e.aZ (.slice A0 e.aX.length c0) e.aW));have hbF:=zb (zb HY.out.1 HRel.out.1) (za wr (xeO e.op e.num e.aZ (.slice A0 e.aX.length c0) e.aW));have BW:=aQ (za wr (xeO e.op e.num e.aZ (.slice A0 e.aX.length c0) e.aW));have HB3:=aQ (zd bwr BW.out bwr.size);have hxc:=qx wr e.op e.num e.aZ (.slice A0 e.aX.length c0) e.aW;have HRG:=aQ hrg
      have HQ:Hid (∀w',Below (wr.alloc (xeO e.op e.num e.aZ (.slice A0 e.aX.length c0) e.aW)).heap.size (wr.alloc (xeO e.op e.num e.aZ (.slice A0 e.aX.length c0) e.aW)) w'->w'.cell? ⟨wr.heap.size,0,none⟩=some (.int .i64 e.op)/\w'.cell? ⟨wr.heap.size,1,none⟩=some (.int .i64 e.num)/\w'.cell? ⟨wr.heap.size,2,none⟩=some (.string (strN e.aZ))/\w'.cell? ⟨wr.heap.size,3,none⟩=some (.slice A0 e.aX.length c0)/\w'.cell? ⟨wr.heap.size,4,none⟩=some (.int .i64 e.aW)/\w'.cell? ⟨bF,1,none⟩=some (.slice (some ⟨pb,po,none⟩) f.params.length c5)/\w'.cell? ⟨pb,po+k*2+1,none⟩=some (.int .i64 pr.2)):=
       fun w' hb=>⟨zb hxc.1 hb,zb hxc.2.1 hb,zb hxc.2.2.1 hb,zb hxc.2.2.2.1 hb,zb hxc.2.2.2.2 hb,zb hbF hb,zb hpty hb⟩
      have K0:Hid (∀w' fv,Below (wr.alloc (xeO e.op e.num e.aZ (.slice A0 e.aX.length c0) e.aW)).heap.size (wr.alloc (xeO e.op e.num e.aZ (.slice A0 e.aX.length c0) e.aW)) w'->FitV w' fv (fun t=>t==pr.2)->Calls prog 273 #[.pointer (some ⟨cB,0,none⟩),.agg (xeC e (.slice A0 e.aX.length c0)).toArray,.map (some b),fv] w' fun x w''=>TOut (zM (fun t=>t==pr.2) (e.aW,qk (zh fs) sc e)) x w''/\Below w'.heap.size w' w''):=
       fun w' fv hb hf=>vQ e (HEC.out e (wM he)) B cB g b fs res sc w' _ fv _ (HC.out.below (zd HB3.out hb HB3.out.size)) (HS.out.below (zd HB3.out hb HB3.out.size)) (hXV.same (zk (zd BW.out hb BW.out.size) (by have:=bwr.size;omega))) hf
      have HArg:Hid (vX rs (f.params.map (·.2))=(match zM (fun x=>x==pr.2) (e.aW,qk (zh fs) sc e)with|.bad c a=>some (c,a)|.ok _=>vX (rs.drop (k+1)) ((f.params.map (·.2)).drop (k+1)))):=by
       show _=_;rw[HRel.out.2,xw (HKid.out k e he),xw (show(f.params.map (·.2))[k]? =some pr.2 by rw[List.getElem?_map,hpr];rfl)];exact zl9
      have hkp:(k:Int)<f.params.length:=by have:=HL2.out;omega
      have HRel1:=aQ (zd HRel.out.1 BW.out HRel.out.1.size);unfold maxLen at a2 a4
      generalize zM (fun t=>t==pr.2) (e.aW,qk (zh fs) sc e)=r at *
      unfold xeC at *
      clear hpty hbF hxc hrg hpt hXV hV2 hP2 he hpr HRel bwr BW
      go_wp2_with(first|(refine wpList_load_mid rfl 202 (.tmp 47) rfl kb (ko+k*5) rfl [.int .i64 e.op,.int .i64 e.num,.string (strN e.aZ),.slice A0 e.aX.length c0,.int .i64 e.aW] _ HRG.out underlying202 rfl zcc ?_;refine Hid.out ?_)|fail)
      refine aQ ?_;go_upto_region 9 with fail
      generalize wr.alloc (.cells #[.int .i64 e.op,.int .i64 e.num,.string (strN e.aZ),.slice A0 e.aX.length c0,.int .i64 e.aW] 202)=w3 at *
      have hbl:Below w3.heap.size w3 w3.drew:=(Below.refl _ _).drew
      go_region_held3(fun w'=>w'.cell? ⟨wr.heap.size,0,none⟩=some (.int .i64 e.op)/\w'.cell? ⟨wr.heap.size,1,none⟩=some (.int .i64 e.num)/\w'.cell? ⟨wr.heap.size,2,none⟩=some (.string (strN e.aZ))/\w'.cell? ⟨wr.heap.size,3,none⟩=some (.slice A0 e.aX.length c0)/\w'.cell? ⟨wr.heap.size,4,none⟩=some (.int .i64 e.aW)/\w'.cell? ⟨bF,1,none⟩=some (.slice (some ⟨pb,po,none⟩) f.params.length c5)/\w'.cell? ⟨pb,po+k*2+1,none⟩=some (.int .i64 pr.2))
       (with_reducible exact HQ.out _ hbl)
       (first|(go_at_call 251;refine(isC _ _).mono ?_;rintro e wn ⟨v,rfl,hf,hbn⟩;have HF:=aQ hf.less;obtain⟨fn,caps,D,rfl,_⟩:=hf;replace hbl:=zd hbl hbn hbl.size)|(go_at_call 273;refine(K0.out _ _ hbl HF.out).mono ?_;rintro e wn2 ⟨⟨v,rfl,hv⟩,hbn2⟩;replace hbl:=zd hbl hbn2 hbl.size))
      have HV:=aQ hv;have HRel2:=aQ (zd HRel1.out hbl HRel1.out.size);have HB4:=aQ (zd HB3.out hbl HB3.out.size);clear hbn hbn2 hbl HQ K0;cases r with
      | bad cc pp=>
       obtain⟨bf,rfl,_⟩:=hv;have HR:Hid (m=.bad cc pp):=HE2.out cc pp HL2.out HArg.out;clear HArg;go_wp2
       go_ret2
       exact⟨⟨_,by rw[HR.out];rfl,by rw[HR.out];exact HV.out⟩,HB4.out⟩
      | ok t=>
       obtain rfl:v=.pointer none:=hv;have HArg2:Hid (vX rs (f.params.map (·.2))=vX (rs.drop (k+1)) ((f.params.map (·.2)).drop (k+1))):=HArg.out;clear HArg;go_wp2
       go_roundw
       case rel=>exact⟨k+1,by omega,by go_num,HRel2.out,HArg2.out⟩
       case measure=>simp[intOf];omega
     ·obtain rfl:k=aX.length:=by omega
      have HT:Hid (vX rs (f.params.map (·.2))=none):=by
       show _=_;rw[HRel.out.2,List.drop_eq_nil_of_le (by rw[HLen.out];exact aR _)];rfl
      have HR:Hid (m=.ok f.result):=HE3.out HL2.out HT.out;have p2':=zb HY.out.2 HRel.out.1;have HBZ:=aQ (zd HB2.out HRel.out.1 HB2.out.size);clear HRel;go_wp2
      go_ret2
      exact⟨⟨_,by rw[HR.out];rfl,by rw[HR.out];rfl⟩,HBZ.out⟩
   ·have q:((aX.length:Int)!=f.params.length)=true:=by rw[bne_iff_ne];omega
    have HR:Hid (m=.bad 51 aW):=HE1.out hlen;clear hlen;go_upto_region 5 with fail
    go_region
    go_wp2
    go_ret2
    exact⟨⟨_,by rw[HR.out];rfl,by rw[HR.out];exact xK w2 51 aW⟩,(HB2.out.alloc HB2.out.size _).drew⟩
def zih{op:Int}{aZ:List Nat}(h:zJ op aZ n=true):op=1\/op=2\/op=3\/op=4\/op=5\/(op=6/\n=2/\(qN aZ).isSome=true)\/op=7\/op=8\/op=9\/op=10:=by
 unfold zJ at h
 split at h
 ·omega
 ·split at h
  ·omega
  ·split at h
   ·rename_i h6
    simp only[aM,beq_iff_eq]at h;exact .inr (.inr (.inr (.inr (.inr (.inl ⟨h6,h.1,h.2⟩)))))
   ·split at h
    ·omega
    ·split at h
     ·omega
     ·cases h
def jD{r:Rt}{e:Ending}(h:TOut r e w'):(∃t,r=.ok t/\e=.returned (.tuple #[.int .i64 t,.pointer none]))\/∃c p b,r=.bad c p/\e=.returned (.tuple #[.int .i64 0,.pointer (some ⟨b,0,none⟩)])/\FV w' (some (c,p)) (.pointer (some ⟨b,0,none⟩)):=by
 obtain⟨v,rfl,hv⟩:=h;cases r with
 | ok t=>obtain rfl:v=.pointer none:=hv;exact .inl ⟨t,rfl,rfl⟩
 | bad c p=>
  obtain⟨b,rfl,hb⟩:=hv;exact .inr ⟨c,p,b,rfl,rfl,b,rfl,hb⟩
def zon(op:Int)(num:Int)(aZ:List Nat)(aX:List Xe)(aW:Int)(hE:∀e∈aX,EC e)(hh:zJ op aZ aX.length=false):EC (.mk op num aZ aX aW):=by
 intro B cB g b fs res sc w v hc hs hv;obtain⟨K,rfl,ht,hk⟩:=hv;simp only[Xe.aX,Xe.aZ]at hk ht;obtain⟨A,c,rfl⟩:=zu hk;have hB:B<=w.heap.size:=by have:=hc.lt;have:=hc.hc;omega
 have BA:=aQ (za w (xeO op num aZ (.slice A aX.length c) aW));obtain⟨z0,z1,z2,z3,z4⟩:=qx w op num aZ (.slice A aX.length c) aW;have KH:=aQ (kq op num aZ A aX.length c aW · ht);have HM:Hid (qk (zh fs) sc (.mk op num aZ aX aW)=jq (zh fs) sc op aZ aW (zE (zh fs) sc aX)):=by show _=_;simp[qk]
 have HN:Hid ((zE (zh fs) sc aX).length=aX.length):=qf _ _ _;unfold xeC;simp only[Xe.op,Xe.num,Xe.aZ,Xe.aW,Xe.aX];have HC:=aQ hc;have HS:=aQ hs;have HT:=aQ ht;have HKD:=aQ hk;have HE:=aQ hE;clear hc hs ht hk hE
 generalize qk (zh fs) sc (.mk op num aZ aX aW)=m at *
 rw[hh]at KH;have HR:Hid (m=.bad 51 aW):=by show _=_;rw[HM.out];unfold jq;rw[HN.out,hh,if_pos rfl]
 clear hh HM;go_enter func297,ntmps297
 go_wp2_with fail
 generalize w.alloc (.cells #[.int .i64 op,.int .i64 num,.string (strN aZ),.slice A aX.length c,.int .i64 aW] 202)=w0 at *
 with_reducible refine(KH.out _).mono ?_
 rintro e w1⟨rfl,b1⟩;have y0:=zb z0 b1;have y1:=zb z1 b1;have y2:=zb z2 b1;have y3:=zb z3 b1;have y4:=zb z4 b1;have B1:=aQ (zd BA.out b1 BA.out.size);clear z0 z1 z2 z3 z4 b1 BA;clear y0 y1 y2 y3;go_upto_region 2 with fail
 go_region
 go_wp2
 go_ret2
 exact⟨⟨_,by rw[HR.out];rfl,by rw[HR.out];exact xK w1 51 aW⟩,(B1.out.alloc B1.out.size _).drew⟩
def zry(num:Int)(aZ:List Nat)(aX:List Xe)(aW:Int)(hE:∀e∈aX,EC e)(hh:zJ 1 aZ aX.length=true):EC (.mk 1 num aZ aX aW):=by
 intro B cB g b fs res sc w v hc hs hv;obtain⟨K,rfl,ht,hk⟩:=hv;simp only[Xe.aX,Xe.aZ]at hk ht;obtain⟨A,c,rfl⟩:=zu hk;have hB:B<=w.heap.size:=by have:=hc.lt;have:=hc.hc;omega
 have BA:=aQ (za w (xeO 1 num aZ (.slice A aX.length c) aW));obtain⟨z0,z1,z2,z3,z4⟩:=qx w 1 num aZ (.slice A aX.length c) aW;have KH:=aQ (kq 1 num aZ A aX.length c aW · ht);have HM:Hid (qk (zh fs) sc (.mk 1 num aZ aX aW)=jq (zh fs) sc 1 aZ aW (zE (zh fs) sc aX)):=by show _=_;simp[qk]
 have HN:Hid ((zE (zh fs) sc aX).length=aX.length):=qf _ _ _;unfold xeC;simp only[Xe.op,Xe.num,Xe.aZ,Xe.aW,Xe.aX];have HC:=aQ hc;have HS:=aQ hs;have HT:=aQ ht;have HKD:=aQ hk;have HE:=aQ hE;clear hc hs ht hk hE
 generalize qk (zh fs) sc (.mk 1 num aZ aX aW)=m at *
 rw[hh]at KH;have HR:Hid (m=.ok 1):=by show _=_;rw[HM.out];unfold jq;rw[HN.out,hh];simp
 clear hh HM;go_enter func297,ntmps297
 go_wp2_with fail
 generalize w.alloc (.cells #[.int .i64 1,.int .i64 num,.string (strN aZ),.slice A aX.length c,.int .i64 aW] 202)=w0 at *
 with_reducible refine(KH.out _).mono ?_
 rintro e w1⟨rfl,b1⟩;have y0:=zb z0 b1;have y1:=zb z1 b1;have y2:=zb z2 b1;have y3:=zb z3 b1;have y4:=zb z4 b1;have B1:=aQ (zd BA.out b1 BA.out.size);clear z0 z1 z2 z3 z4 b1 BA;clear y1 y2 y3 y4;go_wp2
 go_ret2
 exact⟨⟨_,by rw[HR.out];rfl,by rw[HR.out];rfl⟩,B1.out⟩
def zs3(num:Int)(aZ:List Nat)(aX:List Xe)(aW:Int)(hE:∀e∈aX,EC e)(hh:zJ 2 aZ aX.length=true):EC (.mk 2 num aZ aX aW):=by
 intro B cB g b fs res sc w v hc hs hv;obtain⟨K,rfl,ht,hk⟩:=hv;simp only[Xe.aX,Xe.aZ]at hk ht;obtain⟨A,c,rfl⟩:=zu hk;have hB:B<=w.heap.size:=by have:=hc.lt;have:=hc.hc;omega
 have BA:=aQ (za w (xeO 2 num aZ (.slice A aX.length c) aW));obtain⟨z0,z1,z2,z3,z4⟩:=qx w 2 num aZ (.slice A aX.length c) aW;have KH:=aQ (kq 2 num aZ A aX.length c aW · ht);have HM:Hid (qk (zh fs) sc (.mk 2 num aZ aX aW)=jq (zh fs) sc 2 aZ aW (zE (zh fs) sc aX)):=by show _=_;simp[qk]
 have HN:Hid ((zE (zh fs) sc aX).length=aX.length):=qf _ _ _;unfold xeC;simp only[Xe.op,Xe.num,Xe.aZ,Xe.aW,Xe.aX];have HC:=aQ hc;have HS:=aQ hs;have HT:=aQ ht;have HKD:=aQ hk;have HE:=aQ hE;clear hc hs ht hk hE
 generalize qk (zh fs) sc (.mk 2 num aZ aX aW)=m at *
 rw[hh]at KH;have HR:Hid (m=.ok 2):=by show _=_;rw[HM.out];unfold jq;rw[HN.out,hh];simp
 clear hh HM;go_enter func297,ntmps297
 go_wp2_with fail
 generalize w.alloc (.cells #[.int .i64 2,.int .i64 num,.string (strN aZ),.slice A aX.length c,.int .i64 aW] 202)=w0 at *
 with_reducible refine(KH.out _).mono ?_
 rintro e w1⟨rfl,b1⟩;have y0:=zb z0 b1;have y1:=zb z1 b1;have y2:=zb z2 b1;have y3:=zb z3 b1;have y4:=zb z4 b1;have B1:=aQ (zd BA.out b1 BA.out.size);clear z0 z1 z2 z3 z4 b1 BA;clear y1 y2 y3 y4;go_wp2
 go_ret2
 exact⟨⟨_,by rw[HR.out];rfl,by rw[HR.out];rfl⟩,B1.out⟩
def ztd(num:Int)(aZ:List Nat)(aX:List Xe)(aW:Int)(hE:∀e∈aX,EC e)(hh:zJ 3 aZ aX.length=true):EC (.mk 3 num aZ aX aW):=by
 intro B cB g b fs res sc w v hc hs hv;obtain⟨K,rfl,ht,hk⟩:=hv;simp only[Xe.aX,Xe.aZ]at hk ht;obtain⟨A,c,rfl⟩:=zu hk;have hB:B<=w.heap.size:=by have:=hc.lt;have:=hc.hc;omega
 have BA:=aQ (za w (xeO 3 num aZ (.slice A aX.length c) aW));obtain⟨z0,z1,z2,z3,z4⟩:=qx w 3 num aZ (.slice A aX.length c) aW;have KH:=aQ (kq 3 num aZ A aX.length c aW · ht);have HM:Hid (qk (zh fs) sc (.mk 3 num aZ aX aW)=jq (zh fs) sc 3 aZ aW (zE (zh fs) sc aX)):=by show _=_;simp[qk]
 have HN:Hid ((zE (zh fs) sc aX).length=aX.length):=qf _ _ _;unfold xeC;simp only[Xe.op,Xe.num,Xe.aZ,Xe.aW,Xe.aX];have HC:=aQ hc;have HS:=aQ hs;have HT:=aQ ht;have HKD:=aQ hk;have HE:=aQ hE;clear hc hs ht hk hE
 generalize qk (zh fs) sc (.mk 3 num aZ aX aW)=m at *
 rw[hh]at KH;have HR:Hid (m=.ok 3):=by show _=_;rw[HM.out];unfold jq;rw[HN.out,hh];simp
 clear hh HM;go_enter func297,ntmps297
 go_wp2_with fail
 generalize w.alloc (.cells #[.int .i64 3,.int .i64 num,.string (strN aZ),.slice A aX.length c,.int .i64 aW] 202)=w0 at *
 with_reducible refine(KH.out _).mono ?_
 rintro e w1⟨rfl,b1⟩;have y0:=zb z0 b1;have y1:=zb z1 b1;have y2:=zb z2 b1;have y3:=zb z3 b1;have y4:=zb z4 b1;have B1:=aQ (zd BA.out b1 BA.out.size);clear z0 z1 z2 z3 z4 b1 BA;clear y1 y2 y3 y4;go_wp2
 go_ret2
 exact⟨⟨_,by rw[HR.out];rfl,by rw[HR.out];rfl⟩,B1.out⟩
def zsn(num:Int)(aZ:List Nat)(aX:List Xe)(aW:Int)(hE:∀e∈aX,EC e)(hh:zJ 4 aZ aX.length=true):EC (.mk 4 num aZ aX aW):=by
 intro B cB g b fs res sc w v hc hs hv;obtain⟨K,rfl,ht,hk⟩:=hv;simp only[Xe.aX,Xe.aZ]at hk ht;obtain⟨A,c,rfl⟩:=zu hk;have hB:B<=w.heap.size:=by have:=hc.lt;have:=hc.hc;omega
 have BA:=aQ (za w (xeO 4 num aZ (.slice A aX.length c) aW));obtain⟨z0,z1,z2,z3,z4⟩:=qx w 4 num aZ (.slice A aX.length c) aW;have KH:=aQ (kq 4 num aZ A aX.length c aW · ht);have HM:Hid (qk (zh fs) sc (.mk 4 num aZ aX aW)=jq (zh fs) sc 4 aZ aW (zE (zh fs) sc aX)):=by show _=_;simp[qk]
 have HN:Hid ((zE (zh fs) sc aX).length=aX.length):=qf _ _ _;unfold xeC;simp only[Xe.op,Xe.num,Xe.aZ,Xe.aW,Xe.aX];have HC:=aQ hc;have HS:=aQ hs;have HT:=aQ ht;have HKD:=aQ hk;have HE:=aQ hE;clear hc hs ht hk hE
 generalize qk (zh fs) sc (.mk 4 num aZ aX aW)=m at *
 rw[hh]at KH;have HR:Hid (m=zfj sc aZ aW):=by show _=_;rw[HM.out];unfold jq;rw[HN.out,hh,if_neg (by simp)];simp
 clear hh HM;go_enter func297,ntmps297
 go_wp2_with fail
 generalize w.alloc (.cells #[.int .i64 4,.int .i64 num,.string (strN aZ),.slice A aX.length c,.int .i64 aW] 202)=w0 at *
 with_reducible refine(KH.out _).mono ?_
 rintro e w1⟨rfl,b1⟩;have y0:=zb z0 b1;have y1:=zb z1 b1;have y2:=zb z2 b1;have y3:=zb z3 b1;have y4:=zb z4 b1;have B1:=aQ (zd BA.out b1 BA.out.size);clear z0 z1 z2 z3 z4 b1 BA;have KC:=aQ (zwa 4 num aZ aX aW cB b sc w1 A c HT.out (HS.out.below B1.out))
 go_wp2_with fail
 with_reducible refine KC.out.mono ?_
 rintro e w2⟨h1,b2⟩;have B2:=aQ (zd B1.out b2 B1.out.size);clear b2 KC;rcases jD h1 with⟨t,hr,rfl⟩|⟨c',p',bf,hr,rfl,hv⟩
 ·have HR3:Hid (m=.ok t):=HR.out.trans hr;clear hr h1;go_wp2
  go_ret2
  exact⟨⟨_,by rw[HR3.out];rfl,by rw[HR3.out];rfl⟩,B2.out⟩
 ·have HR3:Hid (m=.bad c' p'):=HR.out.trans hr;have HV:=aQ hv;clear hr h1 hv;go_wp2
  go_ret2
  exact⟨⟨_,by rw[HR3.out];rfl,by rw[HR3.out];exact HV.out⟩,B2.out⟩
def zto(num:Int)(aZ:List Nat)(aX:List Xe)(aW:Int)(hE:∀e∈aX,EC e)(hh:zJ 5 aZ aX.length=true):EC (.mk 5 num aZ aX aW):=by
 intro B cB g b fs res sc w v hc hs hv;obtain⟨K,rfl,ht,hk⟩:=hv;simp only[Xe.aX,Xe.aZ]at hk ht;obtain⟨A,c,rfl⟩:=zu hk;have hB:B<=w.heap.size:=by have:=hc.lt;have:=hc.hc;omega
 have BA:=aQ (za w (xeO 5 num aZ (.slice A aX.length c) aW));obtain⟨z0,z1,z2,z3,z4⟩:=qx w 5 num aZ (.slice A aX.length c) aW;have KH:=aQ (kq 5 num aZ A aX.length c aW · ht);have HM:Hid (qk (zh fs) sc (.mk 5 num aZ aX aW)=jq (zh fs) sc 5 aZ aW (zE (zh fs) sc aX)):=by show _=_;simp[qk]
 have HN:Hid ((zE (zh fs) sc aX).length=aX.length):=qf _ _ _;unfold xeC;simp only[Xe.op,Xe.num,Xe.aZ,Xe.aW,Xe.aX];have HC:=aQ hc;have HS:=aQ hs;have HT:=aQ ht;have HKD:=aQ hk;have HE:=aQ hE;clear hc hs ht hk hE
 generalize qk (zh fs) sc (.mk 5 num aZ aX aW)=m at *
 rw[hh]at KH;have HR:Hid (m=yC (zh fs) aZ aW (zE (zh fs) sc aX)):=by show _=_;rw[HM.out];unfold jq;rw[HN.out,hh,if_neg (by simp)];simp
 clear hh HM;go_enter func297,ntmps297
 go_wp2_with fail
 generalize w.alloc (.cells #[.int .i64 5,.int .i64 num,.string (strN aZ),.slice A aX.length c,.int .i64 aW] 202)=w0 at *
 with_reducible refine(KH.out _).mono ?_
 rintro e w1⟨rfl,b1⟩;have y0:=zb z0 b1;have y1:=zb z1 b1;have y2:=zb z2 b1;have y3:=zb z3 b1;have y4:=zb z4 b1;have B1:=aQ (zd BA.out b1 BA.out.size);clear z0 z1 z2 z3 z4 b1 BA;have KC:=aQ (zvh 5 num aZ aX aW HE.out B cB g b fs res sc w1 A c (HC.out.below B1.out) (HS.out.below B1.out) HT.out (HKD.out.same (zk B1.out hB)))
 go_wp2_with fail
 with_reducible refine KC.out.mono ?_
 rintro e w2⟨h1,b2⟩;have B2:=aQ (zd B1.out b2 B1.out.size);clear b2 KC;rcases jD h1 with⟨t,hr,rfl⟩|⟨c',p',bf,hr,rfl,hv⟩
 ·have HR3:Hid (m=.ok t):=HR.out.trans hr;clear hr h1;go_wp2
  go_ret2
  exact⟨⟨_,by rw[HR3.out];rfl,by rw[HR3.out];rfl⟩,B2.out⟩
 ·have HR3:Hid (m=.bad c' p'):=HR.out.trans hr;have HV:=aQ hv;clear hr h1 hv;go_wp2
  go_ret2
  exact⟨⟨_,by rw[HR3.out];rfl,by rw[HR3.out];exact HV.out⟩,B2.out⟩
def zr9(num:Int)(aZ:List Nat)(a a2:Xe)(gs:Sg)(hgs:qN aZ=some gs)(aW:Int)(hE:∀e∈[a,a2],EC e)(hh:zJ 6 aZ 2=true):EC (.mk 6 num aZ [a,a2] aW):=by
 intro B cB g b fs res sc w v hc hs hv;obtain⟨K,rfl,ht,hk⟩:=hv;simp only[Xe.aX,Xe.aZ]at hk ht;obtain⟨A,c,rfl⟩:∃A c,K=.slice A 2 c:=zu hk;have hB:B<=w.heap.size:=by have:=hc.lt;have:=hc.hc;omega
 have BA:=aQ (za w (xeO 6 num aZ (.slice A 2 c) aW));obtain⟨z0,z1,z2,z3,z4⟩:=qx w 6 num aZ (.slice A 2 c) aW;have KH:=aQ (kq 6 num aZ A 2 c aW · ht);have HM:Hid (qk (zh fs) sc (.mk 6 num aZ [a,a2] aW)=jq (zh fs) sc 6 aZ aW (zE (zh fs) sc [a,a2])):=by show _=_;simp[qk]
 have HN:Hid ((zE (zh fs) sc [a,a2]).length=2):=qf _ _ _;unfold xeC;simp only[Xe.op,Xe.num,Xe.aZ,Xe.aW,Xe.aX];have HC:=aQ hc;have HS:=aQ hs;have HT:=aQ ht;have HKD:=aQ hk;have HE:=aQ hE;clear hc hs ht hk hE
 generalize qk (zh fs) sc (.mk 6 num aZ [a,a2] aW)=m at *
 rw[hh]at KH;have HR:Hid (m=twoR gs aW (zE (zh fs) sc [a,a2])):=by show _=_;rw[HM.out];unfold jq;rw[HN.out,hh,if_neg (by simp)];rw[hgs];simp
 clear hh HM;go_enter func297,ntmps297
 go_wp2_with fail
 generalize w.alloc (.cells #[.int .i64 6,.int .i64 num,.string (strN aZ),.slice A 2 c,.int .i64 aW] 202)=w0 at *
 with_reducible refine(KH.out _).mono ?_
 rintro e w1⟨rfl,b1⟩;have y0:=zb z0 b1;have y1:=zb z1 b1;have y2:=zb z2 b1;have y3:=zb z3 b1;have y4:=zb z4 b1;have B1:=aQ (zd BA.out b1 BA.out.size);clear z0 z1 z2 z3 z4 b1 BA;have KC:=aQ (twoC 6 num aZ a a2 aW gs hgs (HE.out a (by simp)) (HE.out a2 (by simp)) B cB g b fs res sc w1 _ (HC.out.below B1.out) (HS.out.below B1.out) HT.out (HKD.out.same (zk B1.out hB)))
 go_wp2_with fail
 with_reducible refine KC.out.mono ?_
 rintro e w2⟨h1,b2⟩;have B2:=aQ (zd B1.out b2 B1.out.size);clear b2 KC;rcases jD h1 with⟨t,hr,rfl⟩|⟨c',p',bf,hr,rfl,hv⟩
 ·have HR3:Hid (m=.ok t):=HR.out.trans hr;clear hr h1;go_wp2
  go_ret2
  exact⟨⟨_,by rw[HR3.out];rfl,by rw[HR3.out];rfl⟩,B2.out⟩
 ·have HR3:Hid (m=.bad c' p'):=HR.out.trans hr;have HV:=aQ hv;clear hr h1 hv;go_wp2
  go_ret2
  exact⟨⟨_,by rw[HR3.out];rfl,by rw[HR3.out];exact HV.out⟩,B2.out⟩
def znt(op:Int)(num:Int)(aZ:List Nat)(aX:List Xe)(aW:Int)(hE:∀e∈aX,EC e)(hh:zJ op aZ aX.length=true)(h1:¬op=1)(h2:¬op=2)(h3:¬op=3)(h4:¬op=4)(h5:¬op=5)(h6:¬op=6):EC (.mk op num aZ aX aW):=by
 intro B cB g b fs res sc w v hc hs hv;obtain⟨K,rfl,ht,hk⟩:=hv;simp only[Xe.aX,Xe.aZ]at hk ht;obtain⟨A,c,rfl⟩:=zu hk;have hB:B<=w.heap.size:=by have:=hc.lt;have:=hc.hc;omega
 have BA:=aQ (za w (xeO op num aZ (.slice A aX.length c) aW));obtain⟨z0,z1,z2,z3,z4⟩:=qx w op num aZ (.slice A aX.length c) aW;have KH:=aQ (kq op num aZ A aX.length c aW · ht);have HM:Hid (qk (zh fs) sc (.mk op num aZ aX aW)=jq (zh fs) sc op aZ aW (zE (zh fs) sc aX)):=by show _=_;simp[qk]
 have HN:Hid ((zE (zh fs) sc aX).length=aX.length):=qf _ _ _;unfold xeC;simp only[Xe.op,Xe.num,Xe.aZ,Xe.aW,Xe.aX];have HC:=aQ hc;have HS:=aQ hs;have HT:=aQ ht;have HKD:=aQ hk;have HE:=aQ hE;clear hc hs ht hk hE
 generalize qk (zh fs) sc (.mk op num aZ aX aW)=m at *
 rw[hh]at KH;have HR:Hid (m=oneR (jT op aZ) (zE (zh fs) sc aX)):=by show _=_;rw[HM.out];unfold jq;rw[HN.out,hh,if_neg (by simp)];rw[if_neg h1,if_neg h2,if_neg h3,if_neg h4,if_neg h5,if_neg h6]
 have q1:(op==1)=false:=zI h1;have q2:(op==2)=false:=zI h2;have q3:(op==3)=false:=zI h3;have q4:(op==4)=false:=zI h4;have q5:(op==5)=false:=zI h5;have q6:(op==6)=false:=zI h6;clear h1 h2 h3 h4 h5 h6;clear hh HM;go_enter func297,ntmps297
 go_wp2_with fail
 generalize w.alloc (.cells #[.int .i64 op,.int .i64 num,.string (strN aZ),.slice A aX.length c,.int .i64 aW] 202)=w0 at *
 with_reducible refine(KH.out _).mono ?_
 rintro e w1⟨rfl,b1⟩;have y0:=zb z0 b1;have y1:=zb z1 b1;have y2:=zb z2 b1;have y3:=zb z3 b1;have y4:=zb z4 b1;have B1:=aQ (zd BA.out b1 BA.out.size);clear z0 z1 z2 z3 z4 b1 BA;have KC:=aQ (oneC op num aZ aX aW HE.out B cB g b fs res sc w1 A c (HC.out.below B1.out) (HS.out.below B1.out) HT.out (HKD.out.same (zk B1.out hB)))
 go_wp2_with fail
 with_reducible refine KC.out.mono ?_
 rintro e w2⟨h1,b2⟩;have B2:=aQ (zd B1.out b2 B1.out.size);clear b2 KC;rcases jD h1 with⟨t,hr,rfl⟩|⟨c',p',bf,hr,rfl,hv⟩
 ·have HR3:Hid (m=.ok t):=HR.out.trans hr;clear hr h1;go_wp2
  go_ret2
  exact⟨⟨_,by rw[HR3.out];rfl,by rw[HR3.out];rfl⟩,B2.out⟩
 ·have HR3:Hid (m=.bad c' p'):=HR.out.trans hr;have HV:=aQ hv;clear hr h1 hv;go_wp2
  go_ret2
  exact⟨⟨_,by rw[HR3.out];rfl,by rw[HR3.out];exact HV.out⟩,B2.out⟩
def zv0(op num:Int)(aZ:List Nat)(aX:List Xe)(aW:Int)(hE:∀e∈aX,EC e):EC (.mk op num aZ aX aW):=by
 cases hh:zJ op aZ aX.length with
 | false=>exact zon op num aZ aX aW hE hh
 | true=>
  have hops:=zih hh;by_cases h1:op=1
  ·subst h1;exact zry num aZ aX aW hE hh
  by_cases h2:op=2
  ·subst h2;exact zs3 num aZ aX aW hE hh
  by_cases h3:op=3
  ·subst h3;exact ztd num aZ aX aW hE hh
  by_cases h4:op=4
  ·subst h4;exact zsn num aZ aX aW hE hh
  by_cases h5:op=5
  ·subst h5;exact zto num aZ aX aW hE hh
  by_cases h6:op=6
  ·subst h6;obtain⟨gs,hgs⟩:∃gs,qN aZ=some gs:=by
    rcases hops with h|h|h|h|h|h|h|h|h|h
    all_goals first|omega|exact Option.isSome_iff_exists.1 h.2.2
   have hl2:aX.length=2:=by
    rcases hops with h|h|h|h|h|h|h|h|h|h
    all_goals first|omega|exact h.2.1
   match aX,hl2 with
   | [a,a2],_=>exact zr9 num aZ a a2 gs hgs aW hE hh
  exact znt op num aZ aX aW hE hh h1 h2 h3 h4 h5 h6
def zsu:∀(n:Nat) (e:Xe),SizeOf.sizeOf e<=n->EC e
 | 0,.mk op num aZ aX aW,h=>by simp at h
 | n+1,.mk op num aZ aX aW,h=>by
  refine zv0 op num aZ aX aW fun e he=>zsu n e ?_;have:=List.sizeOf_lt_of_mem he;simp at h;omega
def ec(e:Xe):EC e:=zsu _ e (aR _)
end
end
end Go.Proofs.YtcilgkdnjgmogaaGreatDoor
