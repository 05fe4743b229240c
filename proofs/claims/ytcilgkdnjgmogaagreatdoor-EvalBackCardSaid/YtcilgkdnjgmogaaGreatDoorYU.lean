/- A part of the proof. -/
import Derived.Test.YtcilgkdnjgmogaaGreatDoorYG
import Derived.IntWalk
namespace Go.Proofs.YtcilgkdnjgmogaaGreatDoor
open Go.Proofs.Tryz
set_option maxRecDepth 100000
set_option maxHeartbeats 12800000
set_option linter.all false
variable {D:Nat->Prop} {i n:Nat} {w:World}
section
section
open Go.RowKit
def ifR(a:Er)(y f:Er):Er:=match a with|some e=>some e|none=>match y with|some e=>some e|none=>f
def zri(op:Int)(aZ:List Nat)(l:List Xe)(body els:List Xs)(A1 A2 A3:Option Addr)(c1 c2 c3:Nat)(aW:Int)(hSb:∀s∈body,SC s)(hSe:∀s∈els,SC s)(B cB g b:Nat)(fs:List Xf)(res:Int)(sc:zX)(w:World)
  (hc:Cx w B cB g fs res) (hs:Sco w b sc) (ht:Byn aZ) (hk:XesC w (Lo B) l (.slice A1 l.length c1)) (hy:XssC w (Lo B) body (.slice A2 body.length c2)) (hf:XssC w (Lo B) els (.slice A3 els.length c3)) :
  Calls prog 246 #[.pointer (some ⟨cB,0,none⟩),.agg #[.int .i64 op,.string (strN aZ),.slice A1 l.length c1,.slice A2 body.length c2,.slice A3 els.length c3,.int .i64 aW],.map (some b)] w fun x w'=>FOut (ifR (allR (fun x=>x==2) (zE (zh fs) sc l)) (z7 (zh fs) res body sc).1 (z7 (zh fs) res els sc).1) x w'/\Below w.heap.size w w':=by
 have hB:B<=w.heap.size:=by have:=hc.lt;have:=hc.hc;omega
 have hcl:=hc.lt;have BA:=aQ (za w (xsO op aZ (.slice A1 l.length c1) (.slice A2 body.length c2) (.slice A3 els.length c3) aW));obtain⟨z0,z1,z2,z3,z4,z5⟩:=qA w op aZ (.slice A1 l.length c1) (.slice A2 body.length c2) (.slice A3 els.length c3) aW
 have HKO:Hid (∀w' fv fits,Below w.heap.size w w'->FitV w' fv fits->Calls prog 250 #[.pointer (some ⟨cB,0,none⟩),.slice A1 l.length c1,.map (some b),fv] w' fun x w''=>FOut (allR fits (zE (zh fs) sc l)) x w''/\Below w'.heap.size w' w''):=
  fun w' fv fits hb hf=>kn l (fun e _=>ec e) B cB g b fs res sc w' _ fv fits (hc.below hb) (hs.below hb) (hk.same (zk hb hB)) hf
 have HSc:Hid (∀w',Below w.heap.size w w'->Sco w' b sc):=fun w' hb=>hs.below hb
 have HY:Hid (∀w' bb sc',Below w.heap.size w w'->Sco w' bb sc'->w.heap.size<=bb->Calls prog 174 #[.pointer (some ⟨cB,0,none⟩),.slice A2 body.length c2,.map (some bb)] w' fun x w''=>FOut (z7 (zh fs) res body sc').1 x w''/\w'.grownBy w'' (some bb)):=
  fun w' bb sc' hb hsc hbb=>(zdl body hSb B cB g bb fs res sc' w' _ (hc.below hb) hsc (by omega) (by omega) (by omega) (hy.same (zk hb hB))).mono fun e w'' h=>⟨h.1,h.2.2⟩
 have HF:Hid (∀w' bb sc',Below w.heap.size w w'->Sco w' bb sc'->w.heap.size<=bb->Calls prog 174 #[.pointer (some ⟨cB,0,none⟩),.slice A3 els.length c3,.map (some bb)] w' fun x w''=>FOut (z7 (zh fs) res els sc').1 x w''/\w'.grownBy w'' (some bb)):=
  fun w' bb sc' hb hsc hbb=>(zdl els hSe B cB g bb fs res sc' w' _ (hc.below hb) hsc (by omega) (by omega) (by omega) (hf.same (zk hb hB))).mono fun e w'' h=>⟨h.1,h.2.2⟩
 have HM1:Hid (∀e,allR (fun x=>x==2) (zE (zh fs) sc l)=some e->ifR (allR (fun x=>x==2) (zE (zh fs) sc l)) (z7 (zh fs) res body sc).1 (z7 (zh fs) res els sc).1=some e):=fun e h=>by simp[ifR,h]
 have HM2:Hid (∀e,allR (fun x=>x==2) (zE (zh fs) sc l)=none->(z7 (zh fs) res body sc).1=some e->ifR (allR (fun x=>x==2) (zE (zh fs) sc l)) (z7 (zh fs) res body sc).1 (z7 (zh fs) res els sc).1=some e):=fun e h h2=>by simp[ifR,h,h2]
 have HM3:Hid (allR (fun x=>x==2) (zE (zh fs) sc l)=none->(z7 (zh fs) res body sc).1=none->ifR (allR (fun x=>x==2) (zE (zh fs) sc l)) (z7 (zh fs) res body sc).1 (z7 (zh fs) res els sc).1=(z7 (zh fs) res els sc).1):=fun h h2=>by simp[ifR,h,h2]
 replace HY:=aQ (fun w' bb=>HY.out w' bb sc);replace HF:=aQ (fun w' bb=>HF.out w' bb sc);replace HKO:=aQ (fun w' fv=>HKO.out w' fv (fun x=>x==2))
 generalize ifR (allR (fun x=>x==2) (zE (zh fs) sc l)) (z7 (zh fs) res body sc).1 (z7 (zh fs) res els sc).1=m at *
 generalize allR (fun x=>x==2) (zE (zh fs) sc l)=r1 at *
 generalize(z7 (zh fs) res body sc).1=r2 at *
 generalize(z7 (zh fs) res els sc).1=r3 at *
 clear hc hs ht hk hy hf hSb hSe hcl;go_enter func246,ntmps246;go_upto_region 1 with fail
 generalize w.alloc (.cells #[.int .i64 op,.string (strN aZ),.slice A1 l.length c1,.slice A2 body.length c2,.slice A3 els.length c3,.int .i64 aW] 145)=w0 at *
 have hbl:Below w0.heap.size w0 w0.drew:=(Below.refl _ _).drew;have HQ:Hid (∀w',Below w0.heap.size w0 w'->w'.cell? ⟨w.heap.size,2,none⟩=some (.slice A1 l.length c1)):=fun w' hb=>zb z2 hb
 go_region_held3(fun w'=>w'.cell? ⟨w.heap.size,2,none⟩=some (.slice A1 l.length c1))
  (with_reducible exact HQ.out _ hbl)
  (first|(go_at_call 251;refine(isC _ _).mono ?_;rintro e wn ⟨v,rfl,hf,hbn⟩;have HFT:=aQ hf.less;obtain⟨fn,caps,D,rfl,_⟩:=hf;replace hbl:=zd hbl hbn hbl.size)|(go_at_call 250;refine(HKO.out _ _ (zd BA.out hbl BA.out.size) HFT.out).mono ?_;rintro e wn2 ⟨⟨v,rfl,hv⟩,hbn2⟩;replace hbl:=zd hbl hbn2 hbl.size))
 have y3:=zb z3 hbl;have y4:=zb z4 hbl;have HV:=aQ hv;have B1:=aQ (zd BA.out hbl BA.out.size);clear hbn hbn2 hbl HQ z0 z1 z2 z3 z4 z5 BA HKO;cases r1 with
 | some er=>
  obtain⟨b',rfl,_⟩:=hv;have HE:Hid (m=some er):=HM1.out er rfl;clear y3 y4;go_wp2;go_ret;exact⟨⟨_,rfl,by rw[HE.out];exact HV.out⟩,B1.out⟩
 | none=>
  obtain rfl:v=.pointer none:=hv;clear HV;(go_upto_region 4 with fail);have hbl:Below wn2.heap.size wn2 wn2.drew:=(Below.refl _ _).drew;have HQ:Hid (∀w',Below wn2.heap.size wn2 w'->w'.cell? ⟨w.heap.size,3,none⟩=some (.slice A2 body.length c2)):=fun w' hb=>zb y3 hb
  go_region_held3(fun w'=>w'.cell? ⟨w.heap.size,3,none⟩=some (.slice A2 body.length c2))
   (with_reducible exact HQ.out _ hbl)
   (first|(go_at_call 275;refine(zjn b sc _ (HSc.out _ (zd B1.out hbl B1.out.size))).mono ?_;rintro e wj ⟨rfl,hsc,hbn⟩;have HSC:=aQ hsc;replace hbl:=zd hbl hbn hbl.size)|(go_at_call 174;refine(HY.out _ _ (zd B1.out hbl B1.out.size) HSC.out B1.out.size).mono ?_;rintro e wk ⟨⟨v,rfl,hv⟩,hg2⟩;replace hbl:=km hbl hg2 (aR _) hbl.size))
  replace y4:=zb y4 hbl;have HV:=aQ hv;have B2:=aQ (zd B1.out hbl B1.out.size);clear hbn hg2 hsc HSC hbl HQ y3 HY;cases r2 with
  | some er=>
   obtain⟨b',rfl,_⟩:=hv;have HE:Hid (m=some er):=HM2.out er (by first|rfl|trivial) (by first|rfl|trivial);clear y4;go_wp2;go_ret;exact⟨⟨_,rfl,by rw[HE.out];exact HV.out⟩,B2.out⟩
  | none=>
   obtain rfl:v=.pointer none:=hv;have HE:Hid (m=r3):=HM3.out (by first|rfl|trivial) (by first|rfl|trivial);clear HV;(go_upto_region 7 with fail);have hbl:Below wk.heap.size wk wk.drew:=(Below.refl _ _).drew;have HQ:Hid (∀w',Below wk.heap.size wk w'->w'.cell? ⟨w.heap.size,4,none⟩=some (.slice A3 els.length c3)):=fun w' hb=>zb y4 hb
   go_region_held3(fun w'=>w'.cell? ⟨w.heap.size,4,none⟩=some (.slice A3 els.length c3))
    (with_reducible exact HQ.out _ hbl)
    (first|(go_at_call 275;refine(zjn b sc _ (HSc.out _ (zd B2.out hbl B2.out.size))).mono ?_;rintro e wl ⟨rfl,hsc,hbn⟩;have HSC:=aQ hsc;replace hbl:=zd hbl hbn hbl.size)|(go_at_call 174;refine(HF.out _ _ (zd B2.out hbl B2.out.size) HSC.out B2.out.size).mono ?_;rintro e wm ⟨⟨v,rfl,hv⟩,hg2⟩;replace hbl:=km hbl hg2 (aR _) hbl.size))
   have HV:=aQ hv;have B3:=aQ (zd B2.out hbl B2.out.size);clear hbn hg2 hsc HSC hbl HQ y4 HF;go_wp2;go_ret;exact⟨⟨_,rfl,by rw[HE.out];exact HV.out⟩,B3.out⟩
def forR(T:Tab5)(res:Int)(a:Er)(sc:zX)(aZ:List Nat)(aW:Int)(body:List Xs):Er:=match a with|some e=>some e|none=>match zY sc aZ (1,true) aW with|(some e,_)=>some e|(none,inner)=>(z7 T res body inner).1
def zvg(op:Int)(aZ:List Nat)(l:List Xe)(body els:List Xs)(A1 A2 A3:Option Addr)(c1 c2 c3:Nat)(aW:Int)(hSb:∀s∈body,SC s)(hSe:∀s∈els,SC s)(B cB g b:Nat)(fs:List Xf)(res:Int)(sc:zX)(w:World)
  (hc:Cx w B cB g fs res) (hs:Sco w b sc) (ht:Byn aZ) (hk:XesC w (Lo B) l (.slice A1 l.length c1)) (hy:XssC w (Lo B) body (.slice A2 body.length c2)) (hf:XssC w (Lo B) els (.slice A3 els.length c3)) :
  Calls prog 247 #[.pointer (some ⟨cB,0,none⟩),.agg #[.int .i64 op,.string (strN aZ),.slice A1 l.length c1,.slice A2 body.length c2,.slice A3 els.length c3,.int .i64 aW],.map (some b)] w fun x w'=>FOut (forR (zh fs) res (allR (fun x=>x==1) (zE (zh fs) sc l)) sc aZ aW body) x w'/\Below w.heap.size w w':=by
 have hB:B<=w.heap.size:=by have:=hc.lt;have:=hc.hc;omega
 have hcl:=hc.lt;have BA:=aQ (za w (xsO op aZ (.slice A1 l.length c1) (.slice A2 body.length c2) (.slice A3 els.length c3) aW));obtain⟨z0,z1,z2,z3,z4,z5⟩:=qA w op aZ (.slice A1 l.length c1) (.slice A2 body.length c2) (.slice A3 els.length c3) aW
 have HKO:Hid (∀w' fv fits,Below w.heap.size w w'->FitV w' fv fits->Calls prog 250 #[.pointer (some ⟨cB,0,none⟩),.slice A1 l.length c1,.map (some b),fv] w' fun x w''=>FOut (allR fits (zE (zh fs) sc l)) x w''/\Below w'.heap.size w' w''):=
  fun w' fv fits hb hf=>kn l (fun e _=>ec e) B cB g b fs res sc w' _ fv fits (hc.below hb) (hs.below hb) (hk.same (zk hb hB)) hf
 have HSc:Hid (∀w',Below w.heap.size w w'->Sco w' b sc):=fun w' hb=>hs.below hb
 have HY:Hid (∀w' bb sc',Below w.heap.size w w'->Sco w' bb sc'->w.heap.size<=bb->Calls prog 174 #[.pointer (some ⟨cB,0,none⟩),.slice A2 body.length c2,.map (some bb)] w' fun x w''=>FOut (z7 (zh fs) res body sc').1 x w''/\w'.grownBy w'' (some bb)):=
  fun w' bb sc' hb hsc hbb=>(zdl body hSb B cB g bb fs res sc' w' _ (hc.below hb) hsc (by omega) (by omega) (by omega) (hy.same (zk hb hB))).mono fun e w'' h=>⟨h.1,h.2.2⟩
 have HF:Hid (∀w' bb sc',Below w.heap.size w w'->Sco w' bb sc'->w.heap.size<=bb->Calls prog 174 #[.pointer (some ⟨cB,0,none⟩),.slice A3 els.length c3,.map (some bb)] w' fun x w''=>FOut (z7 (zh fs) res els sc').1 x w''/\w'.grownBy w'' (some bb)):=
  fun w' bb sc' hb hsc hbb=>(zdl els hSe B cB g bb fs res sc' w' _ (hc.below hb) hsc (by omega) (by omega) (by omega) (hf.same (zk hb hB))).mono fun e w'' h=>⟨h.1,h.2.2⟩
 have HM1:Hid (∀e,allR (fun x=>x==1) (zE (zh fs) sc l)=some e->forR (zh fs) res (allR (fun x=>x==1) (zE (zh fs) sc l)) sc aZ aW body=some e):=fun e h=>by simp[forR,h]
 have HM2:Hid (∀e,allR (fun x=>x==1) (zE (zh fs) sc l)=none->(zY sc aZ (1,true) aW).1=some e->forR (zh fs) res (allR (fun x=>x==1) (zE (zh fs) sc l)) sc aZ aW body=some e):=fun e h h2=>by
  rcases hd:zY sc aZ (1,true) aW with⟨x,y⟩
  rw[hd]at h2;obtain rfl:x=some e:=h2;simp[forR,h,hd]
 have HM3:Hid (allR (fun x=>x==1) (zE (zh fs) sc l)=none->(zY sc aZ (1,true) aW).1=none->forR (zh fs) res (allR (fun x=>x==1) (zE (zh fs) sc l)) sc aZ aW body=(z7 (zh fs) res body (zY sc aZ (1,true) aW).2).1):=fun h h2=>by
  rcases hd:zY sc aZ (1,true) aW with⟨x,y⟩
  rw[hd]at h2;obtain rfl:x=none:=h2;simp[forR,h,hd]
 have HTx:=aQ ht;replace HKO:=aQ (fun w' fv=>HKO.out w' fv (fun x=>x==1))
 generalize forR (zh fs) res (allR (fun x=>x==1) (zE (zh fs) sc l)) sc aZ aW body=m at *
 generalize allR (fun x=>x==1) (zE (zh fs) sc l)=r1 at *
 clear hc hs ht hk hy hf hSb hSe hcl HF;go_enter func247,ntmps247;go_upto_region 1 with fail
 generalize w.alloc (.cells #[.int .i64 op,.string (strN aZ),.slice A1 l.length c1,.slice A2 body.length c2,.slice A3 els.length c3,.int .i64 aW] 145)=w0 at *
 have hbl:Below w0.heap.size w0 w0.drew:=(Below.refl _ _).drew;have HQ:Hid (∀w',Below w0.heap.size w0 w'->w'.cell? ⟨w.heap.size,2,none⟩=some (.slice A1 l.length c1)):=fun w' hb=>zb z2 hb
 go_region_held3(fun w'=>w'.cell? ⟨w.heap.size,2,none⟩=some (.slice A1 l.length c1))
  (with_reducible exact HQ.out _ hbl)
  (first|(go_at_call 251;refine(isC _ _).mono ?_;rintro e wn ⟨v,rfl,hf,hbn⟩;have HFT:=aQ hf.less;obtain⟨fn,caps,D,rfl,_⟩:=hf;replace hbl:=zd hbl hbn hbl.size)|(go_at_call 250;refine(HKO.out _ _ (zd BA.out hbl BA.out.size) HFT.out).mono ?_;rintro e wn2 ⟨⟨v,rfl,hv⟩,hbn2⟩;replace hbl:=zd hbl hbn2 hbl.size))
 have y1:=zb z1 hbl;have y3:=zb z3 hbl;have y5:=zb z5 hbl;have HV:=aQ hv;have B1:=aQ (zd BA.out hbl BA.out.size);clear hbn hbn2 hbl HQ z0 z1 z2 z3 z4 z5 BA HKO;cases r1 with
 | some er=>
  obtain⟨b',rfl,_⟩:=hv;have HE:Hid (m=some er):=HM1.out er rfl;clear y1 y3 y5;go_wp2;go_ret;exact⟨⟨_,rfl,by rw[HE.out];exact HV.out⟩,B1.out⟩
 | none=>
  obtain rfl:v=.pointer none:=hv;have KC:=aQ (zjn b sc wn2 (HSc.out _ B1.out));clear HV
  (go_wp2_with fail);refine KC.out.mono ?_;rintro e w3 ⟨rfl,hsc,hb3⟩;have HSC:=aQ hsc;have x1:=zb y1 hb3;have x3:=zb y3 hb3;have x5:=zb y5 hb3;have HL:=aQ B1.out.size;have KD:=aQ (zc3 wn2.heap.size sc aZ HTx.out 1 true aW w3 hsc);have B3:=aQ (zd B1.out hb3 B1.out.size);have HW:Hid (w.heap.size<wn2.heap.size):=wW wn2 _ y1;clear hsc hb3 KC y1 y3 y5 HSc
  generalize wn2.heap.size=bb at *
  (go_wp2_with fail);refine KD.out.mono ?_;rintro e w4 ⟨⟨v,rfl,hv⟩,hsd,hg⟩;have HV:=aQ hv;have HSD:=aQ hsd;have u3:=qp x3 hg (by have:=HW.out;show bb≠w.heap.size;omega);have B4:=aQ (km B3.out hg HL.out B3.out.size);clear hsd hg x1 x3 x5 KD HSC;cases hd:(zY sc aZ (1,true) aW).1 with
  | some er=>
   rw[hd]at hv HV;have HE:Hid (m=some er):=HM2.out er (by first|rfl|trivial) hd;obtain⟨b',rfl,_⟩:=hv;clear hd;go_wp2;go_ret;exact⟨⟨_,rfl,by rw[HE.out];exact HV.out⟩,B4.out⟩
  | none=>
   rw[hd]at hv;have HE:Hid (m=(z7 (zh fs) res body (zY sc aZ (1,true) aW).2).1):=HM3.out (by first|rfl|trivial) hd;obtain rfl:v=.pointer none:=hv;have KB:=aQ (HY.out w4 bb _ B4.out HSD.out HL.out);clear hd HV
   (go_wp2_with fail);refine KB.out.mono ?_;rintro e w5 ⟨⟨v,rfl,hv⟩,hg⟩;have HV:=aQ hv;have B5:=aQ (km B4.out hg HL.out B4.out.size);clear hv hg u3 KB
   go_wp2;go_ret;exact⟨⟨_,rfl,by rw[HE.out];exact HV.out⟩,B5.out⟩
def isE{α:Type}(l:List α):l.isEmpty=(l.length==0):=by cases l<;>rfl
def znm{op:Int}{y f:Bool}(h:zj op n y f=true):((op=1\/op=2\/op=7\/op=8)/\n=1)\/op=6\/op=5\/op=3\/op=4:=by
 unfold zj at h
 split at h
 ·rename_i h1
  simp only[aM,beq_iff_eq]at h;exact .inl ⟨h1,h.1⟩
 ·split at h
  ·omega
  ·split at h
   ·omega
   ·split at h
    ·omega
    ·split at h
     ·omega
     ·cases h
def zro(T:Tab5)(res op:Int)(aZ:List Nat)(aY:List Xe)(body els:List Xs)(aW:Int)(sc:zX)(h:zj op aY.length body.isEmpty els.isEmpty=false):stmM T res (.mk op aZ aY body els aW) sc=(some (51,aW),sc):=by
 unfold stmM;rw[if_pos h]
def zv1(T:Tab5)(res:Int)(aZ:List Nat)(e:Xe)(body els:List Xs)(aW:Int)(sc:zX)(h:zj 1 1 body.isEmpty els.isEmpty=true):stmM T res (.mk 1 aZ [e] body els aW) sc=letR sc aZ aW (e.aW,qk T sc e):=by
 unfold stmM;rw[if_neg (by rw[show [e].length=1 from rfl,h];simp),if_pos rfl];simp[zE]
def zvx(T:Tab5)(res:Int)(aZ:List Nat)(aY:List Xe)(body els:List Xs)(aW:Int)(sc:zX)(h:zj 2 aY.length body.isEmpty els.isEmpty=true):stmM T res (.mk 2 aZ aY body els aW) sc=(setR sc aZ aW (zE T sc aY),sc):=by
 unfold stmM;rw[if_neg (by rw[h];simp),if_neg (by decide),if_pos rfl]
def zvs(T:Tab5)(res:Int)(aZ:List Nat)(aY:List Xe)(body els:List Xs)(aW:Int)(sc:zX)(h:zj 3 aY.length body.isEmpty els.isEmpty=true):stmM T res (.mk 3 aZ aY body els aW) sc=(ifR (allR (fun x=>x==2) (zE T sc aY)) (z7 T res body sc).1 (z7 T res els sc).1,sc):=by
 unfold stmM;rw[if_neg (by rw[h];simp),if_neg (by decide),if_neg (by decide),if_pos rfl];rfl
def zvf(T:Tab5)(res:Int)(aZ:List Nat)(aY:List Xe)(body els:List Xs)(aW:Int)(sc:zX)(h:zj 4 aY.length body.isEmpty els.isEmpty=true):stmM T res (.mk 4 aZ aY body els aW) sc=(forR T res (allR (fun x=>x==1) (zE T sc aY)) sc aZ aW body,sc):=by
 unfold stmM;rw[if_neg (by rw[h];simp),if_neg (by decide),if_neg (by decide),if_neg (by decide),if_pos rfl];rfl
def zv3(T:Tab5)(res:Int)(aZ:List Nat)(aY:List Xe)(body els:List Xs)(aW:Int)(sc:zX)(h:zj 5 aY.length body.isEmpty els.isEmpty=true):stmM T res (.mk 5 aZ aY body els aW) sc=(endR res aW (zE T sc aY),sc):=by
 unfold stmM;rw[if_neg (by rw[h];simp),if_neg (by decide),if_neg (by decide),if_neg (by decide),if_neg (by decide),if_pos rfl]
def zu7(T:Tab5)(res:Int)(aZ:List Nat)(e:Xe)(body els:List Xs)(aW:Int)(sc:zX)(h:zj 8 1 body.isEmpty els.isEmpty=true):stmM T res (.mk 8 aZ [e] body els aW) sc=(allR (fun _=>e.op==5) (zE T sc [e]),sc):=by
 unfold stmM;rw[if_neg (by rw[show [e].length=1 from rfl,h];simp),if_neg (by decide),if_neg (by decide),if_neg (by decide),if_neg (by decide),if_neg (by decide),if_pos rfl];rfl
def zuh(T:Tab5)(res op:Int)(aZ:List Nat)(aY:List Xe)(body els:List Xs)(aW:Int)(sc:zX)(h:zj op aY.length body.isEmpty els.isEmpty=true)(h1:¬op=1)(h2:¬op=2)(h3:¬op=3)(h4:¬op=4)(h5:¬op=5)(h8:¬op=8):stmM T res (.mk op aZ aY body els aW) sc=(allR (fun x=>x==3) (zE T sc aY),sc):=by
 unfold stmM;rw[if_neg (by rw[h];simp),if_neg h1,if_neg h2,if_neg h3,if_neg h4,if_neg h5,if_neg h8]
def zol(op:Int)(aZ:List Nat)(aY:List Xe)(body els:List Xs)(aW:Int)(hSb:∀s∈body,SC s)(hSe:∀s∈els,SC s)(hh:zj op aY.length body.isEmpty els.isEmpty=false):SC (.mk op aZ aY body els aW):=by
 intro B cB g b fs res sc w v hc hs n3 n4 n5 hv;obtain⟨⟨K1,K2,K3⟩,rfl,ht,hk,hy,hf⟩:=hv;simp only[Xs.aZ,Xs.aY,Xs.body,Xs.els]at ht hk hy hf;obtain⟨A1,c1,rfl⟩:∃A c,K1=.slice A aY.length c:=zu hk;obtain⟨A2,c2,rfl⟩:=zt hy;obtain⟨A3,c3,rfl⟩:=zt hf;have hB:B<=w.heap.size:=by have:=hc.lt;have:=hc.hc;omega
 have BA:=aQ (za w (xsO op aZ (.slice A1 aY.length c1) (.slice A2 body.length c2) (.slice A3 els.length c3) aW));obtain⟨z0,z1,z2,z3,z4,z5⟩:=qA w op aZ (.slice A1 aY.length c1) (.slice A2 body.length c2) (.slice A3 els.length c3) aW;have KH:=aQ (xI op aZ A1 A2 A3 aY.length body.length els.length c1 c2 c3 aW);rw[<- isE,<- isE,hh]at KH;unfold xsC;simp only[Xs.op,Xs.aZ,Xs.aW,Xs.aY,Xs.body,Xs.els];have HR:=aQ (zro (zh fs) res op aZ aY body els aW sc hh)
 generalize stmM (zh fs) res (.mk op aZ aY body els aW) sc=m at *
 clear hc hs hk hy hf hSb hSe hh n3 n4 n5 ht;go_enter func213,ntmps213
 go_wp2_with fail
 generalize w.alloc (.cells #[.int .i64 op,.string (strN aZ),.slice A1 aY.length c1,.slice A2 body.length c2,.slice A3 els.length c3,.int .i64 aW] 145)=w0 at *
 with_reducible refine(KH.out _).mono ?_
 rintro e' w1⟨rfl,b1⟩;have y0:=zb z0 b1;have y1:=zb z1 b1;have y2:=zb z2 b1;have y3:=zb z3 b1;have y4:=zb z4 b1;have y5:=zb z5 b1;have B1:=aQ (zd BA.out b1 BA.out.size);clear z0 z1 z2 z3 z4 z5 b1 BA KH;clear y0 y1 y2 y3 y4;go_wp2;go_ret;exact⟨⟨_,rfl,by rw[HR.out];exact xK w1 51 aW⟩,fun h=>(by rw[HR.out]at h;cases h),(zT (B1.out.alloc B1.out.size _) _)⟩
def zsw(e:Xe)(aZ:List Nat)(body els:List Xs)(aW:Int)(hSb:∀s∈body,SC s)(hSe:∀s∈els,SC s)(hh:zj 1 1 body.isEmpty els.isEmpty=true):SC (.mk 1 aZ [e] body els aW):=by
 intro B cB g b fs res sc w v hc hs n3 n4 n5 hv;obtain⟨⟨K1,K2,K3⟩,rfl,ht,hk,hy,hf⟩:=hv;simp only[Xs.aZ,Xs.aY,Xs.body,Xs.els]at ht hk hy hf;obtain⟨A1,c1,rfl⟩:∃A c,K1=.slice A 1 c:=zu hk;obtain⟨A2,c2,rfl⟩:=zt hy;obtain⟨A3,c3,rfl⟩:=zt hf;have hB:B<=w.heap.size:=by have:=hc.lt;have:=hc.hc;omega
 have BA:=aQ (za w (xsO 1 aZ (.slice A1 1 c1) (.slice A2 body.length c2) (.slice A3 els.length c3) aW));obtain⟨z0,z1,z2,z3,z4,z5⟩:=qA w 1 aZ (.slice A1 1 c1) (.slice A2 body.length c2) (.slice A3 els.length c3) aW;have KH:=aQ (xI 1 aZ A1 A2 A3 1 body.length els.length c1 c2 c3 aW);rw[<- isE,<- isE,hh]at KH;unfold xsC;simp only[Xs.op,Xs.aZ,Xs.aW,Xs.aY,Xs.body,Xs.els];have HR:=aQ (zv1 (zh fs) res aZ e body els aW sc hh)
 have KC:Hid (∀w',Below w.heap.size w w'->Calls prog 244 #[.pointer (some ⟨cB,0,none⟩),.agg #[.int .i64 1,.string (strN aZ),.slice A1 1 c1,.slice A2 body.length c2,.slice A3 els.length c3,.int .i64 aW],.map (some b)] w' fun x w''=>FOut (letR sc aZ aW (e.aW,qk (zh fs) sc e)).1 x w''/\Sco w'' b (letR sc aZ aW (e.aW,qk (zh fs) sc e)).2/\w'.grownBy w'' (some b)):=
  fun w' hb=>letC 1 aZ e A2 A3 body.length els.length c2 c3 aW B cB g b fs res sc w' _ (hc.below hb) (hs.below hb) ht (hk.same (zk hb hB))
 generalize stmM (zh fs) res (.mk 1 aZ [e] body els aW) sc=m at *
 clear hh hc hs hk hy hf hSb hSe n3 n4 n5 ht;go_enter func213,ntmps213
 go_wp2_with fail
 generalize w.alloc (.cells #[.int .i64 1,.string (strN aZ),.slice A1 1 c1,.slice A2 body.length c2,.slice A3 els.length c3,.int .i64 aW] 145)=w0 at *
 with_reducible refine(KH.out _).mono ?_
 rintro e' w1⟨rfl,b1⟩;have y0:=zb z0 b1;have y1:=zb z1 b1;have y2:=zb z2 b1;have y3:=zb z3 b1;have y4:=zb z4 b1;have y5:=zb z5 b1;have B1:=aQ (zd BA.out b1 BA.out.size);clear z0 z1 z2 z3 z4 z5 b1 BA KH;replace KC:=aQ (KC.out _ B1.out)
 go_wp2_with fail
 with_reducible refine KC.out.mono ?_
 rintro e' w2⟨⟨v,rfl,hv⟩,hs2,hg⟩;have HV:=aQ hv;have HS2:=aQ hs2;have HG:=aQ (zQ (zT B1.out (some b)) hg);clear hv hs2 hg KC y0 y1 y2 y3 y4 y5;go_wp2;go_ret;exact⟨⟨_,rfl,by rw[HR.out];exact HV.out⟩,fun _=>by rw[HR.out];exact HS2.out,HG.out⟩
def zuo(aZ:List Nat)(aY:List Xe)(body els:List Xs)(aW:Int)(hSb:∀s∈body,SC s)(hSe:∀s∈els,SC s)(hh:zj 2 aY.length body.isEmpty els.isEmpty=true):SC (.mk 2 aZ aY body els aW):=by
 intro B cB g b fs res sc w v hc hs n3 n4 n5 hv;obtain⟨⟨K1,K2,K3⟩,rfl,ht,hk,hy,hf⟩:=hv;simp only[Xs.aZ,Xs.aY,Xs.body,Xs.els]at ht hk hy hf;obtain⟨A1,c1,rfl⟩:∃A c,K1=.slice A aY.length c:=zu hk;obtain⟨A2,c2,rfl⟩:=zt hy;obtain⟨A3,c3,rfl⟩:=zt hf;have hB:B<=w.heap.size:=by have:=hc.lt;have:=hc.hc;omega
 have BA:=aQ (za w (xsO 2 aZ (.slice A1 aY.length c1) (.slice A2 body.length c2) (.slice A3 els.length c3) aW));obtain⟨z0,z1,z2,z3,z4,z5⟩:=qA w 2 aZ (.slice A1 aY.length c1) (.slice A2 body.length c2) (.slice A3 els.length c3) aW;have KH:=aQ (xI 2 aZ A1 A2 A3 aY.length body.length els.length c1 c2 c3 aW);rw[<- isE,<- isE,hh]at KH;unfold xsC;simp only[Xs.op,Xs.aZ,Xs.aW,Xs.aY,Xs.body,Xs.els];have HR:=aQ (zvx (zh fs) res aZ aY body els aW sc hh);have HS:=aQ hs;have KC:Hid (∀w',Below w.heap.size w w'->Calls prog 245 #[.pointer (some ⟨cB,0,none⟩),.agg #[.int .i64 2,.string (strN aZ),.slice A1 aY.length c1,.slice A2 body.length c2,.slice A3 els.length c3,.int .i64 aW],.map (some b)] w' fun x w''=>FOut (setR sc aZ aW (zE (zh fs) sc aY)) x w''/\Below w'.heap.size w' w''):=fun w' hb=>setC 2 aZ aY A1 A2 A3 body.length els.length c1 c2 c3 aW B cB g b fs res sc w' (hc.below hb) (hs.below hb) ht (hk.same (zk hb hB))
 generalize stmM (zh fs) res (.mk 2 aZ aY body els aW) sc=m at *
 clear hh hc hs hk hy hf hSb hSe n3 n4 n5 ht;go_enter func213,ntmps213
 go_wp2_with fail
 generalize w.alloc (.cells #[.int .i64 2,.string (strN aZ),.slice A1 aY.length c1,.slice A2 body.length c2,.slice A3 els.length c3,.int .i64 aW] 145)=w0 at *
 with_reducible refine(KH.out _).mono ?_
 rintro e' w1⟨rfl,b1⟩;have y0:=zb z0 b1;have y1:=zb z1 b1;have y2:=zb z2 b1;have y3:=zb z3 b1;have y4:=zb z4 b1;have y5:=zb z5 b1;have B1:=aQ (zd BA.out b1 BA.out.size);clear z0 z1 z2 z3 z4 z5 b1 BA KH;replace KC:=aQ (KC.out _ B1.out)
 go_wp2_with fail
 with_reducible refine KC.out.mono ?_
 rintro e' w2⟨⟨v,rfl,hv⟩,b2⟩;have HV:=aQ hv;have B2:=aQ (zd B1.out b2 B1.out.size);clear hv b2 KC y0 y1 y2 y3 y4 y5;go_wp2;go_ret;exact⟨⟨_,rfl,by rw[HR.out];exact HV.out⟩,fun _=>by rw[HR.out];exact HS.out.below B2.out,zT B2.out _⟩
def zti(aZ:List Nat)(aY:List Xe)(body els:List Xs)(aW:Int)(hSb:∀s∈body,SC s)(hSe:∀s∈els,SC s)(hh:zj 3 aY.length body.isEmpty els.isEmpty=true):SC (.mk 3 aZ aY body els aW):=by
 intro B cB g b fs res sc w v hc hs n3 n4 n5 hv;obtain⟨⟨K1,K2,K3⟩,rfl,ht,hk,hy,hf⟩:=hv;simp only[Xs.aZ,Xs.aY,Xs.body,Xs.els]at ht hk hy hf;obtain⟨A1,c1,rfl⟩:∃A c,K1=.slice A aY.length c:=zu hk;obtain⟨A2,c2,rfl⟩:=zt hy;obtain⟨A3,c3,rfl⟩:=zt hf;have hB:B<=w.heap.size:=by have:=hc.lt;have:=hc.hc;omega
 have BA:=aQ (za w (xsO 3 aZ (.slice A1 aY.length c1) (.slice A2 body.length c2) (.slice A3 els.length c3) aW));obtain⟨z0,z1,z2,z3,z4,z5⟩:=qA w 3 aZ (.slice A1 aY.length c1) (.slice A2 body.length c2) (.slice A3 els.length c3) aW;have KH:=aQ (xI 3 aZ A1 A2 A3 aY.length body.length els.length c1 c2 c3 aW);rw[<- isE,<- isE,hh]at KH;unfold xsC;simp only[Xs.op,Xs.aZ,Xs.aW,Xs.aY,Xs.body,Xs.els];have HR:=aQ (zvs (zh fs) res aZ aY body els aW sc hh);have HS:=aQ hs;have KC:Hid (∀w',Below w.heap.size w w'->Calls prog 246 #[.pointer (some ⟨cB,0,none⟩),.agg #[.int .i64 3,.string (strN aZ),.slice A1 aY.length c1,.slice A2 body.length c2,.slice A3 els.length c3,.int .i64 aW],.map (some b)] w' fun x w''=>FOut (ifR (allR (fun x=>x==2) (zE (zh fs) sc aY)) (z7 (zh fs) res body sc).1 (z7 (zh fs) res els sc).1) x w''/\Below w'.heap.size w' w''):=fun w' hb=>zri 3 aZ aY body els A1 A2 A3 c1 c2 c3 aW hSb hSe B cB g b fs res sc w' (hc.below hb) (hs.below hb) ht (hk.same (zk hb hB)) (hy.same (zk hb hB)) (hf.same (zk hb hB))
 generalize stmM (zh fs) res (.mk 3 aZ aY body els aW) sc=m at *
 clear hh hc hs hk hy hf hSb hSe n3 n4 n5 ht;go_enter func213,ntmps213
 go_wp2_with fail
 generalize w.alloc (.cells #[.int .i64 3,.string (strN aZ),.slice A1 aY.length c1,.slice A2 body.length c2,.slice A3 els.length c3,.int .i64 aW] 145)=w0 at *
 with_reducible refine(KH.out _).mono ?_
 rintro e' w1⟨rfl,b1⟩;have y0:=zb z0 b1;have y1:=zb z1 b1;have y2:=zb z2 b1;have y3:=zb z3 b1;have y4:=zb z4 b1;have y5:=zb z5 b1;have B1:=aQ (zd BA.out b1 BA.out.size);clear z0 z1 z2 z3 z4 z5 b1 BA KH;replace KC:=aQ (KC.out _ B1.out)
 go_wp2_with fail
 with_reducible refine KC.out.mono ?_
 rintro e' w2⟨⟨v,rfl,hv⟩,b2⟩;have HV:=aQ hv;have B2:=aQ (zd B1.out b2 B1.out.size);clear hv b2 KC y0 y1 y2 y3 y4 y5;go_wp2;go_ret;exact⟨⟨_,rfl,by rw[HR.out];exact HV.out⟩,fun _=>by rw[HR.out];exact HS.out.below B2.out,zT B2.out _⟩
def zs5(aZ:List Nat)(aY:List Xe)(body els:List Xs)(aW:Int)(hSb:∀s∈body,SC s)(hSe:∀s∈els,SC s)(hh:zj 4 aY.length body.isEmpty els.isEmpty=true):SC (.mk 4 aZ aY body els aW):=by
 intro B cB g b fs res sc w v hc hs n3 n4 n5 hv;obtain⟨⟨K1,K2,K3⟩,rfl,ht,hk,hy,hf⟩:=hv;simp only[Xs.aZ,Xs.aY,Xs.body,Xs.els]at ht hk hy hf;obtain⟨A1,c1,rfl⟩:∃A c,K1=.slice A aY.length c:=zu hk;obtain⟨A2,c2,rfl⟩:=zt hy;obtain⟨A3,c3,rfl⟩:=zt hf;have hB:B<=w.heap.size:=by have:=hc.lt;have:=hc.hc;omega
 have BA:=aQ (za w (xsO 4 aZ (.slice A1 aY.length c1) (.slice A2 body.length c2) (.slice A3 els.length c3) aW));obtain⟨z0,z1,z2,z3,z4,z5⟩:=qA w 4 aZ (.slice A1 aY.length c1) (.slice A2 body.length c2) (.slice A3 els.length c3) aW;have KH:=aQ (xI 4 aZ A1 A2 A3 aY.length body.length els.length c1 c2 c3 aW);rw[<- isE,<- isE,hh]at KH;unfold xsC;simp only[Xs.op,Xs.aZ,Xs.aW,Xs.aY,Xs.body,Xs.els];have HR:=aQ (zvf (zh fs) res aZ aY body els aW sc hh);have HS:=aQ hs;have KC:Hid (∀w',Below w.heap.size w w'->Calls prog 247 #[.pointer (some ⟨cB,0,none⟩),.agg #[.int .i64 4,.string (strN aZ),.slice A1 aY.length c1,.slice A2 body.length c2,.slice A3 els.length c3,.int .i64 aW],.map (some b)] w' fun x w''=>FOut (forR (zh fs) res (allR (fun x=>x==1) (zE (zh fs) sc aY)) sc aZ aW body) x w''/\Below w'.heap.size w' w''):=fun w' hb=>zvg 4 aZ aY body els A1 A2 A3 c1 c2 c3 aW hSb hSe B cB g b fs res sc w' (hc.below hb) (hs.below hb) ht (hk.same (zk hb hB)) (hy.same (zk hb hB)) (hf.same (zk hb hB))
 generalize stmM (zh fs) res (.mk 4 aZ aY body els aW) sc=m at *
 clear hh hc hs hk hy hf hSb hSe n3 n4 n5 ht;go_enter func213,ntmps213
 go_wp2_with fail
 generalize w.alloc (.cells #[.int .i64 4,.string (strN aZ),.slice A1 aY.length c1,.slice A2 body.length c2,.slice A3 els.length c3,.int .i64 aW] 145)=w0 at *
 with_reducible refine(KH.out _).mono ?_
 rintro e' w1⟨rfl,b1⟩;have y0:=zb z0 b1;have y1:=zb z1 b1;have y2:=zb z2 b1;have y3:=zb z3 b1;have y4:=zb z4 b1;have y5:=zb z5 b1;have B1:=aQ (zd BA.out b1 BA.out.size);clear z0 z1 z2 z3 z4 z5 b1 BA KH;replace KC:=aQ (KC.out _ B1.out)
 go_wp2_with fail
 with_reducible refine KC.out.mono ?_
 rintro e' w2⟨⟨v,rfl,hv⟩,b2⟩;have HV:=aQ hv;have B2:=aQ (zd B1.out b2 B1.out.size);clear hv b2 KC y0 y1 y2 y3 y4 y5;go_wp2;go_ret;exact⟨⟨_,rfl,by rw[HR.out];exact HV.out⟩,fun _=>by rw[HR.out];exact HS.out.below B2.out,zT B2.out _⟩
def zsl(aZ:List Nat)(aY:List Xe)(body els:List Xs)(aW:Int)(hSb:∀s∈body,SC s)(hSe:∀s∈els,SC s)(hh:zj 5 aY.length body.isEmpty els.isEmpty=true):SC (.mk 5 aZ aY body els aW):=by
 intro B cB g b fs res sc w v hc hs n3 n4 n5 hv;obtain⟨⟨K1,K2,K3⟩,rfl,ht,hk,hy,hf⟩:=hv;simp only[Xs.aZ,Xs.aY,Xs.body,Xs.els]at ht hk hy hf;obtain⟨A1,c1,rfl⟩:∃A c,K1=.slice A aY.length c:=zu hk;obtain⟨A2,c2,rfl⟩:=zt hy;obtain⟨A3,c3,rfl⟩:=zt hf;have hB:B<=w.heap.size:=by have:=hc.lt;have:=hc.hc;omega
 have BA:=aQ (za w (xsO 5 aZ (.slice A1 aY.length c1) (.slice A2 body.length c2) (.slice A3 els.length c3) aW));obtain⟨z0,z1,z2,z3,z4,z5⟩:=qA w 5 aZ (.slice A1 aY.length c1) (.slice A2 body.length c2) (.slice A3 els.length c3) aW;have KH:=aQ (xI 5 aZ A1 A2 A3 aY.length body.length els.length c1 c2 c3 aW);rw[<- isE,<- isE,hh]at KH;unfold xsC;simp only[Xs.op,Xs.aZ,Xs.aW,Xs.aY,Xs.body,Xs.els];have HR:=aQ (zv3 (zh fs) res aZ aY body els aW sc hh);have HS:=aQ hs;have KC:Hid (∀w',Below w.heap.size w w'->Calls prog 248 #[.pointer (some ⟨cB,0,none⟩),.agg #[.int .i64 5,.string (strN aZ),.slice A1 aY.length c1,.slice A2 body.length c2,.slice A3 els.length c3,.int .i64 aW],.map (some b)] w' fun x w''=>FOut (endR res aW (zE (zh fs) sc aY)) x w''/\Below w'.heap.size w' w''):=fun w' hb=>endC 5 aZ aY A1 A2 A3 body.length els.length c1 c2 c3 aW B cB g b fs res sc w' (hc.below hb) (hs.below hb) ht (hk.same (zk hb hB))
 generalize stmM (zh fs) res (.mk 5 aZ aY body els aW) sc=m at *
 clear hh hc hs hk hy hf hSb hSe n3 n4 n5 ht;go_enter func213,ntmps213
 go_wp2_with fail
 generalize w.alloc (.cells #[.int .i64 5,.string (strN aZ),.slice A1 aY.length c1,.slice A2 body.length c2,.slice A3 els.length c3,.int .i64 aW] 145)=w0 at *
 with_reducible refine(KH.out _).mono ?_
 rintro e' w1⟨rfl,b1⟩;have y0:=zb z0 b1;have y1:=zb z1 b1;have y2:=zb z2 b1;have y3:=zb z3 b1;have y4:=zb z4 b1;have y5:=zb z5 b1;have B1:=aQ (zd BA.out b1 BA.out.size);clear z0 z1 z2 z3 z4 z5 b1 BA KH;replace KC:=aQ (KC.out _ B1.out)
 go_wp2_with fail
 with_reducible refine KC.out.mono ?_
 rintro e' w2⟨⟨v,rfl,hv⟩,b2⟩;have HV:=aQ hv;have B2:=aQ (zd B1.out b2 B1.out.size);clear hv b2 KC y0 y1 y2 y3 y4 y5;go_wp2;go_ret;exact⟨⟨_,rfl,by rw[HR.out];exact HV.out⟩,fun _=>by rw[HR.out];exact HS.out.below B2.out,zT B2.out _⟩
def ztr(e:Xe)(aZ:List Nat)(body els:List Xs)(aW:Int)(hSb:∀s∈body,SC s)(hSe:∀s∈els,SC s)(hh:zj 8 1 body.isEmpty els.isEmpty=true):SC (.mk 8 aZ [e] body els aW):=by
 intro B cB g b fs res sc w v hc hs n3 n4 n5 hv;obtain⟨⟨K1,K2,K3⟩,rfl,ht,hk,hy,hf⟩:=hv;simp only[Xs.aZ,Xs.aY,Xs.body,Xs.els]at ht hk hy hf;obtain⟨A1,c1,rfl⟩:∃A c,K1=.slice A 1 c:=zu hk;obtain⟨A2,c2,rfl⟩:=zt hy;obtain⟨A3,c3,rfl⟩:=zt hf;have hB:B<=w.heap.size:=by have:=hc.lt;have:=hc.hc;omega
 have BA:=aQ (za w (xsO 8 aZ (.slice A1 1 c1) (.slice A2 body.length c2) (.slice A3 els.length c3) aW));obtain⟨z0,z1,z2,z3,z4,z5⟩:=qA w 8 aZ (.slice A1 1 c1) (.slice A2 body.length c2) (.slice A3 els.length c3) aW;have KH:=aQ (xI 8 aZ A1 A2 A3 1 body.length els.length c1 c2 c3 aW);rw[<- isE,<- isE,hh]at KH;unfold xsC;simp only[Xs.op,Xs.aZ,Xs.aW,Xs.aY,Xs.body,Xs.els];have HR:=aQ (zu7 (zh fs) res aZ e body els aW sc hh);have HS:=aQ hs;have KC:Hid (∀w',Below w.heap.size w w'->Calls prog 249 #[.pointer (some ⟨cB,0,none⟩),.agg #[.int .i64 8,.string (strN aZ),.slice A1 1 c1,.slice A2 body.length c2,.slice A3 els.length c3,.int .i64 aW],.map (some b)] w' fun x w''=>FOut (allR (fun _=>e.op==5) (zE (zh fs) sc [e])) x w''/\Below w'.heap.size w' w''):=fun w' hb=>doC 8 aZ e A2 A3 body.length els.length c2 c3 aW B cB g b fs res sc w' _ (hc.below hb) (hs.below hb) (hk.same (zk hb hB))
 generalize stmM (zh fs) res (.mk 8 aZ [e] body els aW) sc=m at *
 clear hh hc hs hk hy hf hSb hSe n3 n4 n5 ht;go_enter func213,ntmps213
 go_wp2_with fail
 generalize w.alloc (.cells #[.int .i64 8,.string (strN aZ),.slice A1 1 c1,.slice A2 body.length c2,.slice A3 els.length c3,.int .i64 aW] 145)=w0 at *
 with_reducible refine(KH.out _).mono ?_
 rintro e' w1⟨rfl,b1⟩;have y0:=zb z0 b1;have y1:=zb z1 b1;have y2:=zb z2 b1;have y3:=zb z3 b1;have y4:=zb z4 b1;have y5:=zb z5 b1;have B1:=aQ (zd BA.out b1 BA.out.size);clear z0 z1 z2 z3 z4 z5 b1 BA KH;replace KC:=aQ (KC.out _ B1.out)
 go_wp2_with fail
 with_reducible refine KC.out.mono ?_
 rintro e' w2⟨⟨v,rfl,hv⟩,b2⟩;have HV:=aQ hv;have B2:=aQ (zd B1.out b2 B1.out.size);clear hv b2 KC y0 y1 y2 y3 y4 y5;go_wp2;go_ret;exact⟨⟨_,rfl,by rw[HR.out];exact HV.out⟩,fun _=>by rw[HR.out];exact HS.out.below B2.out,zT B2.out _⟩
def zp2(op:Int)(aZ:List Nat)(aY:List Xe)(body els:List Xs)(aW:Int)(hSb:∀s∈body,SC s)(hSe:∀s∈els,SC s)(hh:zj op aY.length body.isEmpty els.isEmpty=true)(h1:¬op=1)(h2:¬op=2)(h3:¬op=3)(h4:¬op=4)(h5:¬op=5)(h8:¬op=8):SC (.mk op aZ aY body els aW):=by
 intro B cB g b fs res sc w v hc hs n3 n4 n5 hv;obtain⟨⟨K1,K2,K3⟩,rfl,ht,hk,hy,hf⟩:=hv;simp only[Xs.aZ,Xs.aY,Xs.body,Xs.els]at ht hk hy hf;obtain⟨A1,c1,rfl⟩:∃A c,K1=.slice A aY.length c:=zu hk;obtain⟨A2,c2,rfl⟩:=zt hy;obtain⟨A3,c3,rfl⟩:=zt hf;have hB:B<=w.heap.size:=by have:=hc.lt;have:=hc.hc;omega
 have BA:=aQ (za w (xsO op aZ (.slice A1 aY.length c1) (.slice A2 body.length c2) (.slice A3 els.length c3) aW));obtain⟨z0,z1,z2,z3,z4,z5⟩:=qA w op aZ (.slice A1 aY.length c1) (.slice A2 body.length c2) (.slice A3 els.length c3) aW;have KH:=aQ (xI op aZ A1 A2 A3 aY.length body.length els.length c1 c2 c3 aW);rw[<- isE,<- isE,hh]at KH;unfold xsC;simp only[Xs.op,Xs.aZ,Xs.aW,Xs.aY,Xs.body,Xs.els];have HR:=aQ (zuh (zh fs) res op aZ aY body els aW sc hh h1 h2 h3 h4 h5 h8);have HS:=aQ hs
 have HKO:Hid (∀w' fv,Below w.heap.size w w'->FitV w' fv (fun x=>x==3)->Calls prog 250 #[.pointer (some ⟨cB,0,none⟩),.slice A1 aY.length c1,.map (some b),fv] w' fun x w''=>FOut (allR (fun x=>x==3) (zE (zh fs) sc aY)) x w''/\Below w'.heap.size w' w''):=
  fun w' fv hb hf=>kn aY (fun e _=>ec e) B cB g b fs res sc w' _ fv _ (hc.below hb) (hs.below hb) (hk.same (zk hb hB)) hf
 have q1:(op==1)=false:=zI h1;have q2:(op==2)=false:=zI h2;have q3:(op==3)=false:=zI h3;have q4:(op==4)=false:=zI h4;have q5:(op==5)=false:=zI h5;have q8:(op==8)=false:=zI h8
 generalize stmM (zh fs) res (.mk op aZ aY body els aW) sc=m at *
 clear hh h1 h2 h3 h4 h5 h8 hc hs hk hy hf hSb hSe n3 n4 n5 ht;go_enter func213,ntmps213
 go_wp2_with fail
 generalize w.alloc (.cells #[.int .i64 op,.string (strN aZ),.slice A1 aY.length c1,.slice A2 body.length c2,.slice A3 els.length c3,.int .i64 aW] 145)=w0 at *
 with_reducible refine(KH.out _).mono ?_
 rintro e' w1⟨rfl,b1⟩;have y0:=zb z0 b1;have y1:=zb z1 b1;have y2:=zb z2 b1;have y3:=zb z3 b1;have y4:=zb z4 b1;have y5:=zb z5 b1;have B1:=aQ (zd BA.out b1 BA.out.size);clear z0 z1 z2 z3 z4 z5 b1 BA KH;clear y1 y3 y4 y5;go_upto_region 16 with fail
 have hbl:Below w1.heap.size w1 w1.drew:=(Below.refl _ _).drew;have HQ:Hid (∀w',Below w1.heap.size w1 w'->w'.cell? ⟨w.heap.size,2,none⟩=some (.slice A1 aY.length c1)):=fun w' hb=>zb y2 hb;clear y0 y2
 go_region_held3(fun w'=>w'.cell? ⟨w.heap.size,2,none⟩=some (.slice A1 aY.length c1))
  (with_reducible exact HQ.out _ hbl)
  (first|(go_at_call 251;refine(isC _ _).mono ?_;rintro e wn ⟨v,rfl,hf,hbn⟩;have HFT:=aQ hf.less;obtain⟨fn,caps,D,rfl,_⟩:=hf;replace hbl:=zd hbl hbn hbl.size)|(go_at_call 250;refine(HKO.out _ _ (zd B1.out hbl B1.out.size) HFT.out).mono ?_;rintro e wn2 ⟨⟨v,rfl,hv⟩,hbn2⟩;replace hbl:=zd hbl hbn2 hbl.size))
 have HV:=aQ hv;have B2:=aQ (zd B1.out hbl B1.out.size);clear hbn hbn2 hbl HQ hv HKO;go_wp2;go_ret;exact⟨⟨_,rfl,by rw[HR.out];exact HV.out⟩,fun _=>by rw[HR.out];exact HS.out.below B2.out,zT B2.out _⟩
def zvy(op:Int)(aZ:List Nat)(aY:List Xe)(body els:List Xs)(aW:Int)(hSb:∀s∈body,SC s)(hSe:∀s∈els,SC s):SC (.mk op aZ aY body els aW):=by
 cases hh:zj op aY.length body.isEmpty els.isEmpty with
 | false=>exact zol op aZ aY body els aW hSb hSe hh
 | true=>
  have hops:=znm hh;by_cases h1:op=1
  ·subst h1
   match aY,(show aY.length=1 by omega)with
   | [e],_=>exact zsw e aZ body els aW hSb hSe hh
  by_cases h8:op=8
  ·subst h8
   match aY,(show aY.length=1 by omega)with
   | [e],_=>exact ztr e aZ body els aW hSb hSe hh
  by_cases h2:op=2
  ·subst h2;exact zuo aZ aY body els aW hSb hSe hh
  by_cases h3:op=3
  ·subst h3;exact zti aZ aY body els aW hSb hSe hh
  by_cases h4:op=4
  ·subst h4;exact zs5 aZ aY body els aW hSb hSe hh
  by_cases h5:op=5
  ·subst h5;exact zsl aZ aY body els aW hSb hSe hh
  exact zp2 op aZ aY body els aW hSb hSe hh h1 h2 h3 h4 h5 h8
def zqp:∀(n:Nat) (s:Xs),SizeOf.sizeOf s<=n->SC s
 | 0,.mk op aZ aY body els aW,h=>by simp at h
 | n+1,.mk op aZ aY body els aW,h=>by
  refine zvy op aZ aY body els aW (fun s hs=>zqp n s ?_) (fun s hs=>zqp n s ?_)
  ·have:=List.sizeOf_lt_of_mem hs;simp at h;omega
  ·have:=List.sizeOf_lt_of_mem hs;simp at h;omega
def scT(s:Xs):SC s:=zqp _ s (aR _)
def XssC.get5{l:List Xs}{V:Value}(h:XssC w D l V){s:Xs}(he:l[i]? =some s):∃(kb ko c:Nat) (A1 A2 A3:Option Addr) (c1 c2 c3:Nat),V=.slice (some ⟨kb,ko,none⟩) l.length c/\l.length<=c/\c<=maxLen /\
  w.rangeAt kb (ko+i*6) (xsC s (.slice A1 s.aY.length c1) (.slice A2 s.body.length c2) (.slice A3 s.els.length c3))/\XssC w D s.body (.slice A2 s.body.length c2)/\XssC w D s.els (.slice A3 s.els.length c3):=by
 obtain⟨ks,hst⟩:=h.ks;have hi:=(vm.1 he).1;obtain⟨k,hk'⟩:∃k,ks[i]? =some k:=⟨ks[i]'(by rw[hst.len];exact hi),vp _⟩;have hg:=fun j hj=>ky (f:=fun(s:Xs) (k:qM)=>xsC s k.e k.b k.f) (m:=6) (fun _ _=>rfl) l ks i j s k he hk' hj;have x1:=hst.e i s k he hk';have x2:=hst.b i s k he hk';have x3:=hst.f i s k he hk';obtain⟨A1,c1,e1⟩:=zu x1;obtain⟨A2,c2,e2⟩:=zt x2;obtain⟨A3,c3,e3⟩:=zt x3;rw[e2]at x2;rw[e3]at x3
 obtain⟨b,o,c,rfl,a1,a2,a3,a4⟩:=hst.row.plain5 (by
  intro e0;have:=hg 0 (by omega);unfold xssC at e0;rw[e0]at this
  simp[xsC]at this)
 refine⟨b,o,c,A1,A2,A3,c1,c2,c3,rfl,a1,a2,fun j v hv=>?_,x2,x3⟩;have hj:j<6:=by
  have:=(vm.1 hv).1;simpa[xsC]using this
 rw[Nat.add_assoc];refine a4 _ v ((hg j hj).trans ?_);show(xsC s k.e k.b k.f)[j]? =_;rw[e1,e2,e3];exact hv
def dcN(op n:Int):Int:=if op=1\/op=4 then wrap64 (n+1)else n
def zqr(s:Xs)(n:Int):dcl1 s n=wrap64 (dcN s.op n+wrap64 (dcl s.body 0+dcl s.els 0)):=by
 obtain⟨op,aZ,aY,body,els,aW⟩:=s;unfold dcl1;by_cases h:op=1\/op=4<;>simp[dcN,h,Xs.op,Xs.body,Xs.els]
def zmv(s:Xs)(l:List Xs)(n:Int):dcl (s::l) n=dcl l (dcl1 s n):=by simp[dcl]
def zlq:(prog.info? 145).map (·.size)=some 6:=by kernel_rfl
def DC(l:List Xs):Prop:=∀(V:Value) (w:World) (B:Nat),B<=w.heap.size->XssC w (Lo B) l V->Calls prog 173 #[V] w fun e w'=>e=.returned (.int .i64 (dcl l 0))/\Below w.heap.size w w'
def zu0(l:List Xs)(hD:∀s∈l,DC s.body/\DC s.els):DC l:=by
 intro V w B hB hV;obtain⟨A,c,rfl⟩:=zt hV;have HV:=aQ hV;have HD:=aQ hD;have hmx:l.length<=9223372036854775807:=by obtain⟨ks,h⟩:=hV.ks;exact h.row.len5
 clear hV hD;go_enter func173,ntmps173;go_wp2
 go_loopw [3,5,8] (fun n _ i wr=>∃(k:Nat) (n':Int),k<=l.length/\i=.int .i64 k/\n=.int .i64 n'/\Hid (Below w.heap.size w wr/\dcl l 0=dcl (l.drop k) n')) (fun _ _ i _=>l.length-(intOf i).toNat)
 case atStart=>exact⟨0,0,aK _,rfl,rfl,Below.refl _ _,rfl⟩
 case round=>
  obtain⟨k,n',hk,rfl,rfl,HRel⟩:=hrel;by_cases hlt:k<l.length
  ·obtain⟨s,hs⟩:∃s,l[k]? =some s:=⟨_,vp hlt⟩;obtain⟨kb,ko,c',A1,A2,A3,c1,c2,c3,hVe,a1,a2,hrg,hy,hf⟩:=(HV.out.same (zk HRel.out.1 hB)).get5 hs;injection hVe with hV1 hV2 hV3
   subst hV1 hV3;have hDs:=HD.out s (wM hs);have hBr:B<=wr.heap.size:=by have:=HRel.out.1.size;omega
   have HRG:=aQ hrg;have BW:=aQ (za wr (xsO s.op s.aZ (.slice A1 s.aY.length c1) (.slice A2 s.body.length c2) (.slice A3 s.els.length c3) s.aW));obtain⟨z0,z1,z2,z3,z4,z5⟩:=qA wr s.op s.aZ (.slice A1 s.aY.length c1) (.slice A2 s.body.length c2) (.slice A3 s.els.length c3) s.aW;have KB:Hid (∀w',Below wr.heap.size wr w'->Calls prog 173 #[.slice A2 s.body.length c2] w' fun e w''=>e=.returned (.int .i64 (dcl s.body 0))/\Below w'.heap.size w' w''):=fun w' hb=>hDs.1 _ w' B (by have:=hb.size;omega) (hy.same (zk hb hBr));have KF:Hid (∀w',Below wr.heap.size wr w'->Calls prog 173 #[.slice A3 s.els.length c3] w' fun e w''=>e=.returned (.int .i64 (dcl s.els 0))/\Below w'.heap.size w' w''):=fun w' hb=>hDs.2 _ w' B (by have:=hb.size;omega) (hf.same (zk hb hBr));have HB3:=aQ (zd HRel.out.1 BW.out HRel.out.1.size);have HStep:Hid (dcl l 0=dcl (l.drop (k+1)) (wrap64 (dcN s.op n'+wrap64 (dcl s.body 0+dcl s.els 0)))):=by
    show _=_;rw[HRel.out.2,xw hs,zmv,zqr]
   unfold maxLen at a2
   generalize dcl l 0=DL at *
   generalize dcl s.body 0=d1 at *
   generalize dcl s.els 0=d2 at *
   unfold xsC at *
   clear hrg hy hf hDs hs hV2 HRel
   go_wp2_with(first|(refine wpList_load_mid rfl 145 (.tmp 10) rfl kb (ko+k*6) rfl [.int .i64 s.op,.string (strN s.aZ),.slice A1 s.aY.length c1,.slice A2 s.body.length c2,.slice A3 s.els.length c3,.int .i64 s.aW] _ HRG.out underlying145 rfl zlq ?_;refine Hid.out ?_)|fail)
   refine aQ ?_;go_upto_region 5 with fail
   generalize wr.alloc (.cells #[.int .i64 s.op,.string (strN s.aZ),.slice A1 s.aY.length c1,.slice A2 s.body.length c2,.slice A3 s.els.length c3,.int .i64 s.aW] 145)=w3 at *
   have key:∀(x:Int),Hid (DL=dcl (l.drop (k+1)) (wrap64 (x+wrap64 (d1+d2))))->True:=fun _ _=>trivial;by_cases ho:s.op=1\/s.op=4
   ·have hx:Hid (DL=dcl (l.drop (k+1)) (wrap64 (wrap64 (n'+1)+wrap64 (d1+d2)))):=by show _=_;rw[HStep.out,dcN,if_pos ho]
    clear HStep key;by_cases h1:s.op=1
    ·have q1:(s.op==1)=true:=by rw[beq_iff_eq];exact h1
     clear h1 ho;(go_upto_region 7 with fail);have hbl:Below w3.heap.size w3 w3.drew:=(Below.refl _ _).drew;have HQ:Hid (∀w',Below w3.heap.size w3 w'->w'.cell? ⟨wr.heap.size,3,none⟩=some (.slice A2 s.body.length c2)/\w'.cell? ⟨wr.heap.size,4,none⟩=some (.slice A3 s.els.length c3)):=fun w' hb=>⟨zb z3 hb,zb z4 hb⟩
     go_region_held3(fun w'=>w'.cell? ⟨wr.heap.size,3,none⟩=some (.slice A2 s.body.length c2)/\w'.cell? ⟨wr.heap.size,4,none⟩=some (.slice A3 s.els.length c3))
      (with_reducible exact HQ.out _ hbl)
      (first|(with_reducible refine(KB.out _ (zd BW.out hbl BW.out.size)).mono ?_;rintro e wn ⟨rfl,hbn⟩;replace hbl:=zd hbl hbn hbl.size)|(with_reducible refine(KF.out _ (zd BW.out hbl BW.out.size)).mono ?_;rintro e wn2 ⟨rfl,hbn2⟩;replace hbl:=zd hbl hbn2 hbl.size))
     have HB4:=aQ (zd HB3.out hbl HB3.out.size);clear hbl HQ z0 z1 z2 z3 z4 z5;go_wp2
     go_roundw
     case rel=>exact⟨k+1,_,by omega,by go_num,rfl,HB4.out,by simp only[IntWalk.i64_left];exact hx.out⟩
     case measure=>simp[intOf];omega
    ·have q1:(s.op==1)=false:=zI h1;have q4:(s.op==4)=true:=by rw[beq_iff_eq];omega
     clear h1 ho;(go_upto_region 7 with fail);have hbl:Below w3.heap.size w3 w3.drew:=(Below.refl _ _).drew;have HQ:Hid (∀w',Below w3.heap.size w3 w'->w'.cell? ⟨wr.heap.size,3,none⟩=some (.slice A2 s.body.length c2)/\w'.cell? ⟨wr.heap.size,4,none⟩=some (.slice A3 s.els.length c3)):=fun w' hb=>⟨zb z3 hb,zb z4 hb⟩
     go_region_held3(fun w'=>w'.cell? ⟨wr.heap.size,3,none⟩=some (.slice A2 s.body.length c2)/\w'.cell? ⟨wr.heap.size,4,none⟩=some (.slice A3 s.els.length c3))
      (with_reducible exact HQ.out _ hbl)
      (first|(with_reducible refine(KB.out _ (zd BW.out hbl BW.out.size)).mono ?_;rintro e wn ⟨rfl,hbn⟩;replace hbl:=zd hbl hbn hbl.size)|(with_reducible refine(KF.out _ (zd BW.out hbl BW.out.size)).mono ?_;rintro e wn2 ⟨rfl,hbn2⟩;replace hbl:=zd hbl hbn2 hbl.size))
     have HB4:=aQ (zd HB3.out hbl HB3.out.size);clear hbl HQ z0 z1 z2 z3 z4 z5;go_wp2
     go_roundw
     case rel=>exact⟨k+1,_,by omega,by go_num,rfl,HB4.out,by simp only[IntWalk.i64_left];exact hx.out⟩
     case measure=>simp[intOf];omega
   ·have hx:Hid (DL=dcl (l.drop (k+1)) (wrap64 (n'+wrap64 (d1+d2)))):=by show _=_;rw[HStep.out,dcN,if_neg ho]
    have q1:(s.op==1)=false:=zI (by omega);have q4:(s.op==4)=false:=zI (by omega);clear HStep key ho;(go_upto_region 7 with fail);have hbl:Below w3.heap.size w3 w3.drew:=(Below.refl _ _).drew;have HQ:Hid (∀w',Below w3.heap.size w3 w'->w'.cell? ⟨wr.heap.size,3,none⟩=some (.slice A2 s.body.length c2)/\w'.cell? ⟨wr.heap.size,4,none⟩=some (.slice A3 s.els.length c3)):=fun w' hb=>⟨zb z3 hb,zb z4 hb⟩
    go_region_held3(fun w'=>w'.cell? ⟨wr.heap.size,3,none⟩=some (.slice A2 s.body.length c2)/\w'.cell? ⟨wr.heap.size,4,none⟩=some (.slice A3 s.els.length c3))
     (with_reducible exact HQ.out _ hbl)
     (first|(with_reducible refine(KB.out _ (zd BW.out hbl BW.out.size)).mono ?_;rintro e wn ⟨rfl,hbn⟩;replace hbl:=zd hbl hbn hbl.size)|(with_reducible refine(KF.out _ (zd BW.out hbl BW.out.size)).mono ?_;rintro e wn2 ⟨rfl,hbn2⟩;replace hbl:=zd hbl hbn2 hbl.size))
    have HB4:=aQ (zd HB3.out hbl HB3.out.size);clear hbl HQ z0 z1 z2 z3 z4 z5;go_wp2
    go_roundw
    case rel=>exact⟨k+1,_,by omega,by go_num,rfl,HB4.out,by simp only[IntWalk.i64_left];exact hx.out⟩
    case measure=>simp[intOf];omega
  ·obtain rfl:k=l.length:=by omega
   have HT:Hid (dcl l 0=n'):=by show _=_;rw[HRel.out.2,List.drop_length];rfl
   have HB4:=aQ HRel.out.1;clear HRel;go_wp2;go_ret;exact⟨by rw[HT.out];rfl,HB4.out⟩
def zra:∀(n:Nat) (l:List Xs),SizeOf.sizeOf l<=n->DC l
 | 0,l,h=>by cases l<;>simp at h
 | n+1,l,h=>by
  refine zu0 l fun s hs=>?_;have h1:=List.sizeOf_lt_of_mem hs;obtain⟨op,aZ,aY,body,els,aW⟩:=s;simp at h1;exact⟨zra n _ (by show SizeOf.sizeOf body<=n;omega),zra n _ (by show SizeOf.sizeOf els<=n;omega)⟩
def dcT(l:List Xs):DC l:=zra _ l (aR _)
def zd5:∀(l:List Xs) (n:Nat) (s:Xs),l.length=n+1->l[n]? =some s->ki l=zmu s
 | [],n,s,h,_=>by simp at h
 | [x],n,s,h,hs=>by
  obtain rfl:n=0:=by simpa using h.symm
  simp at hs;subst hs;simp[ki]
 | x::y::l,0,s,h,_=>by simp at h
 | x::y::l,n+1,s,h,hs=>by
  have:=zd5 (y::l) n s (by simpa using h) (by simpa using hs);rw[<- this];simp[ki]
def zom(s:Xs):zmu s=(s.op==5 || (s.op==3&&ki s.body&&ki s.els)):=by
 obtain⟨op,aZ,aY,body,els,aW⟩:=s;simp[zmu,Xs.op,Xs.body,Xs.els]
def EndC(l:List Xs):Prop:=∀(V:Value) (w:World) (B:Nat),B<=w.heap.size->XssC w (Lo B) l V->Calls prog 175 #[V] w fun e w'=>e=.returned (.bool (ki l))/\Below w.heap.size w w'
def zvr(l:List Xs)(hD:∀s∈l,EndC s.body/\EndC s.els):EndC l:=by
 intro V w B hB hV;obtain⟨A,c,rfl⟩:=zt hV;by_cases h0:l.length=0
 ·have hl:l=[]:=List.eq_nil_of_length_eq_zero h0;have HE:Hid (ki l=false):=by show _=_;rw[hl];simp[ki]
  have q:((l.length:Int)==0)=true:=by rw[h0];rfl
  clear hV hD hl h0;go_enter func175,ntmps175;go_wp2;go_ret;exact⟨by rw[HE.out];rfl,Below.refl _ _⟩
 ·obtain⟨n,hn⟩:∃n,l.length=n+1:=⟨l.length-1,by omega⟩;obtain⟨s,hs⟩:∃s,l[n]? =some s:=⟨_,vp (by omega)⟩;obtain⟨kb,ko,c',A1,A2,A3,c1,c2,c3,hVe,a1,a2,hrg,hy,hf⟩:=hV.get5 hs;injection hVe with hV1 hV2 hV3
  subst hV1 hV3;have hDs:=hD s (wM hs);have HE:Hid (ki l=(s.op==5 || (s.op==3&&ki s.body&&ki s.els))):=by show _=_;rw[zd5 l n s hn hs,zom]
  have HRG:=aQ hrg;have BW:=aQ (za w (xsO s.op s.aZ (.slice A1 s.aY.length c1) (.slice A2 s.body.length c2) (.slice A3 s.els.length c3) s.aW));obtain⟨z0,z1,z2,z3,z4,z5⟩:=qA w s.op s.aZ (.slice A1 s.aY.length c1) (.slice A2 s.body.length c2) (.slice A3 s.els.length c3) s.aW;have KB:Hid (∀w',Below w.heap.size w w'->Calls prog 175 #[.slice A2 s.body.length c2] w' fun e w''=>e=.returned (.bool (ki s.body))/\Below w'.heap.size w' w''):=fun w' hb=>hDs.1 _ w' B (by have:=hb.size;omega) (hy.same (zk hb hB));have KF:Hid (∀w',Below w.heap.size w w'->Calls prog 175 #[.slice A3 s.els.length c3] w' fun e w''=>e=.returned (.bool (ki s.els))/\Below w'.heap.size w' w''):=fun w' hb=>hDs.2 _ w' B (by have:=hb.size;omega) (hf.same (zk hb hB));unfold maxLen at a2;rw[hn]at a1 h0;rw[show(Value.slice (some ⟨kb,ko,none⟩) l.length c)=.slice (some ⟨kb,ko,none⟩) (n+1) c by rw[hn]]
  generalize ki l=el at *
  generalize ki s.body=e1 at *
  generalize ki s.els=e2 at *
  unfold xsC at *
  clear hrg hy hf hDs hs hV2 hV hD hn h0;go_enter func175,ntmps175
  go_wp2_with(first|(refine wpList_load_mid rfl 145 (.tmp 11) rfl kb (ko+n*6) rfl [.int .i64 s.op,.string (strN s.aZ),.slice A1 s.aY.length c1,.slice A2 s.body.length c2,.slice A3 s.els.length c3,.int .i64 s.aW] _ HRG.out underlying145 rfl zlq ?_;refine Hid.out ?_)|fail)
  refine aQ ?_;go_upto_region 4 with fail
  generalize w.alloc (.cells #[.int .i64 s.op,.string (strN s.aZ),.slice A1 s.aY.length c1,.slice A2 s.body.length c2,.slice A3 s.els.length c3,.int .i64 s.aW] 145)=w3 at *
  by_cases h5:s.op=5
  ·have q5:(s.op==5)=true:=by rw[beq_iff_eq];exact h5
   have HE2:Hid (el=true):=by show _=_;rw[HE.out,q5];rfl
   clear h5 HE;go_wp2;go_ret;exact⟨by rw[HE2.out];rfl,BW.out⟩
  ·have q5:(s.op==5)=false:=zI h5;by_cases h3:s.op=3
   ·have q3:(s.op==3)=true:=by rw[beq_iff_eq];exact h3
    clear h3 h5
    go_wp2_with fail
    with_reducible refine(KB.out _ BW.out).mono ?_
    rintro e w4⟨rfl,b4⟩;have B4:=aQ (zd BW.out b4 BW.out.size);have x4:=zb z4 b4;clear b4 z0 z1 z2 z3 z4 z5 KB;cases e1 with
    | true=>
     have HE2:Hid (el=e2):=by show _=_;rw[HE.out,q5,q3];simp
     clear HE
     go_wp2_with fail
     with_reducible refine(KF.out _ B4.out).mono ?_
     rintro e w5⟨rfl,b5⟩;have B5:=aQ (zd B4.out b5 B4.out.size);clear b5 x4 KF;go_wp2;go_ret;exact⟨by rw[HE2.out];rfl,B5.out⟩
    | false=>
     have HE2:Hid (el=false):=by show _=_;rw[HE.out,q5,q3];simp
     clear HE;go_wp2;go_ret;exact⟨by rw[HE2.out];rfl,B4.out⟩
   ·have q3:(s.op==3)=false:=zI h3;have HE2:Hid (el=false):=by show _=_;rw[HE.out,q5,q3];simp
    clear h3 h5 HE;go_wp2;go_ret;exact⟨by rw[HE2.out];rfl,BW.out⟩
def zkm:∀(n:Nat) (l:List Xs),SizeOf.sizeOf l<=n->EndC l
 | 0,l,h=>by cases l<;>simp at h
 | n+1,l,h=>by
  refine zvr l fun s hs=>?_;have h1:=List.sizeOf_lt_of_mem hs;obtain⟨op,aZ,aY,body,els,aW⟩:=s;simp at h1;exact⟨zkm n _ (by show SizeOf.sizeOf body<=n;omega),zkm n _ (by show SizeOf.sizeOf els<=n;omega)⟩
def endT(l:List Xs):EndC l:=zkm _ l (aR _)
end
end
end Go.Proofs.YtcilgkdnjgmogaaGreatDoor
