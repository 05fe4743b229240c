/- A part of the proof. -/
import Derived.Test.YtcilgkdnjgmogaaGreatDoorYW
import Derived.Deep.DeepCutAuto
namespace Go.Proofs.YtcilgkdnjgmogaaGreatDoor
open Go.Proofs.Tryz
set_option maxRecDepth 100000
set_option maxHeartbeats 12800000
set_option linter.all false
variable {B R n z:Nat} {D:Nat->Prop} {w w' w'':World}
section
section
open Go.RowKit
def zsd:EntC 344:=by intro args w;simp
def jK{S:Src}{ts:List Tok}(ha:At w R S ts)(a b d:Obj):At (((w.alloc a).alloc b).alloc d) R S ts/\Below w.heap.size w (((w.alloc a).alloc b).alloc d)/\(((w.alloc a).alloc b).alloc d).heap[w.heap.size]? =some a/\(((w.alloc a).alloc b).alloc d).heap[w.heap.size+1]? =some b/\(((w.alloc a).alloc b).alloc d).heap[w.heap.size+2]? =some d/\(((w.alloc a).alloc b).alloc d).heap.size=w.heap.size+3:=by
 obtain⟨h1,h2,h3,h4,h5⟩:=yP ha a b;have hb:=za ((w.alloc a).alloc b) d;refine⟨h1.below hb (aR _),h2.trans (hb.mono h2.size),?_,?_,?_,by simp⟩
 ·rw[hb.block _ (by omega)];exact h3
 ·rw[hb.block _ (by omega)];exact h4
 ·have:=ye ((w.alloc a).alloc b) d;rw[h5]at this;exact this
def Caps(R d br bd:Nat)(w:World):Prop:=w.cell? ⟨br,0,none⟩=some (.pointer (some ⟨R,0,none⟩))/\w.cell? ⟨bd,0,none⟩=some (.int .i64 d)
def Caps.of{R d br bd:Nat}(h:Caps R d br bd w)(h1:w'.heap[br]? =w.heap[br]?)(h2:w'.heap[bd]? =w.heap[bd]?):Caps R d br bd w':=
 ⟨by rw[yp (a:=⟨br,0,none⟩) h1];exact h.1,by rw[yp (a:=⟨bd,0,none⟩) h2];exact h.2⟩
def zje(z:Nat)(e:Par Ex)(ts:List Tok):zai z e ts=(ju z 1 ts).bind fun t r=>if zC z [[40]] r then(wq z e r).bind fun l r'=>.ok (.mk 5 0 t.aZ l t.aW) r' else .ok (.mk 4 0 t.aZ [] t.aW) r:=rfl
def zvd(R:Nat)(S:Src)(d:Nat)(e:Par Ex)(he:xz R S d e)(hT:qL e)(hsm:S.all.length<=4096)(ts:List Tok)(w:World)(ha:At w R S ts):Calls prog 331 #[.pointer (some ⟨R,0,none⟩),.int .i64 d] w (Got R S (QE w.heap.size) w (zai S.z e ts)):=by
 have hmf:∀(fn:Fn) (first cap:Array Value) (w:World),(Instr.makeFunc fn first cap).run prog w=.ok (.func fn first cap) w:=fun _ _ _ _=>rfl;have hR:=ha.lt;have HE:=aQ he;have HT:=aQ hT;have HO:=aQ (jK ha (.cells #[.pointer (some ⟨R,0,none⟩)] 77) (.cells #[.int .i64 d] 3) (.cells #[.int .i64 0,.int .i64 0,.string ⟨#[]⟩,.slice none 0 0,.int .i64 0] 202));have K:=aQ (take R S ts 1 _ HO.out.1 (by omega));have HW:=aQ (zje S.z e ts);clear ha he hT
 generalize zai S.z e ts=m at *
 generalize ju S.z 1 ts=m1 at *
 go_enter func331,ntmps331
 go_wp2_with fail
 generalize((w.alloc (.cells #[.pointer (some ⟨R,0,none⟩)] 77)).alloc (.cells #[.int .i64 d] 3)).alloc (.cells #[.int .i64 0,.int .i64 0,.string ⟨#[]⟩,.slice none 0 0,.int .i64 0] 202)=w0 at *
 refine K.out.mono ?_;clear K;rintro e' w1 ⟨hm,⟨t,r,xv,rfl,rfl,hq,ha1⟩|⟨c,q,rfl,rfl⟩⟩
 ·obtain⟨_,hb0,n0,n1,n2,s0⟩:=HO.out;have s1:=hm.size;have HM1:=aQ ((zr.of_below (R:=R) hb0 (aR _)).trans hm);have bt:=za w1 (tokO t);have bk:∀b,b<w0.heap.size->b≠R->(w1.alloc (tokO t)).heap[b]? =w0.heap[b]?:=fun b h1 h2=>(bt.block b (by omega)).trans (hm.block' h1 h2);have C2:Hid (Caps R d w.heap.size (w.heap.size+1) (w1.alloc (tokO t))):=by
   constructor
   ·rw[wy _ _ _ _ _ _ ((bk _ (by omega) (by omega)).trans n0)];rfl
   ·rw[wy _ _ _ _ _ _ ((bk _ (by omega) (by omega)).trans n1)];rfl
  have Z2:=aQ (zD (cs:=[_,_,_,_,_]) (n:=5) ((bk _ (by omega) (by omega)).trans n2) rfl);have A2:=aQ (ha1.below bt (aR _));have M2:=aQ (HM1.out.below bt (aR _));have T2:=ye w1 (tokO t);have t1:(w1.alloc (tokO t)).cell? ⟨w1.heap.size,1,none⟩=some (.string (strN t.aZ)):=by rw[wy _ _ _ _ _ _ T2];rfl
  have t3:(w1.alloc (tokO t)).cell? ⟨w1.heap.size,3,none⟩=some (.int .i64 t.aW):=by rw[wy _ _ _ _ _ _ T2];rfl
  have s2:(w1.alloc (tokO t)).heap.size=w1.heap.size+1:=by simp
  subst hq;clear hm ha1 hb0 n0 n1 n2 bt bk T2 HO;simp only[tokV,tokC];have be3:=za (w1.alloc (tokO t)) (.cells #[.int .i64 4,.int .i64 0,.string (strN t.aZ),.slice none 0 0,.int .i64 t.aW] 202);have C3:=C2.out.of (be3.block _ (by omega)) (be3.block _ (by omega));have A3:=A2.out.below be3 (aR _);have E3:=aQ (ye (w1.alloc (tokO t)) (.cells #[.int .i64 4,.int .i64 0,.string (strN t.aZ),.slice none 0 0,.int .i64 t.aW] 202));have Z3:=aQ (zl Z2.out (be3.block _ (by omega)));have M3:=aQ (zr.of_below (R:=R) be3 (aR _));have s3:((w1.alloc (tokO t)).alloc (.cells #[.int .i64 4,.int .i64 0,.string (strN t.aZ),.slice none 0 0,.int .i64 t.aW] 202)).heap.size=w1.heap.size+2:=by simp
  have K:=aQ (jC R S r [[40]] _ #[.string ⟨#[40]⟩] (by rw[show(⟨#[40]⟩:ByteArray)=strN [40] by kernel_rfl];rfl) 1 rfl (by omega) A3 (by simp;unfold Byn;decide));rw[s3]at K;have HC3:=aQ C3;obtain⟨c1,c2⟩:=C3;clear A3 be3;cases hs:zC S.z [[40]] r with
  | false=>
   rw[hs]at K;have HW2:Hid (m=.ok (.mk 4 0 t.aZ [] t.aW) r):=by show _=_;rw[HW.out];simp only[Res.bind_ok];rw[hs];rfl
   clear hs
   go_wp2_with fail
   generalize w1.alloc (tokO t)=w2 at *
   generalize w2.alloc (.cells #[.int .i64 4,.int .i64 0,.string (strN t.aZ),.slice none 0 0,.int .i64 t.aW] 202)=w3 at *
   refine K.out.mono ?_;clear K;rintro e' w4 ⟨rfl,hb4,ha4⟩;have E4:=(hb4.block _ (by omega)).trans E3.out;obtain⟨l0,l1,l2,l3,l4⟩:=(ExAt.of_block (x:=.mk 4 0 t.aZ [] t.aW) (k:=.slice none 0 0) E4).cells;have z4:=aQ (zl Z3.out (hb4.block _ (by omega)));have H4:Hid (zr R w w4/\At w4 R S r):=⟨(M2.out.trans M3.out).low hb4 (by omega),ha4⟩;rw[s2]at l0 l1 l2 l3 l4;simp only[Ex.op,Ex.num,Ex.aZ,Ex.aW]at l0 l1 l2 l3 l4;have l0':w4.cell? ⟨w1.heap.size+1,0,none⟩=some (.int .i64 4):=l0;have l1':w4.cell? ⟨w1.heap.size+1,1,none⟩=some (.int .i64 0):=l1;clear hb4 ha4 E4 l0 l1
   go_wp2_with(refine zc zv rfl (.tmp 4) (.tmp 21) rfl rfl (w.heap.size+1+1) rfl [_,_,_,_,_] rfl rfl z4.out (by simp[Value.oneCell']) ?_;intro w5 g1 g2 g3 g4 g5)
   refine vS (zx (cs:=[_,_,_,_,_]) results331 underlying202 rfl zv _ _ (w.heap.size+1+1) rfl g1) rfl ?_;exact .ok (H4.out.1.low g3 (by omega)) HW2.out ⟨.slice none 0 0,rfl,ExsC.nothing _ _⟩ (H4.out.2.other (by omega) g4)
  | true=>
   rw[hs]at K;have HW2:Hid (m=(wq S.z e r).bind fun l r'=>.ok (.mk 5 0 t.aZ l t.aW) r'):=by show _=_;rw[HW.out];simp only[Res.bind_ok];rw[hs];rfl
   clear hs
   go_wp2_with fail
   generalize w1.alloc (tokO t)=w2 at *
   generalize w2.alloc (.cells #[.int .i64 4,.int .i64 0,.string (strN t.aZ),.slice none 0 0,.int .i64 t.aW] 202)=w3 at *
   refine K.out.mono ?_;clear K;rintro e' w4 ⟨rfl,hb4,ha4⟩;have E4:=(hb4.block _ (by omega)).trans E3.out;rw[s2]at E4;have hz4:=zl Z3.out (hb4.block _ (by omega));have C4:=HC3.out.of (hb4.block _ (by omega)) (hb4.block _ (by omega));have s4:=hb4.size;have M4:=M3.out.low hb4 (by omega);have l0:w4.cell? ⟨w1.heap.size+1,0,none⟩=some (.int .i64 4):=by rw[wy _ _ _ _ _ _ E4];rfl
   have f0:w4.frozen? ⟨w1.heap.size+1,0,none⟩=false:=by simp[World.frozen?,E4]
   have bs:=(Below.refl (w1.heap.size+1) w4).setCell (p:=⟨w1.heap.size+1,0,none⟩) (aR _) (.int .i64 5);have ss:(w4.setCell ⟨w1.heap.size+1,0,none⟩ (.int .i64 5)).heap.size=w4.heap.size:=by simp[World.setCell]
   have E5:(w4.setCell ⟨w1.heap.size+1,0,none⟩ (.int .i64 5)).heap[w1.heap.size+1]? =some (.cells #[.int .i64 5,.int .i64 0,.string (strN t.aZ),.slice none 0 0,.int .i64 t.aW] 202):=by
    simp only[World.setCell,Array.getElem?_modify,if_true];rw[E4];rfl
   have C5:=C4.of (bs.block _ (by omega)) (bs.block _ (by omega));have A5:=ha4.under bs (by omega);have M5:=M4.low bs (by omega);have Z5:=aQ (zl hz4 (bs.block _ (by omega)));have hcok:(⟨R,S,w2,w1.heap.size+1,w.heap.size,w.heap.size+1,w4.heap.size,t,d⟩:Nm).Ok:=⟨by show R<w2.heap.size;omega,by show w2.heap.size<=w1.heap.size+1;omega,by show w.heap.size≠R;omega,by show w.heap.size+1≠R;omega,by show w1.heap.size+1<w4.heap.size;omega,by show w.heap.size<w4.heap.size;omega,by show w.heap.size+1<w4.heap.size;omega,by show w1.heap.size+1≠w.heap.size;omega,by show w1.heap.size+1≠w.heap.size+1;omega,hsm⟩
   have hI0:(⟨R,S,w2,w1.heap.size+1,w.heap.size,w.heap.size+1,w4.heap.size,t,d⟩:Nm).I [] (w4.setCell ⟨w1.heap.size+1,0,none⟩ (.int .i64 5)):=
    ⟨by rw[ss];exact aR _,M5,C5,.slice none 0 0,⟨zZ (cs:=[_,_,_,_,_]) E5,zD (cs:=[_,_,_,_,_]) E5 rfl⟩,OwnE.nothing _ _⟩
   have hpart:zj4 R S 344 #[.pointer (some ⟨w1.heap.size+1,0,none⟩),.pointer (some ⟨w.heap.size,0,none⟩),.pointer (some ⟨w.heap.size+1,0,none⟩)] e (⟨R,S,w2,w1.heap.size+1,w.heap.size,w.heap.size+1,w4.heap.size,t,d⟩:Nm).I (zr R w2):=
    ⟨zsd,HT.out,fun l a b h hm=>h.moves hcok hm,fun l a h=>h.2.1,fun l a q h1 h2 h3=>zt6 _ hcok e HE.out l q a h1 h2 h3⟩
   have K:=aQ (list R S 344 _ e _ _ hpart r _ A5 hI0);have HZ5:=aQ ss;obtain⟨k1,k2⟩:=C5;clear hb4 ha4 E4 hz4 C4 bs A5 M5 E5 hI0 hpart M4
   (go_wp2_with fail);refine K.out.mono ?_;clear K;rintro e' w6 (⟨l,r6,hr,rfl,hI,ha6⟩|⟨c,q,hr,rfl,hj⟩)
   ·obtain⟨hlo,hmv',_,U,hE,hOwn⟩:=hI;have hmv:zr R w2 w6:=hmv';have hU:∃A cp,U=.slice A l.length cp:=by
     obtain⟨ks,_,ho,_⟩:=hOwn;exact qm ho
    obtain⟨A,cp,rfl⟩:=hU;have l0:w6.cell? ⟨w1.heap.size+1,0,none⟩=some (.int .i64 5):=hE.1 0 _ rfl;have l1:w6.cell? ⟨w1.heap.size+1,1,none⟩=some (.int .i64 0):=hE.1 1 _ rfl;have l2:w6.cell? ⟨w1.heap.size+1,2,none⟩=some (.string (strN t.aZ)):=hE.1 2 _ rfl;have l3:w6.cell? ⟨w1.heap.size+1,3,none⟩=some (.slice A l.length cp):=hE.1 3 _ rfl;have l4:w6.cell? ⟨w1.heap.size+1,4,none⟩=some (.int .i64 t.aW):=hE.1 4 _ rfl;have z6:=aQ (zl Z2.out (zr.block' (R:=R) hmv (by omega) (by omega)));have H6:Hid (zr R w w6/\At w6 R S r6/\ExsC w6 (Rng w4.heap.size w6.heap.size) l (.slice A l.length cp)/\m=.ok (.mk 5 0 t.aZ l t.aW) r6):=⟨M2.out.trans hmv,ha6,hOwn.exs,by rw[HW2.out,hr];rfl⟩;clear hlo hmv hmv' hE hOwn ha6 hr k1 k2
    go_wp2_with(refine zc zv rfl (.tmp 4) (.tmp 21) rfl rfl (w.heap.size+1+1) rfl [_,_,_,_,_] rfl rfl z6.out (by simp[Value.oneCell']) ?_;intro w7 g1 g2 g3 g4 g5)
    refine vS (zx (cs:=[_,_,_,_,_]) results331 underlying202 rfl zv _ _ (w.heap.size+1+1) rfl g1) rfl ?_;refine .ok (H6.out.1.low g3 (by omega)) H6.out.2.2.2 ⟨.slice A l.length cp,rfl,?_⟩ (H6.out.2.1.other (by omega) g4);exact(H6.out.2.2.1.same fun q h=>g4 q (by have:w4.heap.size<=q:=h.1;omega)).more fun q h=>⟨by have:w4.heap.size<=q:=h.1;omega,by rw[g5];exact h.2⟩
   ·have HQ:=aQ (M2.out.trans hj);clear hj;go_wp2;exact⟨rfl,.bad HQ.out (by rw[HW2.out,hr];rfl)⟩
 ·have HQ:=aQ ((zr.of_below (R:=R) HO.out.2.1 (aR _)).trans hm);clear hm HO;go_wp2;exact⟨rfl,.bad HQ.out HW.out⟩
structure Res0(R:Nat)(S:Src)(n:Nat)(w:World)(ts:List Tok)(w':World):Prop where
 mv:zr R w w'
 th:w'.there w.heap.size 0 n
 lt:w.heap.size<w'.heap.size
 at':At w' R S ts
def Res0.start{S:Src}{ts:List Tok}(ha:At w R S ts)(cs:List Value)(T:TypeId):Res0 R S cs.length w ts (w.alloc (.cells cs.toArray T)):=
 ⟨zr.alloc R w _,zD (cs:=cs) (ye w _) rfl,by simp,ha.below (za w _) (aR _)⟩
def Res0.moves{S:Src}{ts ts':List Tok}(h:Res0 R S n w ts w')(hm:zr R w' w'')(ha:At w'' R S ts')(hR:R<w.heap.size):Res0 R S n w ts' w'':=
 ⟨h.mv.trans hm,zl h.th (hm.block' h.lt (by omega)),aS h.lt hm.size,ha⟩
def Res0.below{S:Src}{ts:List Tok}(h:Res0 R S n w ts w')(hb:Below B w' w'')(hB:w'.heap.size<=B):Res0 R S n w ts w'':=
 ⟨h.mv.below hb hB,zl h.th (hb.block _ (aS h.lt hB)),aS h.lt hb.size,h.at'.below hb hB⟩
def zut(R:Nat)(S:Src)(d:Nat)(e:Par Ex)(he:xz R S d e)(ts:List Tok)(w:World)(ha:At w R S ts):Calls prog 332 #[.pointer (some ⟨R,0,none⟩),.int .i64 d] w (Got R S (QE w.heap.size) w (jy S.z e ts)):=by
 have hR:=ha.lt;have HE:=aQ he;have H0:=aQ (Res0.start ha [.int .i64 0,.int .i64 0,.string ⟨#[]⟩,.slice none 0 0,.int .i64 0] 202)
 have HW:Hid (jy S.z e ts=if zC S.z [[116,114,117,101]] ts then .ok (.mk 2 1 [] [] 0) ts.tail
  else if zC S.z [[102,97,108,115,101]] ts then .ok (.mk 2 0 [] [] 0) ts.tail
  else if zC S.z [[103,101,116]] ts then(qc S.z e ts.tail).bind fun l r=>.ok (.mk 8 0 [] l 0) r
  else if zC S.z [[104,97,115]] ts then(qc S.z e ts.tail).bind fun l r=>.ok (.mk 9 0 [] l 0) r
  else(qt S.z [108,101,110] ts).bind fun _ q=>(qc S.z e q).bind fun l r=>.ok (.mk 10 0 [] l 0) r):=rfl
 clear ha he
 generalize jy S.z e ts=m at *
 have K:=aQ (xA R S ts [116,114,117,101] ⟨#[116,114,117,101]⟩ _ H0.out.at' (by kernel_rfl) (by unfold Byn;decide));go_enter func332,ntmps332;cases hs0:zC S.z [[116,114,117,101]] ts with
 | true=>
  rw[hs0]at K HW;clear hs0
  go_wp2_with fail
  generalize w.alloc (.cells #[.int .i64 0,.int .i64 0,.string ⟨#[]⟩,.slice none 0 0,.int .i64 0] 202)=w0 at *
  refine K.out.mono ?_;clear K;rintro e' w1 ⟨rfl,hm,ha1⟩;have ha1':At w1 R S ts.tail:=ha1;have H1:=aQ (H0.out.moves hm ha1' hR);clear hm ha1 ha1'
  go_wp2_with(refine zc zv rfl (.tmp 4) (.tmp 8) rfl rfl w.heap.size rfl [_,_,_,_,_] rfl rfl H1.out.th (by simp[Value.oneCell']) ?_;intro w7 g1 g2 g3 g4 g5)
  refine vS (zx (cs:=[_,_,_,_,_]) results332 underlying202 rfl zv _ _ w.heap.size rfl g1) rfl ?_;exact .ok (H1.out.mv.low g3 (aR _)) (v:=.mk 2 1 [] [] 0) (by rw[HW.out];rfl) ⟨.slice none 0 0,rfl,ExsC.nothing _ _⟩ (H1.out.at'.other hR g4)
 | false=>
  rw[hs0]at K HW;clear hs0
  go_wp2_with fail
  generalize w.alloc (.cells #[.int .i64 0,.int .i64 0,.string ⟨#[]⟩,.slice none 0 0,.int .i64 0] 202)=w0 at *
  refine K.out.mono ?_;clear K;rintro e' w1 ⟨rfl,hm,ha1⟩;have ha1':At w1 R S ts:=ha1;have H1:=aQ (H0.out.moves hm ha1' hR);clear hm ha1 ha1';have K:=aQ (xA R S ts [102,97,108,115,101] ⟨#[102,97,108,115,101]⟩ _ H1.out.at' (by kernel_rfl) (by unfold Byn;decide));cases hs1:zC S.z [[102,97,108,115,101]] ts with
  | true=>
   rw[hs1]at K HW;clear hs1
   (go_wp2_with fail);refine K.out.mono ?_;clear K;rintro e' w2 ⟨rfl,hm,ha1⟩;have ha1':At w2 R S ts.tail:=ha1;have H2:=aQ (H1.out.moves hm ha1' hR);clear hm ha1 ha1'
   go_wp2_with(refine zc zv rfl (.tmp 4) (.tmp 12) rfl rfl w.heap.size rfl [_,_,_,_,_] rfl rfl H2.out.th (by simp[Value.oneCell']) ?_;intro w7 g1 g2 g3 g4 g5)
   refine vS (zx (cs:=[_,_,_,_,_]) results332 underlying202 rfl zv _ _ w.heap.size rfl g1) rfl ?_;exact .ok (H2.out.mv.low g3 (aR _)) (v:=.mk 2 0 [] [] 0) (by rw[HW.out];rfl) ⟨.slice none 0 0,rfl,ExsC.nothing _ _⟩ (H2.out.at'.other hR g4)
  | false=>
   rw[hs1]at K HW;clear hs1
   (go_wp2_with fail);refine K.out.mono ?_;clear K;rintro e' w2 ⟨rfl,hm,ha1⟩;have ha1':At w2 R S ts:=ha1;have H2:=aQ (H1.out.moves hm ha1' hR);clear hm ha1 ha1';have K:=aQ (xA R S ts [103,101,116] ⟨#[103,101,116]⟩ _ H2.out.at' (by kernel_rfl) (by unfold Byn;decide));cases hs2:zC S.z [[103,101,116]] ts with
   | true=>
    rw[hs2]at K HW;clear hs2
    (go_wp2_with fail);refine K.out.mono ?_;clear K;rintro e' w3 ⟨rfl,hm,ha1⟩;have ha1':At w3 R S ts.tail:=ha1;have H3:=aQ (H2.out.moves hm ha1' hR);clear hm ha1 ha1';have HW3:Hid (m=(qc S.z e ts.tail).bind fun l r=>.ok (.mk 8 0 [] l 0) r):=by show _=_;rw[HW.out];rfl
    have K:=aQ (vF R S d e HE.out ts.tail _ H3.out.at')
    (go_wp2_with fail);refine K.out.mono ?_;clear K;rintro e' wl ⟨hm,⟨l,rl,V,hr,rfl,hq,hal⟩|⟨c,q,hr,rfl⟩⟩
    ·obtain⟨A,cp,rfl⟩:=zq hq.exs;have HL:=aQ (H3.out.moves hm hal hR);have HX:=aQ hq.exs;have hlt:=H3.out.lt;have HR:=aQ hr;clear hm hal hq hr
     go_wp2_with(refine zc zv rfl (.tmp 4) (.tmp 19) rfl rfl w.heap.size rfl [_,_,_,_,_] rfl rfl HL.out.th (by simp[Value.oneCell']) ?_;intro w7 g1 g2 g3 g4 g5)
     refine vS (zx (cs:=[_,_,_,_,_]) results332 underlying202 rfl zv _ _ w.heap.size rfl g1) rfl ?_;refine .ok (HL.out.mv.low g3 (aR _)) (by rw[HW3.out,HR.out];rfl) ⟨.slice A l.length cp,rfl,?_⟩ (HL.out.at'.other hR g4);exact(HX.out.same fun q h=>g4 q (by have:=h.1;omega)).more fun q h=>⟨by have:=h.1;omega,by rw[g5];exact h.2⟩
    ·have HQ:=aQ (H3.out.mv.trans hm);clear hm;go_wp2;exact⟨rfl,.bad HQ.out (by rw[HW3.out,hr];rfl)⟩
   | false=>
    rw[hs2]at K HW;clear hs2
    (go_wp2_with fail);refine K.out.mono ?_;clear K;rintro e' w3 ⟨rfl,hm,ha1⟩;have ha1':At w3 R S ts:=ha1;have H3:=aQ (H2.out.moves hm ha1' hR);clear hm ha1 ha1';have K:=aQ (xA R S ts [104,97,115] ⟨#[104,97,115]⟩ _ H3.out.at' (by kernel_rfl) (by unfold Byn;decide));cases hs3:zC S.z [[104,97,115]] ts with
    | true=>
     rw[hs3]at K HW;clear hs3
     (go_wp2_with fail);refine K.out.mono ?_;clear K;rintro e' w4 ⟨rfl,hm,ha1⟩;have ha1':At w4 R S ts.tail:=ha1;have H4:=aQ (H3.out.moves hm ha1' hR);clear hm ha1 ha1';have HW4:Hid (m=(qc S.z e ts.tail).bind fun l r=>.ok (.mk 9 0 [] l 0) r):=by show _=_;rw[HW.out];rfl
     have K:=aQ (vF R S d e HE.out ts.tail _ H4.out.at')
     (go_wp2_with fail);refine K.out.mono ?_;clear K;rintro e' wl ⟨hm,⟨l,rl,V,hr,rfl,hq,hal⟩|⟨c,q,hr,rfl⟩⟩
     ·obtain⟨A,cp,rfl⟩:=zq hq.exs;have HL:=aQ (H4.out.moves hm hal hR);have HX:=aQ hq.exs;have hlt:=H4.out.lt;have HR:=aQ hr;clear hm hal hq hr
      go_wp2_with(refine zc zv rfl (.tmp 4) (.tmp 26) rfl rfl w.heap.size rfl [_,_,_,_,_] rfl rfl HL.out.th (by simp[Value.oneCell']) ?_;intro w7 g1 g2 g3 g4 g5)
      refine vS (zx (cs:=[_,_,_,_,_]) results332 underlying202 rfl zv _ _ w.heap.size rfl g1) rfl ?_;refine .ok (HL.out.mv.low g3 (aR _)) (by rw[HW4.out,HR.out];rfl) ⟨.slice A l.length cp,rfl,?_⟩ (HL.out.at'.other hR g4);exact(HX.out.same fun q h=>g4 q (by have:=h.1;omega)).more fun q h=>⟨by have:=h.1;omega,by rw[g5];exact h.2⟩
     ·have HQ:=aQ (H4.out.mv.trans hm);clear hm;go_wp2;exact⟨rfl,.bad HQ.out (by rw[HW4.out,hr];rfl)⟩
    | false=>
     rw[hs3]at K HW;clear hs3
     (go_wp2_with fail);refine K.out.mono ?_;clear K;rintro e' w4 ⟨rfl,hm,ha1⟩;have ha1':At w4 R S ts:=ha1;have H4:=aQ (H3.out.moves hm ha1' hR);clear hm ha1 ha1';have K:=aQ (want R S ts [108,101,110] ⟨#[108,101,110]⟩ _ H4.out.at' (by kernel_rfl) (by unfold Byn;decide))
     (go_wp2_with fail);refine K.out.mono ?_;clear K;rintro e' w9 ⟨hm,⟨u,r9,xv,hr,rfl,hq,ha9⟩|⟨c,q,hr,rfl⟩⟩
     ·rw[show xv=.tuple #[] from hq];have H9:=aQ (H4.out.moves hm ha9 hR);have HW9:Hid (m=(qc S.z e r9).bind fun l r=>.ok (.mk 10 0 [] l 0) r):=by show _=_;rw[HW.out,hr];rfl
      clear hm hr hq ha9;have K:=aQ (vF R S d e HE.out r9 _ H9.out.at')
      (go_wp2_with fail);refine K.out.mono ?_;clear K;rintro e' wl ⟨hm,⟨l,rl,V,hr,rfl,hq,hal⟩|⟨c,q,hr,rfl⟩⟩
      ·obtain⟨A,cp,rfl⟩:=zq hq.exs;have HL:=aQ (H9.out.moves hm hal hR);have HX:=aQ hq.exs;have hlt:=H9.out.lt;have HR:=aQ hr;clear hm hal hq hr
       go_wp2_with(refine zc zv rfl (.tmp 4) (.tmp 32) rfl rfl w.heap.size rfl [_,_,_,_,_] rfl rfl HL.out.th (by simp[Value.oneCell']) ?_;intro w7 g1 g2 g3 g4 g5)
       refine vS (zx (cs:=[_,_,_,_,_]) results332 underlying202 rfl zv _ _ w.heap.size rfl g1) rfl ?_;refine .ok (HL.out.mv.low g3 (aR _)) (by rw[HW9.out,HR.out];rfl) ⟨.slice A l.length cp,rfl,?_⟩ (HL.out.at'.other hR g4);exact(HX.out.same fun q h=>g4 q (by have:=h.1;omega)).more fun q h=>⟨by have:=h.1;omega,by rw[g5];exact h.2⟩
      ·have HQ:=aQ (H9.out.mv.trans hm);clear hm;go_wp2;exact⟨rfl,.bad HQ.out (by rw[HW9.out,hr];rfl)⟩
     ·have HQ:=aQ (H4.out.mv.trans hm);clear hm;go_wp2;exact⟨rfl,.bad HQ.out (by rw[HW.out,hr];rfl)⟩
def zec{e:Par Ex}{ts r:List Tok}{l:List Ex}(h:qc z e ts=.ok l r):∃x,l=[x]:=by
 obtain⟨a,s,h1,h2⟩:=zn h;obtain⟨b,s2,h3,h4⟩:=zn h2;obtain⟨c,s3,h5,h6⟩:=zn h4;cases h6;exact⟨b,rfl⟩
def zq2{lo:Nat}{x:Ex}{V:Value}(h:OwnE lo w [x] V):∃g cp k,V=.slice (some ⟨g,0,none⟩) 1 cp/\1<=cp/\cp<=maxLen /\
  (w.cell? ⟨g,0,none⟩=some (.int .i64 x.op)/\w.cell? ⟨g,1,none⟩=some (.int .i64 x.num)/\w.cell? ⟨g,2,none⟩=some (.string (strN x.aZ))/\w.cell? ⟨g,3,none⟩=some k/\w.cell? ⟨g,4,none⟩=some (.int .i64 x.aW))/\ExsC w (Rng lo w.heap.size) x.aX k:=by
 obtain⟨ks,hk,ho,hkid⟩:=h
 match ks,hk with
 | [k],_=>
  rcases ho.2 with⟨_,h0⟩|⟨g,cp,cur,rfl,hb,hg,hn,hm,hc,ht⟩
  ·simp at h0
  ·have c:∀j u,(exsC [x] [k])[j]? =some u->w.cell? ⟨g,j,none⟩=some u:=fun j u hu=>by
    have:=ho.cells (g:=g) rfl j u hu;rw[Addr.add_lit,Nat.zero_add]at this;exact this
   exact⟨g,cp,k,rfl,hn,hm,⟨c 0 _ rfl,c 1 _ rfl,c 2 _ rfl,c 3 _ rfl,c 4 _ rfl⟩,(hkid 0 x k rfl rfl).more fun q hq=>⟨hq.1.1,hq.2⟩⟩
def zf7(z:Nat)(e:Par Ex)(ts:List Tok)(t:Tok)(ht:qE z ts=t):kv z e ts =
 if t.kind=2 then .ok (.mk 1 t.num [] [] t.aW) ts.tail else if t.kind=3 then .ok (.mk 3 0 t.aZ [] t.aW) ts.tail
 else if t.kind=1 then zai z e ts else if zC z [[40]] ts then(qc z e ts).bind fun l r=>.ok (l.headD (.mk 0 0 [] [] 0)) r
 else(jy z e ts).bind fun x r=>.ok (x.at t.aW) r:=by
 subst ht;rfl
def vj{b:Nat}{t:Tok}(h:w.heap[b]? =some (tokO t)):w.cell? ⟨b,0,none⟩=some (.int .i64 t.kind)/\w.cell? ⟨b,1,none⟩=some (.string (strN t.aZ))/\w.cell? ⟨b,2,none⟩=some (.int .i64 t.num)/\w.cell? ⟨b,3,none⟩=some (.int .i64 t.aW):=by
 have c:∀j,w.cell? ⟨b,j,none⟩=#[Value.int .i64 t.kind,.string (strN t.aZ),.int .i64 t.num,.int .i64 t.aW][j]?:=fun j=>wy _ _ _ _ _ _ h;exact⟨c 0,c 1,c 2,c 3⟩
def zqm(R:Nat)(S:Src)(d:Nat)(hd:d<=32)(e:Par Ex)(he:xz R S (d+1) e)(hT:qL e)(hsm:S.all.length<=4096)(ts:List Tok)(w:World)(ha:At w R S ts):Calls prog 303 #[.pointer (some ⟨R,0,none⟩),.int .i64 d] w (Got R S (QE w.heap.size) w (kv S.z e ts)):=by
 have hR:=ha.lt;have hcast:((d+1:Nat):Int)=(d:Int)+1:=rfl;have H0:=aQ (Res0.start ha [.int .i64 0,.int .i64 0,.string ⟨#[]⟩,.slice none 0 0,.int .i64 0] 202);have K:=aQ (peek R S ts _ H0.out.at');have HN:=aQ (fun w1 h=>zvd R S (d+1) e he hT hsm ts w1 h);have HD:=aQ (fun w1 h=>zut R S (d+1) e he ts w1 h);have HC:=aQ (fun w1 h=>vF R S (d+1) e he ts w1 h);obtain⟨t,ht⟩:∃t,qE S.z ts=t:=⟨_,rfl⟩;have HW:=aQ (zf7 S.z e ts t ht);have HPT:=aQ ht;rw[ht]at K;simp only[tokV,tokC]at K;rw[hcast]at HN HD HC;clear ha he hT ht
 generalize kv S.z e ts=m at *
 go_enter func303,ntmps303
 go_wp2_with fail
 generalize w.alloc (.cells #[.int .i64 0,.int .i64 0,.string ⟨#[]⟩,.slice none 0 0,.int .i64 0] 202)=w0 at *
 refine K.out.mono ?_;clear K;rintro e' w1 ⟨rfl,hb1⟩;have H1:=H0.out.below hb1 (aR _);have bt:=za w1 (tokO t);have H2:=aQ (H1.below bt (aR _));have T2:=ye w1 (tokO t);have s1:=H1.lt;have hR1:=H1.at'.lt;have hRne:R≠w1.heap.size:=aL hR1;have hbne:w.heap.size≠w1.heap.size:=aL s1;have HT2:=aQ T2;clear hb1 H1 bt T2;by_cases k2:t.kind=2
 ·have hk:((t.kind:Int)==2)=true:=by rw[k2];rfl
  have HW2:Hid (m=.ok (.mk 1 t.num [] [] t.aW) ts.tail):=by show _=_;rw[HW.out,if_pos k2]
  obtain⟨i,c1,f1,hi,h4,h5⟩:=H2.out.at'.step (k:=2) (by rw[HPT.out];exact k2) (by omega);have H3:=aQ (H2.out.moves h5 h4 hR);obtain⟨_,_,q2,q3⟩:=vj HT2.out;clear h4 h5 k2;go_upto_region 4 with fail
  generalize w1.alloc (tokO t)=w2 at *
  go_wp2_with(refine zc zv rfl (.tmp 4) (.tmp 24) rfl rfl w.heap.size rfl [_,_,_,_,_] rfl rfl H3.out.th (by simp[Value.oneCell']) ?_;intro w7 g1 g2 g3 g4 g5)
  refine vS (zx (cs:=[_,_,_,_,_]) results303 underlying202 rfl zv _ _ w.heap.size rfl g1) rfl ?_;exact .ok (H3.out.mv.low g3 (aR _)) HW2.out ⟨.slice none 0 0,rfl,ExsC.nothing _ _⟩ (H3.out.at'.other hR g4)
 ·by_cases k3:t.kind=3
  ·have hk:((t.kind:Int)==2)=false:=by rw[k3];rfl
   have hk':((t.kind:Int)==3)=true:=by rw[k3];rfl
   have HW2:Hid (m=.ok (.mk 3 0 t.aZ [] t.aW) ts.tail):=by show _=_;rw[HW.out,if_neg k2,if_pos k3]
   obtain⟨i,c1,f1,hi,h4,h5⟩:=H2.out.at'.step (k:=3) (by rw[HPT.out];exact k3) (by omega);have H3:=aQ (H2.out.moves h5 h4 hR);obtain⟨_,q1,_,q3⟩:=vj HT2.out;clear h4 h5 k2 k3;go_upto_region 7 with fail
   generalize w1.alloc (tokO t)=w2 at *
   go_wp2_with(refine zc zv rfl (.tmp 4) (.tmp 38) rfl rfl w.heap.size rfl [_,_,_,_,_] rfl rfl H3.out.th (by simp[Value.oneCell']) ?_;intro w7 g1 g2 g3 g4 g5)
   refine vS (zx (cs:=[_,_,_,_,_]) results303 underlying202 rfl zv _ _ w.heap.size rfl g1) rfl ?_;exact .ok (H3.out.mv.low g3 (aR _)) HW2.out ⟨.slice none 0 0,rfl,ExsC.nothing _ _⟩ (H3.out.at'.other hR g4)
  ·have hk:((t.kind:Int)==2)=false:=by rw[yI];omega
   have hk':((t.kind:Int)==3)=false:=by rw[yI];omega
   by_cases k1:t.kind=1
   ·have hk1:((t.kind:Int)==1)=true:=by rw[k1];rfl
    have HW2:Hid (m=zai S.z e ts):=by show _=_;rw[HW.out,if_neg k2,if_neg k3,if_pos k1]
    have K:=aQ (HN.out _ H2.out.at');clear k1 k2 k3
    go_wp2_with fail
    generalize w1.alloc (tokO t)=w2 at *
    refine K.out.mono ?_;clear K;rintro e' wl ⟨hm,⟨x,rl,xv,hr,rfl,hq,hal⟩|⟨c,q,hr,rfl⟩⟩
    ·obtain⟨k,rfl,hx,_⟩:=zR hq;obtain⟨A,cp,rfl⟩:=zq hx;have HL:=aQ (H2.out.moves hm hal hR);have HX:=aQ hx;have hlt:=H2.out.lt;have HR:=aQ hr;clear hm hal hq hr hx
     go_wp2_with(refine zc zv rfl (.tmp 4) (.tmp 44) rfl rfl w.heap.size rfl [_,_,_,_,_] rfl rfl HL.out.th (by simp[Value.oneCell']) ?_;intro w7 g1 g2 g3 g4 g5)
     refine vS (zx (cs:=[_,_,_,_,_]) results303 underlying202 rfl zv _ _ w.heap.size rfl g1) rfl ?_;refine .ok (HL.out.mv.low g3 (aR _)) (by rw[HW2.out,HR.out]) ⟨_,rfl,?_⟩ (HL.out.at'.other hR g4);exact(HX.out.same fun q h=>g4 q (by have:=h.1;omega)).more fun q h=>⟨by have:=h.1;omega,by rw[g5];exact h.2⟩
    ·have HQ:=aQ (H2.out.mv.trans hm);clear hm;go_wp2;exact⟨rfl,.bad HQ.out (by rw[HW2.out,hr])⟩
   ·have hk1:((t.kind:Int)==1)=false:=by rw[yI];omega
    have HW2:Hid (m=if zC S.z [[40]] ts then(qc S.z e ts).bind fun l r=>.ok (l.headD (.mk 0 0 [] [] 0)) r else(jy S.z e ts).bind fun x r=>.ok (x.at t.aW) r):=by show _=_;rw[HW.out,if_neg k2,if_neg k3,if_neg k1]
    have K:=aQ (jC R S ts [[40]] _ #[.string ⟨#[40]⟩] (by rw[show(⟨#[40]⟩:ByteArray)=strN [40] by kernel_rfl];rfl) 1 rfl (by omega) H2.out.at' (by simp;unfold Byn;decide));have s2:(w1.alloc (tokO t)).heap.size=w1.heap.size+1:=by simp
    rw[s2]at K;clear k1 k2 k3;cases hs:zC S.z [[40]] ts with
    | true=>
     rw[hs]at K HW2;clear hs
     go_wp2_with fail
     generalize w1.alloc (tokO t)=w2 at *
     refine K.out.mono ?_;clear K;rintro e' w3 ⟨rfl,hb3,ha3⟩;have H3:=aQ (H2.out.below hb3 (by omega));have K:=aQ (HC.out _ H3.out.at');clear hb3 ha3
     (go_wp2_with fail);refine K.out.mono ?_;clear K;rintro e' wl ⟨hm,⟨l,rl,xv,hr,rfl,hq,hal⟩|⟨c,q,hr,rfl⟩⟩
     ·obtain⟨x,rfl⟩:=zec hr;obtain⟨g,cp,k,rfl,hcp,hcpm,⟨l0,l1,l2,l3,l4⟩,hx⟩:=zq2 hq;obtain⟨A,cq,rfl⟩:=zq hx;have HL:=aQ (H3.out.moves hm hal hR);have HX:=aQ hx;have hlt:=H3.out.lt;have HR:=aQ hr;clear hm hal hq hr hx
      go_wp2_with(refine zc zv rfl (.tmp 4) (.tmp 53) rfl rfl w.heap.size rfl [_,_,_,_,_] rfl rfl HL.out.th (by simp[Value.oneCell']) ?_;intro w7 g1 g2 g3 g4 g5)
      refine vS (zx (cs:=[_,_,_,_,_]) results303 underlying202 rfl zv _ _ w.heap.size rfl g1) rfl ?_;refine .ok (HL.out.mv.low g3 (aR _)) (by rw[HW2.out,HR.out];rfl) ⟨_,rfl,?_⟩ (HL.out.at'.other hR g4);exact(HX.out.same fun q h=>g4 q (by have:=h.1;omega)).more fun q h=>⟨by have:=h.1;omega,by rw[g5];exact h.2⟩
     ·have HQ:=aQ (H3.out.mv.trans hm);clear hm;go_wp2;exact⟨rfl,.bad HQ.out (by rw[HW2.out,hr];rfl)⟩
    | false=>
     rw[hs]at K HW2;clear hs
     go_wp2_with fail
     generalize w1.alloc (tokO t)=w2 at *
     refine K.out.mono ?_;clear K;rintro e' w3 ⟨rfl,hb3,ha3⟩;have H3:=aQ (H2.out.below hb3 (by omega));have T3:=aQ ((hb3.block w1.heap.size (by omega)).trans HT2.out);have s3:=hb3.size;have K:=aQ (HD.out _ H3.out.at');clear hb3 ha3
     (go_wp2_with fail);refine K.out.mono ?_;clear K;rintro e' wl ⟨hm,⟨x,rl,xv,hr,rfl,hq,hal⟩|⟨c,q,hr,rfl⟩⟩
     ·obtain⟨k,rfl,hx,_⟩:=zR hq;obtain⟨A,cp,rfl⟩:=zq hx;have HL:=H3.out.moves hm hal hR;have be4:=za wl (exO x (.slice A x.aX.length cp));have be5:=za wl (.cells #[.int .i64 x.op,.int .i64 x.num,.string (strN x.aZ),.slice A x.aX.length cp,.int .i64 t.aW] 202);have T4:=(be4.block w1.heap.size (by have:=hm.size;omega)).trans ((hm.block' (by omega) (by omega)).trans T3.out);have HL4:=aQ (HL.below be5 (aR _));obtain⟨_,_,_,q3⟩:=vj T4;have HX:=aQ (hx.same fun q h=>be5.block q h.2);have hlt:=H3.out.lt;have sl:=hm.size;have s4:(wl.alloc (.cells #[.int .i64 x.op,.int .i64 x.num,.string (strN x.aZ),.slice A x.aX.length cp,.int .i64 t.aW] 202)).heap.size=wl.heap.size+1:=by simp
      have HR:=aQ hr;have hne5:w1.heap.size≠wl.heap.size:=by omega
      clear hm hal hq hr hx be4 be5 T4 HL
      go_wp2_with(refine zc zv rfl (.tmp 4) (.tmp 61) rfl rfl w.heap.size rfl [_,_,_,_,_] rfl rfl HL4.out.th (by simp[Value.oneCell']) ?_;intro w7 g1 g2 g3 g4 g5)
      refine vS (zx (cs:=[_,_,_,_,_]) results303 underlying202 rfl zv _ _ w.heap.size rfl g1) rfl ?_;refine .ok (HL4.out.mv.low g3 (aR _)) (v:=x.at t.aW) (by rw[HW2.out,HR.out];rfl) ⟨_,rfl,?_⟩ (HL4.out.at'.other hR g4);exact(HX.out.same fun q h=>g4 q (by have:=h.1;omega)).more fun q h=>⟨by have:=h.1;omega,by rw[g5,s4];have:=h.2;omega⟩
     ·have HQ:=aQ (H3.out.mv.trans hm);clear hm;go_wp2;exact⟨rfl,.bad HQ.out (by rw[HW2.out,hr];rfl)⟩
def OneS(tb:Nat)(t:Tok)(w:World):Prop:=w.cell? ⟨tb,1,none⟩=some (.string (strN t.aZ))/\w.cell? ⟨tb,3,none⟩=some (.int .i64 t.aW)
def OneS.of{tb:Nat}{t:Tok}(h:OneS tb t w)(h1:w'.heap[tb]? =w.heap[tb]?):OneS tb t w':=
 ⟨by rw[yp (a:=⟨tb,1,none⟩) h1];exact h.1,by rw[yp (a:=⟨tb,3,none⟩) h1];exact h.2⟩
def zjx{e o:Par Ex}{ts:List Tok}(t:Tok)(ht:qE z ts=t):oneS z e o ts=if zC z sOne ts then(o ts.tail).bind fun x r=>.ok (.mk 7 0 t.aZ [x] t.aW) r else kv z e ts:=by
 subst ht;rfl
def zrg{b:Nat}{x:Ex}{k:Value}(hb:w'.heap[b]? =some (exO x k))(hlo:D b)(hx:ExsC w' D x.aX k):ExsC w' D [x] (.slice (some ⟨b,0,none⟩) 1 1):=by
 refine .mk [x] [k] _ rfl ⟨_,_,rfl,aR _,by unfold maxLen;simp,(fun e=>by cases e),fun j u hu=>⟨_,rfl,hlo,?_⟩⟩ fun i e q he hq=>?_
 ·rw[Addr.add_lit,wy _ _ _ _ _ _ hb,Nat.zero_add];simpa[exsC,exC]using hu
 ·rcases i with _|i
  ·simp at he hq;subst he hq;exact hx
  ·simp at he
def one(R:Nat)(S:Src)(d:Nat)(hd:d<=32)(e o:Par Ex)(he:xz R S (d+1) e)(hT:qL e)(ho:d+1<=32->zb5 R S (d+1) o)(hbad:32<d+1->∀ts,o ts=yG S.z 42 ts)(hsm:S.all.length<=4096)(ts:List Tok)(w:World)(ha:At w R S ts):Calls prog 286 #[.pointer (some ⟨R,0,none⟩),.int .i64 d] w (Got R S (QE w.heap.size) w (oneS S.z e o ts)):=by
 have hR:=ha.lt;have hcast:((d+1:Nat):Int)=(d:Int)+1:=rfl;have H0:=aQ (Res0.start ha [.int .i64 0,.int .i64 0,.string ⟨#[]⟩,.slice none 0 0,.int .i64 0] 202);have s0:(w.alloc (.cells #[.int .i64 0,.int .i64 0,.string ⟨#[]⟩,.slice none 0 0,.int .i64 0] 202)).heap.size=w.heap.size+1:=by simp
 have K:=aQ (jC R S ts sOne _ #[.string ⟨#[45]⟩,.string ⟨#[33]⟩] (by rw[show(⟨#[45]⟩:ByteArray)=strN [45] by kernel_rfl,show(⟨#[33]⟩:ByteArray)=strN [33] by kernel_rfl];rfl) 2 rfl (by omega) H0.out.at' (by simp[sOne];unfold Byn;decide));rw[show(w.alloc (.cells ([.int .i64 0,.int .i64 0,.string ⟨#[]⟩,.slice none 0 0,.int .i64 0]:List Value).toArray 202)).heap.size=w.heap.size+1 from s0]at K;have HP:=aQ (fun w1 h=>zqm R S d hd e he hT hsm ts w1 h);have HO:=aQ ho;have HB:=aQ hbad;obtain⟨t,ht⟩:∃t,qE S.z ts=t:=⟨_,rfl⟩;have HW:=aQ (zjx (e:=e) (o:=o) t ht);have HPT:=aQ ht;clear ha he hT ht ho hbad
 generalize oneS S.z e o ts=m at *
 cases hs:zC S.z sOne ts with
 | false=>
  rw[hs]at K HW;clear hs;go_enter func286,ntmps286
  go_wp2_with fail
  generalize w.alloc (.cells #[.int .i64 0,.int .i64 0,.string ⟨#[]⟩,.slice none 0 0,.int .i64 0] 202)=w0 at *
  refine K.out.mono ?_;clear K;rintro e' w1 ⟨rfl,hb1,ha1⟩;have H1:=aQ (H0.out.below hb1 (by omega));have K:=aQ (HP.out _ H1.out.at');have HW2:Hid (m=kv S.z e ts):=by show _=_;rw[HW.out];rfl
  clear hb1 ha1
  (go_wp2_with fail);refine K.out.mono ?_;clear K;rintro e' wl ⟨hm,⟨x,rl,xv,hr,rfl,hq,hal⟩|⟨c,q,hr,rfl⟩⟩
  ·obtain⟨k,rfl,hx,_⟩:=zR hq;obtain⟨A,cp,rfl⟩:=zq hx;have HL:=aQ (H1.out.moves hm hal hR);have HX:=aQ hx;have hlt:=H1.out.lt;have HR:=aQ hr;clear hm hal hq hr hx
   go_wp2_with(refine zc zv rfl (.tmp 4) (.tmp 12) rfl rfl w.heap.size rfl [_,_,_,_,_] rfl rfl HL.out.th (by simp[Value.oneCell']) ?_;intro w7 g1 g2 g3 g4 g5)
   refine vS (zx (cs:=[_,_,_,_,_]) results286 underlying202 rfl zv _ _ w.heap.size rfl g1) rfl ?_;refine .ok (HL.out.mv.low g3 (aR _)) (by rw[HW2.out,HR.out]) ⟨_,rfl,?_⟩ (HL.out.at'.other hR g4);exact(HX.out.same fun q h=>g4 q (by have:=h.1;omega)).more fun q h=>⟨by have:=h.1;omega,by rw[g5];exact h.2⟩
  ·have HQ:=aQ (H1.out.mv.trans hm);clear hm;go_wp2;exact⟨rfl,.bad HQ.out (by rw[HW2.out,hr])⟩
 | true=>
  have HS:=aQ hs;rw[hs]at K HW;clear hs;have htk:=yf HS.out;go_enter func286,ntmps286
  go_wp2_with fail
  generalize w.alloc (.cells #[.int .i64 0,.int .i64 0,.string ⟨#[]⟩,.slice none 0 0,.int .i64 0] 202)=w0 at *
  refine K.out.mono ?_;clear K;rintro e' w1 ⟨rfl,hb1,ha1⟩;have H1:=aQ (H0.out.below hb1 (by omega));have K:=aQ (take R S ts 4 _ H1.out.at' (by omega));rw[htk,HPT.out]at K;have HW2:Hid (m=(o ts.tail).bind fun x r=>.ok (.mk 7 0 t.aZ [x] t.aW) r):=by show _=_;rw[HW.out];rfl
  clear hb1 ha1 htk
  (go_wp2_with fail);refine K.out.mono ?_;clear K;rintro e' w2 ⟨hm,⟨t',r,xv,hr,rfl,hq,ha2⟩|⟨c,q,hr,rfl⟩⟩
  ·injection hr with e1 e2
   subst e1 e2;have H2:=H1.out.moves hm ha2 hR;have bt:=za w2 (tokO t);have H3:=aQ (H2.below bt (aR _));have T3:=aQ (ye w2 (tokO t));have s2:=H2.lt;have hR2:=H2.at'.lt;have s3:(w2.alloc (tokO t)).heap.size=w2.heap.size+1:=by simp
   subst hq;clear hm ha2 H2 bt;simp only[tokV,tokC];by_cases hdd:d+1<=32
   ·have K:=aQ (zcl R (d+1) (w2.alloc (tokO t)) hdd);rw[hcast]at K;have K2:=aQ (HO.out hdd);clear hdd
    go_wp2_with(go_at_call 146;refine K.out.mono ?_;rintro e' w4 ⟨rfl,rfl⟩)
    generalize w2.alloc (tokO t)=wt at *
    clear K;obtain⟨q0,q1,q2,q3⟩:=vj T3.out;have HS3:Hid (OneS w2.heap.size t wt):=⟨q1,q3⟩;have HSd:Hid (∀w',OneS w2.heap.size t w'->w'.cell? ⟨w2.heap.size,1,none⟩=some (.string (strN t.aZ))/\w'.cell? ⟨w2.heap.size,3,none⟩=some (.int .i64 t.aW)):=fun w' h=>h;clear q0 q1 q2 q3;have hwrap:IntKind.i64.wrap ((d:Int)+1)=(d:Int)+1:=IntWalk.i64_in _ (by omega);refine wp_region_held_drew (S:=OneS w2.heap.size t) (by kernel_rfl) (HS3.out.of rfl) (fun hHeld=>?_);refine aO 0 ?_
    try simp only[Act.put,zzs]
    refine zz8 1 ?v1 rfl (fun _ _ _ h=>h) ?y1 ?r1
    case y1=>(intro w hSw;obtain⟨q1,q2⟩:=HSd.out _ hSw;(try dsimp only at hSw);go_simp;(try with_reducible rfl))
    try simp only[Act.put,zzs]
    refine aO 2 ?_
    try simp only[Act.put,zzs]
    refine aO 3 ?_
    try simp only[Act.put,zzs]
    refine aO 4 ?_
    try simp only[Act.put,zzs]
    refine aO 7 ?_
    try simp only[Act.put,zzs]
    refine zz8 8 ?v8 rfl (fun _ _ _ h=>h) ?y8 ?r8
    case y8=>(intro w hSw;obtain⟨q1,q2⟩:=HSd.out _ hSw;(try dsimp only at hSw);go_simp;(try with_reducible rfl))
    try simp only[Act.put,zzs]
    have H3d:=aQ (H3.out.below ((Below.refl wt.heap.size wt).drew) (aR _));have K3:=aQ (K2.out wt.drew ts.tail H3d.out.at');rw[hcast]at K3;refine aa 5 rfl fun K hK=>?_;go_simp;refine K3.out.mono ?_;clear K3;rintro e' w5 ⟨hm,⟨y,r5,yv,hr,rfl,hq,ha5⟩|⟨c,q,hr,rfl⟩⟩
    ·obtain⟨k,rfl,hk,_⟩:=zR hq;have H5:=H3d.out.moves hm ha5 hR;have s5:wt.heap.size<=w5.heap.size:=hm.size;have hS5:OneS w2.heap.size t w5:=HS3.out.of (hm.block' (w:=wt.drew) (by show w2.heap.size<wt.heap.size;omega) (by omega));have HR:=aQ hr;have HK:=aQ hk;have HH5:=aQ H5;clear hm ha5 hq hr hk H5 hHeld;refine hK.out _ _ hS5 (fun hHeld=>?_);clear hK K;refine aa 6 rfl fun K hK=>?_;go_simp;have bz:=za w5 (exO y k);have H6:=aQ (HH5.out.below bz (aR _));have HZ:=aQ (ye w5 (exO y k));have hS6:=hS5.of (bz.block w2.heap.size (by omega));have X6:=aQ (HK.out.same (fun q h=>bz.block q h.2));have s6:(w5.alloc (exO y k)).heap.size=w5.heap.size+1:=by simp
     generalize w5.alloc (exO y k)=w6 at *
     refine hK.out _ _ hS6 (fun hHeld=>?_);clear hK K hS5 bz;refine aO 9 ?_
     try simp only[Act.put,zzs]
     refine aa 10 rfl fun K hK=>?_;rw[if_pos (by rfl)];refine wp_store_mid 202 (.tmp 4) (.tmp 28) rfl w.heap.size 0 #[_,_,_,_,_] rfl rfl H6.out.th zv (by simp[Value.oneCell']) ?_;have hb:=kl w.heap.size 0 [.int .i64 7,.int .i64 0,.string (strN t.aZ),.slice (some ⟨w5.heap.size,0,none⟩) 1 1,.int .i64 t.aW] w6;have hrg:=World.rangeAt_setCells_same w6 w.heap.size 0 [.int .i64 7,.int .i64 0,.string (strN t.aZ),.slice (some ⟨w5.heap.size,0,none⟩) 1 1,.int .i64 t.aW] H6.out.th
     change K _ (w6.setCells w.heap.size 0 [.int .i64 7,.int .i64 0,.string (strN t.aZ),.slice (some ⟨w5.heap.size,0,none⟩) 1 1,.int .i64 t.aW])
     generalize w6.setCells w.heap.size 0 [.int .i64 7,.int .i64 0,.string (strN t.aZ),.slice (some ⟨w5.heap.size,0,none⟩) 1 1,.int .i64 t.aW]=w7 at *
     refine hK.out _ _ (hHeld.of (hb.2.1 _ (by omega))) (fun _=>?_);clear hK K hHeld hS6;refine aJ (by kernel_rfl) ?_ _;have HB7:=aQ hb;clear hb;go_wp2;refine vS (zx (cs:=[_,_,_,_,_]) results286 underlying202 rfl zv _ _ w.heap.size rfl hrg) rfl ?_;have s7:=HB7.out.2.2;have sx:Same (Rng wt.drew.heap.size w5.heap.size) w6 w7:=fun q h1=>HB7.out.2.1 q (by have:wt.heap.size<=q:=h1.1;omega);refine .ok (H6.out.mv.low HB7.out.1 (aR _)) (by rw[HW2.out,HR.out];rfl) ⟨.slice (some ⟨w5.heap.size,0,none⟩) 1 1,rfl,?_⟩ (H6.out.at'.other hR HB7.out.2.1);show ExsC w7 _ [y] _;refine zrg (by rw[HB7.out.2.1 _ (by omega)];exact HZ.out) ⟨by omega,by omega⟩ ((X6.out.same sx).more fun k h=>⟨?_,?_⟩)
     ·have:wt.heap.size<=k:=h.1;omega
     ·have:k<w5.heap.size:=h.2;omega
    ·have HQ:=H3d.out.mv.trans hm;exact⟨rfl,.bad HQ (by rw[HW2.out,hr];rfl)⟩
   ·have K:=aQ (zah R S ts.tail (w2.alloc (tokO t)) H3.out.at' (d+1) (by omega));rw[hcast]at K;have HF:=aQ (HB.out (by omega) ts.tail);clear hdd
    go_wp2_with(go_at_call 146;refine K.out.mono ?_;rintro e' w4 ⟨rfl,hb4⟩)
    exact⟨rfl,.bad (H3.out.mv.below hb4 (aR _)) (by rw[HW2.out,HF.out];rfl)⟩
  ·cases hr
def zv5:EntC 285:=by intro args w;simp
def zve:EntC 284:=by intro args w;simp
def zsq:EntC 287:=by intro args w;simp
def zv2:EntC 257:=by intro args w;simp
def zva:EntC 255:=by intro args w;simp
structure Stay(R d br bd:Nat)(w:World):Prop where
 caps:Caps R d br bd w
 rl:br<w.heap.size
 rn:br≠R
 dl:bd<w.heap.size
 dn:bd≠R
def Stay.moves{R d br bd:Nat}(h:Stay R d br bd w)(hm:zr R w w'):Stay R d br bd w':=
 ⟨h.caps.of (hm.block' h.rl h.rn) (hm.block' h.dl h.dn),aS h.rl hm.size,h.rn,aS h.dl hm.size,h.dn⟩
def k8(R:Nat)(S:Src)(ts:List Tok)(fn:Nat)(caps:Array Value)(p:Par Ex)(ss:List (List Nat))(w:World)(cs:Array Value)(hcs:cs=(ss.map strV).toArray)(n:Nat)(hn:n=ss.length)(hn2:n<100)(ha:At w R S ts)(hp:yY R S fn caps p w)(hs:qq p)(hy:∀x∈ss,Byn x):Calls prog 256 #[.pointer (some ⟨R,0,none⟩),.func (.func fn) #[] caps,.slice (some ⟨w.heap.size,0,none⟩) n n] (w.alloc (.cells cs 9)) (Got R S (QE w.heap.size) w (xb S.z ss p ts)):=by
 subst hcs hn;have b0:=za w (.cells (ss.map strV).toArray 9);have hR:=ha.lt;refine(zql R S ts fn caps p _ ss ss.length _ (ha.below b0 (aR _)) (hp.later (zr.of_below b0 (aR _))) hs (aR _) (by unfold maxLen;omega) (zab w ss) (fun ad e=>by injection e with e;subst e;show w.heap.size≠R;omega) hy).mono ?_;rintro e w' ⟨hm,h⟩;refine⟨(zr.of_below b0 (aR _)).trans hm,?_⟩;rcases h with⟨v,r,x,h1,h2,h3,h4⟩|h
 ·exact .inl ⟨v,r,x,h1,h2,h3.more fun k hk=>⟨aT b0.size hk.1,hk.2⟩,h4⟩
 ·exact .inr h
def zu5(R:Nat)(S:Src)(d:Nat)(o:Par Ex)(ho:zb5 R S d o)(br bd:Nat)(w0:World)(hst:Stay R d br bd w0):yY R S 285 #[.pointer (some ⟨br,0,none⟩),.pointer (some ⟨bd,0,none⟩)] o w0:=by
 refine⟨zv5,fun w ts hm0 ha=>?_⟩;have hR:=ha.lt;have hst1:=hst.moves (hm0.trans (zr.alloc R w (.cells #[.int .i64 0,.int .i64 0,.string ⟨#[]⟩,.slice none 0 0,.int .i64 0] 202)));obtain⟨c1,c2⟩:=hst1.caps;have H0:=aQ (Res0.start ha [.int .i64 0,.int .i64 0,.string ⟨#[]⟩,.slice none 0 0,.int .i64 0] 202);have K:=aQ (ho _ _ H0.out.at');clear ha ho hst hm0 hst1;go_enter func285,ntmps285
 go_wp2_with fail
 refine K.out.mono ?_;clear K;rintro e' wl ⟨hm,⟨x,rl,xv,hr,rfl,hq,hal⟩|⟨cc,q,hr,rfl⟩⟩
 ·obtain⟨k,rfl,hx,_⟩:=zR hq;obtain⟨A,cp,rfl⟩:=zq hx;have HL:=aQ (H0.out.moves hm hal hR);have HX:=aQ hx;have hlt:=H0.out.lt;have HR:=aQ hr;clear hm hal hq hr hx
  go_wp2_with(refine zc zv rfl (.tmp 2) (.tmp 5) rfl rfl w.heap.size rfl [_,_,_,_,_] rfl rfl HL.out.th (by simp[Value.oneCell']) ?_;intro w7 g1 g2 g3 g4 g5)
  refine vS (zx (cs:=[_,_,_,_,_]) results285 underlying202 rfl zv _ _ w.heap.size rfl g1) rfl ?_;refine .ok (HL.out.mv.low g3 (aR _)) HR.out ⟨_,rfl,?_⟩ (HL.out.at'.other hR g4);exact(HX.out.same fun q h=>g4 q (by have:=h.1;omega)).more fun q h=>⟨by have:=h.1;omega,by rw[g5];exact h.2⟩
 ·have HQ:=aQ (H0.out.mv.trans hm);have HR:=aQ hr;clear hm hr;go_wp2;exact⟨rfl,.bad HQ.out HR.out⟩
def cmp1(R:Nat)(S:Src)(d:Nat)(o:Par Ex)(ho:zb5 R S d o)(hs:qL o)(br bd:Nat)(w0:World)(hst:Stay R d br bd w0):yY R S 284 #[.pointer (some ⟨br,0,none⟩),.pointer (some ⟨bd,0,none⟩)] (xb S.z zkq o) w0:=by
 have hmf:∀(fn:Fn) (first cap:Array Value) (w:World),(Instr.makeFunc fn first cap).run prog w=.ok (.func fn first cap) w:=fun _ _ _ _=>rfl;refine⟨zve,fun w ts hm0 ha=>?_⟩;have hR:=ha.lt;have hst1:=hst.moves (hm0.trans (zr.alloc R w (.cells #[.int .i64 0,.int .i64 0,.string ⟨#[]⟩,.slice none 0 0,.int .i64 0] 202)));obtain⟨c1,c2⟩:=hst1.caps;have H0:=aQ (Res0.start ha [.int .i64 0,.int .i64 0,.string ⟨#[]⟩,.slice none 0 0,.int .i64 0] 202);have s0:(w.alloc (.cells #[.int .i64 0,.int .i64 0,.string ⟨#[]⟩,.slice none 0 0,.int .i64 0] 202)).heap.size=w.heap.size+1:=by simp
 have K:=aQ (k8 R S ts 285 _ _ zkq _ #[.string ⟨#[42]⟩,.string ⟨#[47]⟩,.string ⟨#[37]⟩] (by rw[show(⟨#[42]⟩:ByteArray)=strN [42] by kernel_rfl,show(⟨#[47]⟩:ByteArray)=strN [47] by kernel_rfl,show(⟨#[37]⟩:ByteArray)=strN [37] by kernel_rfl];rfl) 3 rfl (by omega) H0.out.at' (zu5 R S d o ho br bd _ hst1) hs.shrinks (by simp[zkq];unfold Byn;decide));rw[show(w.alloc (.cells ([.int .i64 0,.int .i64 0,.string ⟨#[]⟩,.slice none 0 0,.int .i64 0]:List Value).toArray 202)).heap.size=w.heap.size+1 from s0]at K;clear ha hst hm0 hst1;go_enter func284,ntmps284
 go_wp2_with fail
 generalize hw0:w.alloc (.cells #[.int .i64 0,.int .i64 0,.string ⟨#[]⟩,.slice none 0 0,.int .i64 0] 202)=wz at *
 refine K.out.mono ?_;clear K;rintro e' wl ⟨hm,⟨x,rl,xv,hr,rfl,hq,hal⟩|⟨cc,q,hr,rfl⟩⟩
 ·obtain⟨k,rfl,hx,_⟩:=zR hq;obtain⟨A,cp,rfl⟩:=zq hx;have HL:=aQ (H0.out.moves hm hal hR);have HX:=aQ hx;have hlt:=H0.out.lt;have HR:=aQ hr;clear hm hal hq hr hx
  go_wp2_with(refine zc zv rfl (.tmp 2) (.tmp 6) rfl rfl w.heap.size rfl [_,_,_,_,_] rfl rfl HL.out.th (by simp[Value.oneCell']) ?_;intro w7 g1 g2 g3 g4 g5)
  refine vS (zx (cs:=[_,_,_,_,_]) results284 underlying202 rfl zv _ _ w.heap.size rfl g1) rfl ?_;refine .ok (HL.out.mv.low g3 (aR _)) HR.out ⟨_,rfl,?_⟩ (HL.out.at'.other hR g4);exact(HX.out.same fun q h=>g4 q (by have:=h.1;omega)).more fun q h=>⟨by have:=h.1;omega,by rw[g5];exact h.2⟩
 ·have HQ:=aQ (H0.out.mv.trans hm);have HR:=aQ hr;clear hm hr;go_wp2;exact⟨rfl,.bad HQ.out HR.out⟩
def cmp2(R:Nat)(S:Src)(d:Nat)(o:Par Ex)(ho:zb5 R S d o)(hs:qL o)(br bd bp:Nat)(w0:World)(hst:Stay R d br bd w0)(hbl:bp<w0.heap.size)(hbn:bp≠R)(hbp:w0.cell? ⟨bp,0,none⟩=some (.func (.func 284) #[] #[.pointer (some ⟨br,0,none⟩),.pointer (some ⟨bd,0,none⟩)])):yY R S 287 #[.pointer (some ⟨br,0,none⟩),.pointer (some ⟨bp,0,none⟩)] (sumP S.z o) w0:=by
 refine⟨zsq,fun w ts hm0 ha=>?_⟩;have hR:=ha.lt;have hm1:=hm0.trans (zr.alloc R w (.cells #[.int .i64 0,.int .i64 0,.string ⟨#[]⟩,.slice none 0 0,.int .i64 0] 202));have hst1:=hst.moves hm1;obtain⟨c1,_⟩:=hst1.caps;have c3:=(hm1.cell (a:=⟨bp,0,none⟩) hbl hbn).trans hbp;have H0:=aQ (Res0.start ha [.int .i64 0,.int .i64 0,.string ⟨#[]⟩,.slice none 0 0,.int .i64 0] 202);have s0:(w.alloc (.cells #[.int .i64 0,.int .i64 0,.string ⟨#[]⟩,.slice none 0 0,.int .i64 0] 202)).heap.size=w.heap.size+1:=by simp
 have K:=aQ (k8 R S ts 284 _ _ sSum _ #[.string ⟨#[43]⟩,.string ⟨#[45]⟩] (by rw[show(⟨#[43]⟩:ByteArray)=strN [43] by kernel_rfl,show(⟨#[45]⟩:ByteArray)=strN [45] by kernel_rfl];rfl) 2 rfl (by omega) H0.out.at' (cmp1 R S d o ho hs br bd _ hst1) (xc S.z zkq o hs).shrinks (by simp[sSum];unfold Byn;decide));rw[show(w.alloc (.cells ([.int .i64 0,.int .i64 0,.string ⟨#[]⟩,.slice none 0 0,.int .i64 0]:List Value).toArray 202)).heap.size=w.heap.size+1 from s0]at K;clear ha hst hm0 hst1 hbp hm1;go_enter func287,ntmps287
 go_wp2_with fail
 generalize hw0:w.alloc (.cells #[.int .i64 0,.int .i64 0,.string ⟨#[]⟩,.slice none 0 0,.int .i64 0] 202)=wz at *
 refine K.out.mono ?_;clear K;rintro e' wl ⟨hm,⟨x,rl,xv,hr,rfl,hq,hal⟩|⟨cc,q,hr,rfl⟩⟩
 ·obtain⟨k,rfl,hx,_⟩:=zR hq;obtain⟨A,cp,rfl⟩:=zq hx;have HL:=aQ (H0.out.moves hm hal hR);have HX:=aQ hx;have hlt:=H0.out.lt;have HR:=aQ hr;clear hm hal hq hr hx
  go_wp2_with(refine zc zv rfl (.tmp 2) (.tmp 6) rfl rfl w.heap.size rfl [_,_,_,_,_] rfl rfl HL.out.th (by simp[Value.oneCell']) ?_;intro w7 g1 g2 g3 g4 g5)
  refine vS (zx (cs:=[_,_,_,_,_]) results287 underlying202 rfl zv _ _ w.heap.size rfl g1) rfl ?_;refine .ok (HL.out.mv.low g3 (aR _)) HR.out ⟨_,rfl,?_⟩ (HL.out.at'.other hR g4);exact(HX.out.same fun q h=>g4 q (by have:=h.1;omega)).more fun q h=>⟨by have:=h.1;omega,by rw[g5];exact h.2⟩
 ·have HQ:=aQ (H0.out.mv.trans hm);have HR:=aQ hr;clear hm hr;go_wp2;exact⟨rfl,.bad HQ.out HR.out⟩
def zcd(w:World)(n:Nat)(hn:n=w.heap.size)(u v:Value)(T:TypeId)(hv:v.oneCell'=true):(store ⟨n,0,none⟩ v).run prog (w.alloc (.cells #[u] T))=.ok () (w.alloc (.cells #[v] T)):=by
 subst hn;rw[run_store _ _ _ _ _ hv];simp[go_sem]
def zgb(z:Nat)(o:Par Ex)(ts:List Tok):kz z o ts=(sumP z o ts).bind fun x r=>if zC z sCmp r then xN z (sumP z o) x r else .ok x r:=rfl
def zht(R:Nat)(S:Src)(d:Nat)(o:Par Ex)(ho:zb5 R S d o)(hs:qL o)(ts:List Tok)(w:World)(ha:At w R S ts):Calls prog 258 #[.pointer (some ⟨R,0,none⟩),.int .i64 d] w (Got R S (QE w.heap.size) w (kz S.z o ts)):=by
 have hmf:∀(fn:Fn) (first cap:Array Value) (w:World),(Instr.makeFunc fn first cap).run prog w=.ok (.func fn first cap) w:=fun _ _ _ _=>rfl;have he:=zsq;unfold EntC at he;have hR:=ha.lt;obtain⟨a0,b0,n0,n1,n2,s0⟩:=jK ha (.cells #[.pointer (some ⟨R,0,none⟩)] 77) (.cells #[.int .i64 d] 3) (.cells #[.int .i64 0,.int .i64 0,.string ⟨#[]⟩,.slice none 0 0,.int .i64 0] 202);have HW:=aQ (zgb S.z o ts)
 generalize hw0:((w.alloc (.cells #[.pointer (some ⟨R,0,none⟩)] 77)).alloc (.cells #[.int .i64 d] 3)).alloc (.cells #[.int .i64 0,.int .i64 0,.string ⟨#[]⟩,.slice none 0 0,.int .i64 0] 202)=w0 at *
 have b1:=za w0 (.cells #[.func (.func 284) #[] #[.pointer (some ⟨w.heap.size,0,none⟩),.pointer (some ⟨w.heap.size+1,0,none⟩)]] 301);have N3:=ye w0 (.cells #[.func (.func 284) #[] #[.pointer (some ⟨w.heap.size,0,none⟩),.pointer (some ⟨w.heap.size+1,0,none⟩)]] 301);have s1:(w0.alloc (.cells #[.func (.func 284) #[] #[.pointer (some ⟨w.heap.size,0,none⟩),.pointer (some ⟨w.heap.size+1,0,none⟩)]] 301)).heap.size=w0.heap.size+1:=by simp
 have hst:Stay R d w.heap.size (w.heap.size+1) (w0.alloc (.cells #[.func (.func 284) #[] #[.pointer (some ⟨w.heap.size,0,none⟩),.pointer (some ⟨w.heap.size+1,0,none⟩)]] 301)):=
  ⟨⟨by rw[wy _ _ _ _ _ _ ((b1.block _ (by omega)).trans n0)];rfl,by rw[wy _ _ _ _ _ _ ((b1.block _ (by omega)).trans n1)];rfl⟩,by omega,by omega,by omega,by omega⟩
 have HP:=aQ (cmp2 R S d o ho hs w.heap.size (w.heap.size+1) w0.heap.size _ hst (by omega) (by omega) (by rw[wy _ _ _ _ _ _ N3];rfl));have A1:=a0.below b1 (aR _);have K:=aQ (HP.out.2 _ ts (zr.refl _ _) A1);have HST:=aQ hst;have M1:=aQ ((zr.of_below (R:=R) b0 (aR _)).below b1 (aR _));have Z1:=aQ (zD (cs:=[_,_,_,_,_]) (n:=5) ((b1.block _ (by omega)).trans n2) rfl);subst hw0;rw[s0]at K HP;clear ha a0 b0 n0 n1 n2 b1 N3 hst A1 ho;have hsn:=zcd (((w.alloc (.cells #[.pointer (some ⟨R,0,none⟩)] 77)).alloc (.cells #[.int .i64 d] 3)).alloc (.cells #[.int .i64 0,.int .i64 0,.string ⟨#[]⟩,.slice none 0 0,.int .i64 0] 202)) (w.heap.size+3) (by simp) .nilFunc (.func (.func 284) #[] #[.pointer (some ⟨w.heap.size,0,none⟩),.pointer (some ⟨w.heap.size+1,0,none⟩)]) 301 rfl
 generalize kz S.z o ts=m at *
 go_enter func258,ntmps258
 go_wp2_with fail
 rw[s0]at s1;clear hsn s0
 generalize(((w.alloc (.cells #[.pointer (some ⟨R,0,none⟩)] 77)).alloc (.cells #[.int .i64 d] 3)).alloc (.cells #[.int .i64 0,.int .i64 0,.string ⟨#[]⟩,.slice none 0 0,.int .i64 0] 202)).alloc (.cells #[.func (.func 284) #[] #[.pointer (some ⟨w.heap.size,0,none⟩),.pointer (some ⟨w.heap.size+1,0,none⟩)]] 301)=W1 at *
 refine K.out.mono ?_;clear K;rintro e' w2 ⟨hm,⟨x,r,xv,hr,rfl,hq,ha2⟩|⟨cc,q,hr,rfl⟩⟩
 ·obtain⟨k,rfl,hx,_⟩:=zR hq;obtain⟨A,cp,rfl⟩:=zq hx;have s2:=hm.size;have bt:=za w2 (exO x (.slice A x.aX.length cp));have mt:=hm.below bt (aR _);have HW2:Hid (m=if zC S.z sCmp r then xN S.z (sumP S.z o) x r else .ok x r):=by show _=_;rw[HW.out,hr];rfl
  have A3:=aQ (ha2.below bt (aR _));have M3:=aQ (M1.out.trans mt);have MT:=aQ mt;have ST3:=HST.out.moves mt;have Z3:=aQ (zl Z1.out (mt.block' (k:=w.heap.size+1+1) (by omega) (by omega)));have X3:=aQ (hx.same fun q h=>bt.block q h.2);have L3:=aQ (ExAt.of_block (ye w2 (exO x (.slice A x.aX.length cp))));have s3:(w2.alloc (exO x (.slice A x.aX.length cp))).heap.size=w2.heap.size+1:=by simp
  have K:=aQ (jC R S r sCmp _ #[.string ⟨#[61,61]⟩,.string ⟨#[33,61]⟩,.string ⟨#[60]⟩,.string ⟨#[60,61]⟩,.string ⟨#[62]⟩,.string ⟨#[62,61]⟩] (by rw[show(⟨#[61,61]⟩:ByteArray)=strN [61,61] by kernel_rfl,show(⟨#[33,61]⟩:ByteArray)=strN [33,61] by kernel_rfl,show(⟨#[60]⟩:ByteArray)=strN [60] by kernel_rfl,show(⟨#[60,61]⟩:ByteArray)=strN [60,61] by kernel_rfl,show(⟨#[62]⟩:ByteArray)=strN [62] by kernel_rfl,show(⟨#[62,61]⟩:ByteArray)=strN [62,61] by kernel_rfl];rfl) 6 rfl (by omega) A3.out (by simp[sCmp];unfold Byn;decide));rw[s3]at K;obtain⟨c1,_⟩:=ST3.caps;have HST3:=aQ ST3;clear hm hr hq hx ha2 bt mt ST3;cases hsee:zC S.z sCmp r with
  | false=>
   rw[hsee]at K HW2;clear hsee
   go_wp2_with fail
   generalize w2.alloc (exO x (.slice A x.aX.length cp))=w3 at *
   refine K.out.mono ?_;clear K;rintro e' w4 ⟨rfl,hb4,ha4⟩;have L4:=L3.out.of (hb4.block _ (by omega));obtain⟨l0,l1,l2,l3,l4⟩:=L4.cells;have z4:=aQ (zl Z3.out (hb4.block _ (by omega)));have H4:Hid (zr R w w4/\At w4 R S r/\ExsC w4 (Rng W1.heap.size w2.heap.size) x.aX (.slice A x.aX.length cp)):=⟨M3.out.low hb4 (by omega),ha4,X3.out.same fun q h=>hb4.block q (by have:=h.2;omega)⟩;have s4:=hb4.size;clear hb4 ha4 L4 c1
   go_wp2_with(refine zc zv rfl (.tmp 4) (.tmp 16) rfl rfl (w.heap.size+1+1) rfl [_,_,_,_,_] rfl rfl z4.out (by simp[Value.oneCell']) ?_;intro w7 g1 g2 g3 g4 g5)
   refine vS (zx (cs:=[_,_,_,_,_]) results258 underlying202 rfl zv _ _ (w.heap.size+1+1) rfl g1) rfl ?_;refine .ok (H4.out.1.low g3 (by omega)) (by rw[HW2.out];rfl) ⟨_,rfl,?_⟩ (H4.out.2.1.other (by omega) g4);exact(H4.out.2.2.same fun q h=>g4 q (by have:=h.1;omega)).more fun q h=>⟨by have:=h.1;omega,by rw[g5];have:=h.2;omega⟩
  | true=>
   rw[hsee]at K HW2;have HW3:Hid (m=xN S.z (sumP S.z o) x r):=by show _=_;rw[HW2.out];rfl
   clear hsee HW2
   go_wp2_with fail
   generalize w2.alloc (exO x (.slice A x.aX.length cp))=w3 at *
   refine K.out.mono ?_;clear K;rintro e' w4 ⟨rfl,hb4,ha4⟩;have L4:=L3.out.of (hb4.block _ (by omega));obtain⟨l0,l1,l2,l3,l4⟩:=L4.cells;have z4:=aQ (zl Z3.out (hb4.block _ (by omega)));have s4:=hb4.size;have M4:=aQ (M3.out.low hb4 (by omega));have mt4:=MT.out.low hb4 (by omega);have c4:=(HST.out.moves mt4).caps.1;have K:=aQ (zpc R S r 287 _ (sumP S.z o) (Rng W1.heap.size w2.heap.size) x _ w4 ha4 (HP.out.later mt4) (fun q h=>⟨by have:=h.2;omega,by have:=h.1;omega⟩) ⟨_,rfl,X3.out.same fun q h=>hb4.block q (by have:=h.2;omega)⟩);simp only[exC]at K;clear hb4 ha4 L4 c1 mt4
   (go_wp2_with fail);refine K.out.mono ?_;clear K l0 l1 l2 l3 l4 c4;rintro e' w5 ⟨hm,⟨y,r5,yv,hr,rfl,hq,ha5⟩|⟨cc,q,hr,rfl⟩⟩
   ·obtain⟨k,rfl,hy,_⟩:=zR hq;obtain⟨A5,c5,rfl⟩:=zq hy;have s5:=hm.size;have z5:=aQ (zl z4.out (hm.block' (k:=w.heap.size+1+1) (by omega) (by omega)));have H5:Hid (zr R w w5/\At w5 R S r5/\ExsC w5 _ y.aX (.slice A5 y.aX.length c5)/\m=.ok y r5):=⟨M4.out.trans hm,ha5,hy,by rw[HW3.out,hr]⟩;clear hm hr hq ha5 hy
    go_wp2_with(refine zc zv rfl (.tmp 4) (.tmp 20) rfl rfl (w.heap.size+1+1) rfl [_,_,_,_,_] rfl rfl z5.out (by simp[Value.oneCell']) ?_;intro w7 g1 g2 g3 g4 g5)
    refine vS (zx (cs:=[_,_,_,_,_]) results258 underlying202 rfl zv _ _ (w.heap.size+1+1) rfl g1) rfl ?_;refine .ok (H5.out.1.low g3 (by omega)) H5.out.2.2.2 ⟨_,rfl,?_⟩ (H5.out.2.1.other (by omega) g4);refine(H5.out.2.2.1.same fun q h=>g4 q ?_).more fun q h=>⟨?_,?_⟩
    ·rcases h with h|h
     ·have:=h.1;omega
     ·have:=h.1;omega
    ·rcases h with h|h
     ·have:=h.1;omega
     ·have:=h.1;omega
    ·rw[g5];rcases h with h|h
     ·have:=h.2;omega
     ·exact h.2
   ·have HQ:=aQ (M4.out.trans hm);have HR:=aQ hr;clear hm hr;go_wp2;exact⟨rfl,.bad HQ.out (by rw[HW3.out,HR.out])⟩
 ·have HQ:=aQ (M1.out.trans hm);have HR:=aQ hr;clear hm hr;go_wp2;exact⟨rfl,.bad HQ.out (by rw[HW.out,HR.out];rfl)⟩
def zuu(R:Nat)(S:Src)(d:Nat)(o:Par Ex)(hcmp:∀w ts,At w R S ts->Calls prog 258 #[.pointer (some ⟨R,0,none⟩),.int .i64 d] w (Got R S (QE w.heap.size) w (o ts)))(br bd:Nat)(w0:World)(hst:Stay R d br bd w0):yY R S 257 #[.pointer (some ⟨br,0,none⟩),.pointer (some ⟨bd,0,none⟩)] o w0:=by
 refine⟨zv2,fun w ts hm0 ha=>?_⟩;have hR:=ha.lt;have hst1:=hst.moves (hm0.trans (zr.alloc R w (.cells #[.int .i64 0,.int .i64 0,.string ⟨#[]⟩,.slice none 0 0,.int .i64 0] 202)));obtain⟨c1,c2⟩:=hst1.caps;have H0:=aQ (Res0.start ha [.int .i64 0,.int .i64 0,.string ⟨#[]⟩,.slice none 0 0,.int .i64 0] 202);have K:=aQ (hcmp _ _ H0.out.at');clear ha hcmp hst hm0 hst1;go_enter func257,ntmps257
 go_wp2_with fail
 refine K.out.mono ?_;clear K;rintro e' wl ⟨hm,⟨x,rl,xv,hr,rfl,hq,hal⟩|⟨cc,q,hr,rfl⟩⟩
 ·obtain⟨k,rfl,hx,_⟩:=zR hq;obtain⟨A,cp,rfl⟩:=zq hx;have HL:=aQ (H0.out.moves hm hal hR);have HX:=aQ hx;have hlt:=H0.out.lt;have HR:=aQ hr;clear hm hal hq hr hx
  go_wp2_with(refine zc zv rfl (.tmp 2) (.tmp 5) rfl rfl w.heap.size rfl [_,_,_,_,_] rfl rfl HL.out.th (by simp[Value.oneCell']) ?_;intro w7 g1 g2 g3 g4 g5)
  refine vS (zx (cs:=[_,_,_,_,_]) results257 underlying202 rfl zv _ _ w.heap.size rfl g1) rfl ?_;refine .ok (HL.out.mv.low g3 (aR _)) HR.out ⟨_,rfl,?_⟩ (HL.out.at'.other hR g4);exact(HX.out.same fun q h=>g4 q (by have:=h.1;omega)).more fun q h=>⟨by have:=h.1;omega,by rw[g5];exact h.2⟩
 ·have HQ:=aQ (H0.out.mv.trans hm);have HR:=aQ hr;clear hm hr;go_wp2;exact⟨rfl,.bad HQ.out HR.out⟩
def zvb(R:Nat)(S:Src)(d:Nat)(o:Par Ex)(ho:zb5 R S d o)(hs:qL o)(br bd:Nat)(w0:World)(hst:Stay R d br bd w0):yY R S 255 #[.pointer (some ⟨br,0,none⟩),.pointer (some ⟨bd,0,none⟩)] (xb S.z sAnd (kz S.z o)) w0:=by
 have hmf:∀(fn:Fn) (first cap:Array Value) (w:World),(Instr.makeFunc fn first cap).run prog w=.ok (.func fn first cap) w:=fun _ _ _ _=>rfl;refine⟨zva,fun w ts hm0 ha=>?_⟩;have hR:=ha.lt;have hst1:=hst.moves (hm0.trans (zr.alloc R w (.cells #[.int .i64 0,.int .i64 0,.string ⟨#[]⟩,.slice none 0 0,.int .i64 0] 202)));obtain⟨c1,c2⟩:=hst1.caps;have H0:=aQ (Res0.start ha [.int .i64 0,.int .i64 0,.string ⟨#[]⟩,.slice none 0 0,.int .i64 0] 202);have s0:(w.alloc (.cells #[.int .i64 0,.int .i64 0,.string ⟨#[]⟩,.slice none 0 0,.int .i64 0] 202)).heap.size=w.heap.size+1:=by simp
 have K:=aQ (k8 R S ts 257 _ _ sAnd _ #[.string ⟨#[38,38]⟩] (by rw[show(⟨#[38,38]⟩:ByteArray)=strN [38,38] by kernel_rfl];rfl) 1 rfl (by omega) H0.out.at' (zuu R S d (kz S.z o) (fun w ts h=>zht R S d o ho hs ts w h) br bd _ hst1) (kR S.z o hs).shrinks (by simp[sAnd];unfold Byn;decide));rw[show(w.alloc (.cells ([.int .i64 0,.int .i64 0,.string ⟨#[]⟩,.slice none 0 0,.int .i64 0]:List Value).toArray 202)).heap.size=w.heap.size+1 from s0]at K;clear ha hst hm0 hst1;go_enter func255,ntmps255
 go_wp2_with fail
 generalize hw0:w.alloc (.cells #[.int .i64 0,.int .i64 0,.string ⟨#[]⟩,.slice none 0 0,.int .i64 0] 202)=wz at *
 refine K.out.mono ?_;clear K;rintro e' wl ⟨hm,⟨x,rl,xv,hr,rfl,hq,hal⟩|⟨cc,q,hr,rfl⟩⟩
 ·obtain⟨k,rfl,hx,_⟩:=zR hq;obtain⟨A,cp,rfl⟩:=zq hx;have HL:=aQ (H0.out.moves hm hal hR);have HX:=aQ hx;have hlt:=H0.out.lt;have HR:=aQ hr;clear hm hal hq hr hx
  go_wp2_with(refine zc zv rfl (.tmp 2) (.tmp 6) rfl rfl w.heap.size rfl [_,_,_,_,_] rfl rfl HL.out.th (by simp[Value.oneCell']) ?_;intro w7 g1 g2 g3 g4 g5)
  refine vS (zx (cs:=[_,_,_,_,_]) results255 underlying202 rfl zv _ _ w.heap.size rfl g1) rfl ?_;refine .ok (HL.out.mv.low g3 (aR _)) HR.out ⟨_,rfl,?_⟩ (HL.out.at'.other hR g4);exact(HX.out.same fun q h=>g4 q (by have:=h.1;omega)).more fun q h=>⟨by have:=h.1;omega,by rw[g5];exact h.2⟩
 ·have HQ:=aQ (H0.out.mv.trans hm);have HR:=aQ hr;clear hm hr;go_wp2;exact⟨rfl,.bad HQ.out HR.out⟩
def expr(R:Nat)(S:Src)(d:Nat)(hd:d<=32)(o:Par Ex)(ho:zb5 R S d o)(hs:qL o):xz R S d (wT S.z o):=by
 intro w ts ha;have hmf:∀(fn:Fn) (first cap:Array Value) (w:World),(Instr.makeFunc fn first cap).run prog w=.ok (.func fn first cap) w:=fun _ _ _ _=>rfl;have hR:=ha.lt;obtain⟨a0,b0,n0,n1,n2,s0⟩:=jK ha (.cells #[.pointer (some ⟨R,0,none⟩)] 77) (.cells #[.int .i64 d] 3) (.cells #[.int .i64 0,.int .i64 0,.string ⟨#[]⟩,.slice none 0 0,.int .i64 0] 202)
 have hst:Stay R d w.heap.size (w.heap.size+1) (((w.alloc (.cells #[.pointer (some ⟨R,0,none⟩)] 77)).alloc (.cells #[.int .i64 d] 3)).alloc (.cells #[.int .i64 0,.int .i64 0,.string ⟨#[]⟩,.slice none 0 0,.int .i64 0] 202)):=
  ⟨⟨by rw[wy _ _ _ _ _ _ n0];rfl,by rw[wy _ _ _ _ _ _ n1];rfl⟩,by omega,by omega,by omega,by omega⟩
 have K0:=aQ (zcl R d (((w.alloc (.cells #[.pointer (some ⟨R,0,none⟩)] 77)).alloc (.cells #[.int .i64 d] 3)).alloc (.cells #[.int .i64 0,.int .i64 0,.string ⟨#[]⟩,.slice none 0 0,.int .i64 0] 202)) hd);have K:=aQ (k8 R S ts 255 _ _ sOr _ #[.string ⟨#[124,124]⟩] (by rw[show(⟨#[124,124]⟩:ByteArray)=strN [124,124] by kernel_rfl];rfl) 1 rfl (by omega) a0 (zvb R S d o ho hs w.heap.size (w.heap.size+1) _ hst) (xc S.z sAnd _ (kR S.z o hs)).shrinks (by simp[sOr];unfold Byn;decide));rw[s0]at K;have M0:=aQ (zr.of_below (R:=R) b0 (aR _));have Z0:=aQ (zD (cs:=[_,_,_,_,_]) (n:=5) n2 rfl);have HW:Hid (wT S.z o ts=xb S.z sOr (xb S.z sAnd (kz S.z o)) ts):=rfl;obtain⟨c1,c2⟩:=hst.caps
 generalize wT S.z o ts=m at *
 clear ha a0 b0 n0 n1 n2 hst ho hd;go_enter func220,ntmps220
 go_wp2_with(go_at_call 146;refine K0.out.mono ?_;rintro e' w4 ⟨rfl,rfl⟩)
 generalize((w.alloc (.cells #[.pointer (some ⟨R,0,none⟩)] 77)).alloc (.cells #[.int .i64 d] 3)).alloc (.cells #[.int .i64 0,.int .i64 0,.string ⟨#[]⟩,.slice none 0 0,.int .i64 0] 202)=W1 at *
 clear K0 c1 c2;refine K.out.mono ?_;clear K;rintro e' w2 ⟨hm,⟨x,r,xv,hr,rfl,hq,ha2⟩|⟨cc,q,hr,rfl⟩⟩
 ·obtain⟨k,rfl,hx,_⟩:=zR hq;obtain⟨A,cp,rfl⟩:=zq hx;have z2:=aQ (zl Z0.out (hm.block' (k:=w.heap.size+2) (by omega) (by omega)));have H2:Hid (zr R w w2/\At w2 R S r/\ExsC w2 (Rng (w.heap.size+3) w2.heap.size) x.aX (.slice A x.aX.length cp)/\m=.ok x r):=⟨M0.out.trans hm,ha2,hx,by rw[HW.out,hr]⟩;clear hm hr hq hx ha2
  go_wp2_with(refine zc zv rfl (.tmp 4) (.tmp 13) rfl rfl (w.heap.size+1+1) rfl [_,_,_,_,_] rfl rfl z2.out (by simp[Value.oneCell']) ?_;intro w7 g1 g2 g3 g4 g5)
  refine vS (zx (cs:=[_,_,_,_,_]) results220 underlying202 rfl zv _ _ (w.heap.size+1+1) rfl g1) rfl ?_;refine .ok (H2.out.1.low g3 (by omega)) H2.out.2.2.2 ⟨_,rfl,?_⟩ (H2.out.2.1.other (by omega) g4);exact(H2.out.2.2.1.same fun q h=>g4 q (by have:=h.1;omega)).more fun q h=>⟨by have:=h.1;omega,by rw[g5];exact h.2⟩
 ·have HQ:=aQ (M0.out.trans hm);have HR:=aQ hr;clear hm hr;go_wp2;exact⟨rfl,.bad HQ.out (by rw[HW.out,HR.out])⟩
def zl6(R:Nat)(S:Src)(d:Nat)(hd:32<d):xz R S d (fun ts=>yG S.z 42 ts):=by
 intro w ts ha;obtain⟨a0,b0,n0,n1,n2,s0⟩:=jK ha (.cells #[.pointer (some ⟨R,0,none⟩)] 77) (.cells #[.int .i64 d] 3) (.cells #[.int .i64 0,.int .i64 0,.string ⟨#[]⟩,.slice none 0 0,.int .i64 0] 202);have K0:=aQ (zah R S ts _ a0 d hd);have M0:=aQ (zr.of_below (R:=R) b0 (aR _));clear ha a0 b0 n0 n1 n2 s0 hd;go_enter func220,ntmps220
 go_wp2_with(go_at_call 146;refine K0.out.mono ?_;rintro e' w4 ⟨rfl,hb⟩)
 exact⟨rfl,.bad (M0.out.below hb (aR _)) rfl⟩
def zj5(R:Nat)(S:Src)(hsm:S.all.length<=4096):∀g,g<=32->xz R S (33-g) (zin S.z g)/\(0<g->zb5 R S (33-g) (oneP S.z g))
 | 0,_=>⟨zl6 R S 33 (by omega),fun h=>absurd h (by omega)⟩
 | g+1,hg=>by
  have ih:=zj5 R S hsm g (by omega);have e1:33-(g+1)+1=33-g:=by omega
  have ho:zb5 R S (33-(g+1)) (oneP S.z (g+1)):=fun w ts ha=>one R S (33-(g+1)) (by omega) (zin S.z g) (oneP S.z g) (by rw[e1];exact ih.1) (yb S.z g) (fun h=>by rw[e1];exact ih.2 (by omega)) (fun h ts=>by
   have:g=0:=by omega
   subst this
   rfl) hsm ts w ha
  exact⟨expr R S (33-(g+1)) (by omega) (oneP S.z (g+1)) ho (yc S.z (g+1)).2,fun _=>ho⟩
def zp8(R:Nat)(S:Src)(hsm:S.all.length<=4096)(d:Nat)(hd:1<=d)(hd2:d<=33):xz R S d (zin S.z (33-d)):=by
 have:=(zj5 R S hsm (33-d) (by omega)).1;rw[show 33-(33-d)=d by omega]at this;exact this
end
end
end Go.Proofs.YtcilgkdnjgmogaaGreatDoor
