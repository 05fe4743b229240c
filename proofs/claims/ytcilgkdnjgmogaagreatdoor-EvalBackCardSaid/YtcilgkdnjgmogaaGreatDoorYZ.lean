/- A part of the proof. -/
import Derived.Test.YtcilgkdnjgmogaaGreatDoorYY
namespace Go.Proofs.YtcilgkdnjgmogaaGreatDoor
open Go.Proofs.Tryz
set_option maxRecDepth 100000
set_option maxHeartbeats 12800000
set_option linter.all false
variable {D:Nat->Prop} {R b2 bf br bs z:Nat} {U u:Value} {w w':World}
section
section
open Go.RowKit
def zni(z:Nat)(e:Par Ex)(b:Par (List St))(ts:List Tok)(t:Tok)(ht:qE z ts=t):za5 z e b ts=(if zC z [[105,102]] ts then j5 z e b ts.tail else if zC z [[102,111,114]] ts then zid z e b ts.tail
  else(jn z e ts).bind fun s r=>(qt z [59] r).bind fun _ r'=>.ok s r').bind fun s r=>.ok (s.at t.aW) r:=by
 subst ht;rfl
def StK.at{s:St}{k:qM}(h:StK w D s k)(p:Nat):StK w D (s.at p) k:=⟨h.e,h.b,h.f⟩
structure Sm(R:Nat)(S:Src)(w:World)(bs:Nat)(ts:List Tok)(cur:World):Prop where
 r0:Res0 R S 6 w ts cur
 th:cur.there bs 0 6
 wb:w.heap.size<bs
 bc:bs<cur.heap.size
 hR:R<w.heap.size
def Sm.moves{S:Src}{ts ts':List Tok}{cur cur':World}(h:Sm R S w bs ts cur)(hm:zr R cur cur')(ha:At cur' R S ts'):Sm R S w bs ts' cur':=
 ⟨h.r0.moves hm ha h.hR,zl h.th (hm.block' h.bc (by have:=h.hR;have:=h.wb;omega)),h.wb,aS h.bc hm.size,h.hR⟩
def Sm.stored{S:Src}{ts:List Tok}{cur cur':World}(h:Sm R S w bs ts cur)(ho:∀k,k≠bs->cur'.heap[k]? =cur.heap[k]?)(hb:Below bs cur cur')(hs:cur'.heap.size=cur.heap.size)(ht:cur'.there bs 0 6):Sm R S w bs ts cur':=
 ⟨⟨h.r0.mv.low hb (Nat.le_of_lt h.wb),zl h.r0.th (ho _ (by have:=h.wb;omega)),by rw[hs];exact h.r0.lt,h.r0.at'.other (by have:=h.hR;have:=h.wb;omega) ho⟩,ht,h.wb,by rw[hs];exact h.bc,h.hR⟩
def statement(R:Nat)(S:Src)(d:Nat)(e:Par Ex)(he:xz R S d e)(b:Par (List St))(hb:ve R S d b)(ts:List Tok)(w:World)(ha:At w R S ts):Calls prog 147 #[.pointer (some ⟨R,0,none⟩),.int .i64 d] w (Got R S (QSt w.heap.size) w (za5 S.z e b ts)):=by
 have hR:=ha.lt;have HB:=aQ hb;have HE:=aQ he;have H0:=aQ (Res0.start ha [.int .i64 0,.string ⟨#[]⟩,.slice none 0 0,.slice none 0 0,.slice none 0 0,.int .i64 0] 145);obtain⟨t,ht⟩:∃t,qE S.z ts=t:=⟨_,rfl⟩;have HW:=aQ (zni S.z e b ts t ht);have K:=aQ (peek R S ts _ H0.out.at');rw[ht]at K;simp only[tokV,tokC]at K;have hf:=fun w'=>(kT w' t).1;clear ha he hb ht
 generalize za5 S.z e b ts=m at *
 go_enter func147,ntmps147
 go_wp2_with fail
 generalize w.alloc (.cells #[.int .i64 0,.string ⟨#[]⟩,.slice none 0 0,.slice none 0 0,.slice none 0 0,.int .i64 0] 145)=w0 at *
 refine K.out.mono ?_;clear K;rintro e' w1 ⟨rfl,hb1⟩;have H1:=H0.out.below hb1 (aR _);have bt:=za w1 (.cells #[.int .i64 0,.string ⟨#[]⟩,.slice none 0 0,.slice none 0 0,.slice none 0 0,.int .i64 0] 145);have M2:Hid (Sm R S w w1.heap.size ts (w1.alloc (.cells #[.int .i64 0,.string ⟨#[]⟩,.slice none 0 0,.slice none 0 0,.slice none 0 0,.int .i64 0] 145))):=⟨H1.below bt (aR _),zD (cs:=[.int .i64 0,.string ⟨#[]⟩,.slice none 0 0,.slice none 0 0,.slice none 0 0,.int .i64 0]) (ye w1 _) rfl,H1.lt,by simp,hR⟩;have K:=aQ (xA R S ts [105,102] ⟨#[105,102]⟩ _ M2.out.r0.at' (by kernel_rfl) (by unfold Byn;decide));clear hb1 H1 bt;cases hs0:zC S.z [[105,102]] ts with
 | true=>
  rw[hs0]at K HW;clear hs0
  go_wp2_with fail
  generalize w1.alloc (.cells #[.int .i64 0,.string ⟨#[]⟩,.slice none 0 0,.slice none 0 0,.slice none 0 0,.int .i64 0] 145)=w2 at *
  refine K.out.mono ?_;clear K;rintro e' x0 ⟨rfl,hm,ha1⟩;have ha1':At x0 R S ts.tail:=ha1;have N0:=aQ (M2.out.moves hm ha1');clear hm ha1 ha1';have K:=aQ (choice R S d e HE.out b HB.out ts.tail _ N0.out.r0.at')
  (go_wp2_with fail);refine K.out.mono ?_;clear K;rintro e' w4 ⟨hm,⟨s,r4,sv,hr,rfl,hq,ha4⟩|⟨c,q,hr,rfl⟩⟩
  ·obtain⟨⟨ke,kb,kf⟩,rfl,he4,hb4,hf4⟩:=hq;obtain⟨A1,c1,h1⟩:=zq he4;obtain⟨A2,c2,h2⟩:=qg hb4;obtain⟨A3,c3,h3⟩:=qg hf4;dsimp only at h1 h2 h3;subst h1 h2 h3;have M4:=aQ (N0.out.moves hm ha4);have KS:Hid (StK w4 (Rng (x0.heap.size) w4.heap.size) s ⟨.slice A1 s.aY.length c1,.slice A2 s.body.length c2,.slice A3 s.els.length c3⟩):=⟨he4,hb4,hf4⟩;have hbc:=N0.out.bc;have HWe:Hid (m=.ok (s.at t.aW) r4):=by show _=_;rw[HW.out];simp only[if_true,if_false,Bool.false_eq_true,hr];rfl
   clear hm hr ha4 he4 hb4 hf4;simp only[stC];go_upto_region 9 with(refine zc zV rfl (.tmp 6) (.tmp 20) rfl rfl w1.heap.size rfl [_,_,_,_,_,_] rfl rfl M4.out.th (by simp[Value.oneCell']) ?_;intro w5 g1 g2 g3 g4 g5)
   have M5:=M4.out.stored g4 g3 g5 g2;have V5:qj w5 w1.heap.size _:=⟨g1,g2⟩;have HX5:=aQ (KS.out.same fun q h=>g4 q (by have:=h.1;omega));obtain⟨cc5,cf5⟩:=V5.cell 5 _ rfl;have V6:=V5.set 5 (.int .i64 t.aW);obtain⟨q0,_⟩:=V6.cell 0 _ rfl;obtain⟨q1,_⟩:=V6.cell 1 _ rfl;obtain⟨q2,_⟩:=V6.cell 2 _ rfl;obtain⟨q3,_⟩:=V6.cell 3 _ rfl;obtain⟨q4,_⟩:=V6.cell 4 _ rfl;obtain⟨q5,_⟩:=V6.cell 5 _ rfl;have M6:=aQ (M5.stored (fun k hk=>zo (i:=5) (u:=.int .i64 t.aW) k hk) qz zB V6.2);have X6:=aQ (HX5.out.same fun q h=>zo (b:=w1.heap.size) (i:=5) (u:=.int .i64 t.aW) q (by have:=h.1;omega));have hwb:=M2.out.wb;clear V6 V5 M5 g1 g2 g3 g4
   go_wp2_with(refine zc zV rfl (.tmp 4) (.tmp 29) rfl rfl w.heap.size rfl [_,_,_,_,_,_] rfl rfl M6.out.r0.th (by simp[Value.oneCell']) ?_;intro w8 k1 k2 k3 k4 k5)
   refine vS (zx (cs:=[_,_,_,_,_,_]) results147 underlying145 rfl zV _ _ w.heap.size rfl k1) rfl ?_;refine .ok (M6.out.r0.mv.low k3 (aR _)) HWe.out (StK.v (s:=s.at t.aW) (k:=⟨.slice A1 s.aY.length c1,.slice A2 s.body.length c2,.slice A3 s.els.length c3⟩) ?_) (M6.out.r0.at'.other hR k4);exact((StK.same (s:=s) X6.out fun q h=>k4 q (by have:=h.1;omega)).more (D':=Rng w.heap.size w8.heap.size) fun q h=>⟨by have:=h.1;omega,by rw[k5,zB];have:=h.2;omega⟩).at t.aW
  ·have HQ:=aQ (N0.out.r0.mv.trans hm);have HR:Hid (m=.bad c q):=by show _=_;rw[HW.out];simp only[if_true,if_false,Bool.false_eq_true,hr];rfl
   clear hm hr;go_wp2;exact⟨rfl,.bad HQ.out HR.out⟩
 | false=>
  rw[hs0]at K HW;clear hs0
  go_wp2_with fail
  generalize w1.alloc (.cells #[.int .i64 0,.string ⟨#[]⟩,.slice none 0 0,.slice none 0 0,.slice none 0 0,.int .i64 0] 145)=w2 at *
  refine K.out.mono ?_;clear K;rintro e' x0 ⟨rfl,hm,ha1⟩;have ha1':At x0 R S ts:=ha1;have N0:=aQ (M2.out.moves hm ha1');clear hm ha1 ha1';have K:=aQ (xA R S ts [102,111,114] ⟨#[102,111,114]⟩ _ N0.out.r0.at' (by kernel_rfl) (by unfold Byn;decide));cases hs1:zC S.z [[102,111,114]] ts with
  | true=>
   rw[hs1]at K HW;clear hs1
   (go_wp2_with fail);refine K.out.mono ?_;clear K;rintro e' x1 ⟨rfl,hm,ha1⟩;have ha1':At x1 R S ts.tail:=ha1;have N1:=aQ (N0.out.moves hm ha1');clear hm ha1 ha1';have K:=aQ (loop R S d e HE.out b HB.out ts.tail _ N1.out.r0.at')
   (go_wp2_with fail);refine K.out.mono ?_;clear K;rintro e' w4 ⟨hm,⟨s,r4,sv,hr,rfl,hq,ha4⟩|⟨c,q,hr,rfl⟩⟩
   ·obtain⟨⟨ke,kb,kf⟩,rfl,he4,hb4,hf4⟩:=hq;obtain⟨A1,c1,h1⟩:=zq he4;obtain⟨A2,c2,h2⟩:=qg hb4;obtain⟨A3,c3,h3⟩:=qg hf4;dsimp only at h1 h2 h3;subst h1 h2 h3;have M4:=aQ (N1.out.moves hm ha4);have KS:Hid (StK w4 (Rng (x1.heap.size) w4.heap.size) s ⟨.slice A1 s.aY.length c1,.slice A2 s.body.length c2,.slice A3 s.els.length c3⟩):=⟨he4,hb4,hf4⟩;have hbc:=N1.out.bc;have HWe:Hid (m=.ok (s.at t.aW) r4):=by show _=_;rw[HW.out];simp only[if_true,if_false,Bool.false_eq_true,hr];rfl
    clear hm hr ha4 he4 hb4 hf4;simp only[stC];go_upto_region 9 with(refine zc zV rfl (.tmp 6) (.tmp 26) rfl rfl w1.heap.size rfl [_,_,_,_,_,_] rfl rfl M4.out.th (by simp[Value.oneCell']) ?_;intro w5 g1 g2 g3 g4 g5)
    have M5:=M4.out.stored g4 g3 g5 g2;have V5:qj w5 w1.heap.size _:=⟨g1,g2⟩;have HX5:=aQ (KS.out.same fun q h=>g4 q (by have:=h.1;omega));obtain⟨cc5,cf5⟩:=V5.cell 5 _ rfl;have V6:=V5.set 5 (.int .i64 t.aW);obtain⟨q0,_⟩:=V6.cell 0 _ rfl;obtain⟨q1,_⟩:=V6.cell 1 _ rfl;obtain⟨q2,_⟩:=V6.cell 2 _ rfl;obtain⟨q3,_⟩:=V6.cell 3 _ rfl;obtain⟨q4,_⟩:=V6.cell 4 _ rfl;obtain⟨q5,_⟩:=V6.cell 5 _ rfl;have M6:=aQ (M5.stored (fun k hk=>zo (i:=5) (u:=.int .i64 t.aW) k hk) qz zB V6.2);have X6:=aQ (HX5.out.same fun q h=>zo (b:=w1.heap.size) (i:=5) (u:=.int .i64 t.aW) q (by have:=h.1;omega));have hwb:=M2.out.wb;clear V6 V5 M5 g1 g2 g3 g4
    go_wp2_with(refine zc zV rfl (.tmp 4) (.tmp 29) rfl rfl w.heap.size rfl [_,_,_,_,_,_] rfl rfl M6.out.r0.th (by simp[Value.oneCell']) ?_;intro w8 k1 k2 k3 k4 k5)
    refine vS (zx (cs:=[_,_,_,_,_,_]) results147 underlying145 rfl zV _ _ w.heap.size rfl k1) rfl ?_;refine .ok (M6.out.r0.mv.low k3 (aR _)) HWe.out (StK.v (s:=s.at t.aW) (k:=⟨.slice A1 s.aY.length c1,.slice A2 s.body.length c2,.slice A3 s.els.length c3⟩) ?_) (M6.out.r0.at'.other hR k4);exact((StK.same (s:=s) X6.out fun q h=>k4 q (by have:=h.1;omega)).more (D':=Rng w.heap.size w8.heap.size) fun q h=>⟨by have:=h.1;omega,by rw[k5,zB];have:=h.2;omega⟩).at t.aW
   ·have HQ:=aQ (N1.out.r0.mv.trans hm);have HR:Hid (m=.bad c q):=by show _=_;rw[HW.out];simp only[if_true,if_false,Bool.false_eq_true,hr];rfl
    clear hm hr;go_wp2;exact⟨rfl,.bad HQ.out HR.out⟩
  | false=>
   rw[hs1]at K HW;clear hs1
   (go_wp2_with fail);refine K.out.mono ?_;clear K;rintro e' x1 ⟨rfl,hm,ha1⟩;have ha1':At x1 R S ts:=ha1;have N1:=aQ (N0.out.moves hm ha1');clear hm ha1 ha1';have K:=aQ (zrz R S d e HE.out ts _ N1.out.r0.at')
   (go_wp2_with fail);refine K.out.mono ?_;clear K;rintro e' w4 ⟨hm,⟨s,r4,sv,hr,rfl,hq,ha4⟩|⟨c,q,hr,rfl⟩⟩
   ·obtain⟨⟨ke,kb,kf⟩,rfl,he4,hb4,hf4⟩:=hq;obtain⟨A1,c1,h1⟩:=zq he4;obtain⟨A2,c2,h2⟩:=qg hb4;obtain⟨A3,c3,h3⟩:=qg hf4;dsimp only at h1 h2 h3;subst h1 h2 h3;have M4:=aQ (N1.out.moves hm ha4);have KS:Hid (StK w4 (Rng (x1.heap.size) w4.heap.size) s ⟨.slice A1 s.aY.length c1,.slice A2 s.body.length c2,.slice A3 s.els.length c3⟩):=⟨he4,hb4,hf4⟩;have hbc:=N1.out.bc;have HWs:Hid (m=((qt S.z [59] r4).bind fun _ r'=>Res.ok s r').bind fun s r=>.ok (s.at t.aW) r):=by show _=_;rw[HW.out];simp only[if_false,Bool.false_eq_true,hr];rfl
    clear hm hr ha4 he4 hb4 hf4;simp only[stC];go_upto_region 4 with(refine zc zV rfl (.tmp 6) (.tmp 12) rfl rfl w1.heap.size rfl [_,_,_,_,_,_] rfl rfl M4.out.th (by simp[Value.oneCell']) ?_;intro w5 g1 g2 g3 g4 g5)
    have M5:=aQ (M4.out.stored g4 g3 g5 g2);have V5:Hid (qj w5 w1.heap.size _):=⟨g1,g2⟩;have HX5:=aQ (KS.out.same fun q h=>g4 q (by have:=h.1;omega));have K:=aQ (want R S r4 [59] ⟨#[59]⟩ _ M5.out.r0.at' (by kernel_rfl) (by unfold Byn;decide));clear g1 g2 g3 g4
    (go_wp2_with fail);refine K.out.mono ?_;clear K;rintro e' w9 ⟨hm,⟨u,r9,xu,hr,rfl,hq,ha9⟩|⟨c,q,hr,rfl⟩⟩
    ·rw[show xu=.tuple #[] from hq];have M9:=M5.out.moves hm ha9;have s9:=hm.size;have V9:=V5.out.of (hm.block' (k:=w1.heap.size) M5.out.bc (by have:=M5.out.hR;have:=M5.out.wb;omega));have HX9:=aQ (HX5.out.same (hm.same fun q h=>⟨by have:=h.2;omega,by have:=h.1;have:=M5.out.hR;have:=M5.out.wb;omega⟩));have HWe:Hid (m=.ok (s.at t.aW) r9):=by show _=_;rw[HWs.out,hr];rfl
     obtain⟨cc5,cf5⟩:=V9.cell 5 _ rfl;have V6:=V9.set 5 (.int .i64 t.aW);obtain⟨q0,_⟩:=V6.cell 0 _ rfl;obtain⟨q1,_⟩:=V6.cell 1 _ rfl;obtain⟨q2,_⟩:=V6.cell 2 _ rfl;obtain⟨q3,_⟩:=V6.cell 3 _ rfl;obtain⟨q4,_⟩:=V6.cell 4 _ rfl;obtain⟨q5,_⟩:=V6.cell 5 _ rfl;have M6:=aQ (M9.stored (fun k hk=>zo (i:=5) (u:=.int .i64 t.aW) k hk) qz zB V6.2);have X6:=aQ (HX9.out.same fun q h=>zo (b:=w1.heap.size) (i:=5) (u:=.int .i64 t.aW) q (by have:=h.1;omega));have hwb:=M2.out.wb;clear V6 V9 M9 hm hr hq ha9
     go_wp2_with(refine zc zV rfl (.tmp 4) (.tmp 29) rfl rfl w.heap.size rfl [_,_,_,_,_,_] rfl rfl M6.out.r0.th (by simp[Value.oneCell']) ?_;intro w8 k1 k2 k3 k4 k5)
     refine vS (zx (cs:=[_,_,_,_,_,_]) results147 underlying145 rfl zV _ _ w.heap.size rfl k1) rfl ?_;refine .ok (M6.out.r0.mv.low k3 (aR _)) HWe.out (StK.v (s:=s.at t.aW) (k:=⟨.slice A1 s.aY.length c1,.slice A2 s.body.length c2,.slice A3 s.els.length c3⟩) ?_) (M6.out.r0.at'.other hR k4);exact((StK.same (s:=s) X6.out fun q h=>k4 q (by have:=h.1;omega)).more (D':=Rng w.heap.size w8.heap.size) fun q h=>⟨by have:=h.1;omega,by rw[k5,zB];have:=h.2;omega⟩).at t.aW
    ·have HQ:=aQ (M5.out.r0.mv.trans hm);have HR:=aQ hr;clear hm hr;go_wp2;exact⟨rfl,.bad HQ.out (by rw[HWs.out,HR.out];rfl)⟩
   ·have HQ:=aQ (N1.out.r0.mv.trans hm);have HR:Hid (m=.bad c q):=by show _=_;rw[HW.out];simp only[if_true,if_false,Bool.false_eq_true,hr];rfl
    clear hm hr;go_wp2;exact⟨rfl,.bad HQ.out HR.out⟩
def zsj:(prog.info? 145).map (fun i=>(i.zero,i.size,i.bytes))=some (some (.agg #[.int .i64 0,.string ⟨#[]⟩,.slice none 0 0,.slice none 0 0,.slice none 0 0,.int .i64 0]),6,104):=by kernel_rfl
def one6{a b:Int}{s:ByteArray}{A1 A2 A3:Option Addr}{n1 m1 n2 m2 n3 m3:Nat}:∀u∈[Value.int .i64 a,.string s,.slice A1 n1 m1,.slice A2 n2 m2,.slice A3 n3 m3,.int .i64 b],u.oneCell'=true:=by
 intro u hu;simp at hu;rcases hu with rfl|rfl|rfl|rfl|rfl|rfl<;>rfl
def OwnS(lo:Nat)(w:World)(l:List St)(V:Value):Prop:=
 ∃ks:List qM,ks.length=l.length/\w.ownsRow lo 145 6 V l.length (stsC l ks)/\∀(i:Nat) (s:St) (k:qM),l[i]? =some s->ks[i]? =some k->StK w (fun b=>(lo<=b/\some b≠V.ownBlock)/\b<w.heap.size) s k
def OwnS.sts{lo:Nat}{l:List St}{V:Value}(h:OwnS lo w l V):StsC w (Rng lo w.heap.size) l V:=by
 obtain⟨ks,h1,h2,h3⟩:=h;have hm:∀(i:Nat) (s:St) (k:qM),l[i]? =some s->ks[i]? =some k->StK w (Rng lo w.heap.size) s k:=fun i s k a b=>(h3 i s k a b).more fun q hq=>⟨hq.1.1,hq.2⟩;exact .mk l ks V h1 (RowF.own h2) (fun i s k a b=>(hm i s k a b).e) (fun i s k a b=>(hm i s k a b).b) (fun i s k a b=>(hm i s k a b).f)
def OwnS.moves{R lo:Nat}{l:List St}{V:Value}(h:OwnS lo w l V)(hm:zr R w w')(hR:R<lo):OwnS lo w' l V:=by
 obtain⟨ks,h1,h2,h3⟩:=h;refine⟨ks,h1,h2.kept hm ?_,fun i e k he hk=>((h3 i e k he hk).same (hm.same fun q hq=>⟨hq.2,by omega⟩)).more fun q hq=>⟨hq.1,aS hq.2 hm.size⟩⟩;cases hv:V.ownBlock with
 | none=>exact .inl rfl
 | some k=>
  refine .inr fun e=>?_;injection e with e
  have:=(h2.lt k hv).1;omega
def OwnS.nothing(lo:Nat)(w:World):OwnS lo w [] (.slice none 0 0):=⟨[],rfl,World.ownsRow_nil _ _ _ _,fun i e k h=>by simp at h⟩
def OwnS.shape{lo:Nat}{l:List St}{V:Value}(h:OwnS lo w l V):∃A cp,V=.slice A l.length cp:=by
 obtain⟨ks,_,ho,_⟩:=h;exact qm ho
def OwnS.grown{lo:Nat}{l:List St}{V V':Value}{x:St}{k:qM}{ks:List qM}(hk:ks.length=l.length)(h3:∀(i:Nat) (e:St) (k:qM),l[i]? =some e->ks[i]? =some k->StK w (fun b=>(lo<=b/\some b≠V.ownBlock)/\b<w.heap.size) e k)
  (ho0:w.ownsRow lo 145 6 V l.length (stsC l ks)) (ho:w'.ownsRow lo 145 6 V' (l.length+1) (stsC l ks++stC x k.e k.b k.f)) (hg:w.grownBy w' V.ownBlock) (hV:V'.ownBlock=V.ownBlock\/∃g,V'.ownBlock=some g/\w.heap.size<=g) (hx:StK w (fun b=>(lo<=b/\some b≠V.ownBlock)/\b<w.heap.size) x k) (hlo:lo<=w.heap.size) :
  OwnS lo w' (l++[x]) V'/\Below lo w w':=by
 have hsame:∀ {x:St} {k:qM},StK w (fun b=>(lo<=b/\some b≠V.ownBlock)/\b<w.heap.size) x k->StK w' (fun b=>(lo<=b/\some b≠V'.ownBlock)/\b<w'.heap.size) x k:=fun h=>
  (h.same (fun b hb=>hg.block b hb.2 hb.1.2)).more fun b hb=>⟨⟨hb.1.1,by
   rcases hV with e|⟨g,e,hge⟩
   ·rw[e];exact hb.1.2
   ·rw[e];intro h2;injection h2;omega⟩,aS hb.2 hg.size⟩
 refine⟨⟨ks++[k],by simp[hk],by rw[zmk l ks hk];simpa using ho,fun i e q he hq=>?_⟩,hg.os,hg.tape,hg.output,hg.size,fun q hq=>hg.block q (by omega) fun e=>?_⟩
 ·rcases xH he with he|⟨e1,rfl⟩<;>rcases xH hq with hq|⟨e2,rfl⟩
  ·exact hsame (h3 i e q he hq)
  ·have:=(vm.1 he).1;omega
  ·have:=(vm.1 hq).1;omega
  ·exact hsame hx
 ·have:=(ho0.lt q e.symm).1;omega
def zhz{p:Par St}{l:List St}{ts:List Tok}(h:zC z [[125]] ts=true):∀f,kU z p f l ts=.ok l ts.tail
 | 0=>by rw[kU,if_pos h]
 | f+1=>by rw[kU,if_pos h]
def zf9{p:Par St}{f:Nat}{l:List St}{ts:List Tok}(h:zC z [[125]] ts=false):kU z p (f+1) l ts=(p ts).bind fun s r=>kU z p f (l++[s]) r:=by
 rw[kU,if_neg (by simp[h])]
def za0{p:Par St}{l:List St}{ts:List Tok}{c q:Nat}(h:zC z [[125]] ts=false)(hp:p ts=.bad c q):∀f,kU z p f l ts=.bad c q
 | 0=>by rw[kU,if_neg (by simp[h]),hp];rfl
 | f+1=>by rw[kU,if_neg (by simp[h]),hp];rfl
def BlkS(R:Nat)(S:Src)(w:World)(p:Par St)(m:Res (List St))(V:Value)(wr:World):Prop:=
 ∃l ts f,OwnS w.heap.size wr l V/\At wr R S ts/\zr R w wr/\ts.length<=f/\l.length+ts.length<=S.all.length/\m=kU S.z p f l ts
def zis(R:Nat)(S:Src)(hsm:S.all.length<=4096)(d:Nat)(hd:d<=32)(e:Par Ex)(he:xz R S (d+1) e)(hTe:qL e)(b:Par (List St))(hb:ve R S (d+1) b)(hTb:qL b):ve R S d (fun ts=>(qt S.z [123] ts).bind fun _ r=>kU S.z (za5 S.z e b) r.length [] r):=by
 intro w ts ha;have hR:=ha.lt;have hcast:((d+1:Nat):Int)=(d:Int)+1:=rfl;have HT:=aQ (zb0 S.z e b hTe.shrinks hTb.shrinks);have HSt:Hid (∀ts w,At w R S ts->Calls prog 147 #[.pointer (some ⟨R,0,none⟩),.int .i64 ((d:Int)+1)] w (Got R S (QSt w.heap.size) w (za5 S.z e b ts))):=fun ts w h=>statement R S (d+1) e he b hb ts w h;obtain⟨i0,hi,hz0,hz1,hz2⟩:=info_parts zsj;have K0:=aQ (zcl R d w hd);have K:=aQ (want R S ts [123] ⟨#[123]⟩ w ha (by kernel_rfl) (by unfold Byn;decide));obtain⟨m,hmm⟩:∃m,m=(qt S.z [123] ts).bind fun _ r=>kU S.z (za5 S.z e b) r.length [] r:=⟨_,rfl⟩;show Calls _ _ _ _ (Got R S (QB w.heap.size) w ((qt S.z [123] ts).bind fun _ r=>kU S.z (za5 S.z e b) r.length [] r));rw[<- hmm];have HW:=aQ hmm
 generalize za5 S.z e b=p at *
 clear ha he hb hmm hTe hTb;go_enter func116,ntmps116
 go_wp2_with(go_at_call 146;refine K0.out.mono ?_;rintro e' w4 ⟨rfl,rfl⟩)
 refine K.out.mono ?_;clear K K0;rintro e' w1 ⟨hm,⟨u,r,xv,hr,rfl,hq,ha1⟩|⟨c,q,hr,rfl⟩⟩
 ·rw[show xv=.tuple #[] from hq];have HG:Hid (BlkS R S w p m (.slice none 0 0) w1):=⟨[],r,r.length,OwnS.nothing _ _,ha1,hm,aR _,by have:=ha1.len;simpa using this,by rw[HW.out,hr];rfl⟩;clear hm hr hq ha1;go_wp2
  go_loopw [5] (fun V wr=>BlkS R S w p m V wr) (fun _ wr=>S.all.length-zbb R wr)
  case atStart=>exact HG.out
  case round=>
   obtain⟨l,ts2,f,hO,hA,hM,hf,hll,hmr⟩:=hrel;obtain⟨A,cp,rfl⟩:=hO.shape;have K:=aQ (xA R S ts2 [125] ⟨#[125]⟩ wr hA (by kernel_rfl) (by unfold Byn;decide));have HQ:Hid (OwnS w.heap.size wr l (.slice A l.length cp)/\At wr R S ts2/\zr R w wr/\ts2.length<=f/\l.length+ts2.length<=S.all.length/\m=kU S.z p f l ts2):=⟨hO,hA,hM,hf,hll,hmr⟩;clear hO hA hM hf hll hmr;cases hs:zC S.z [[125]] ts2 with
   | true=>
    have HS:=aQ hs;rw[hs]at K;clear hs
    (go_wp2_with fail);refine K.out.mono ?_;clear K;rintro e' w4 ⟨rfl,hm,ha4⟩;have H4:Hid (At w4 R S ts2.tail/\zr R w w4/\OwnS w.heap.size w4 l (.slice A l.length cp)/\m=.ok l ts2.tail):=⟨ha4,HQ.out.2.2.1.trans hm,HQ.out.1.moves hm hR,by rw[HQ.out.2.2.2.2.2,zhz HS.out]⟩;clear hm ha4
    go_wp2;go_ret;exact .ok H4.out.2.1 H4.out.2.2.2 H4.out.2.2.1.sts H4.out.1
   | false=>
    have HS:=aQ hs;rw[hs]at K;clear hs;have hwrap:IntKind.i64.wrap ((d:Int)+1)=(d:Int)+1:=IntWalk.i64_in _ (by omega)
    (go_wp2_with fail);refine K.out.mono ?_;clear K;rintro e' w4 ⟨rfl,hm,ha4⟩;have ha4':At w4 R S ts2:=ha4;have O4:=aQ (HQ.out.1.moves hm hR);have M4:=aQ (HQ.out.2.2.1.trans hm);have K:=aQ (HSt.out ts2 w4 ha4');have hn:l.length<=4096:=by have:=HQ.out.2.2.2.2.1;omega
    clear hm ha4 ha4'
    (go_wp2_with fail);refine K.out.mono ?_;clear K;rintro e' w5 ⟨hm,⟨s,r5,sv,hr,rfl,hq,ha5⟩|⟨c,q,hr,rfl⟩⟩
    ·obtain⟨⟨ke,kb,kf⟩,rfl,he4,hb4,hf4⟩:=hq;obtain⟨A1,c1,h1⟩:=zq he4;obtain⟨A2,c2,h2⟩:=qg hb4;obtain⟨A3,c3,h3⟩:=qg hf4;dsimp only at h1 h2 h3;subst h1 h2 h3;have bt:=za w5 (.cells #[.int .i64 s.op,.string (strN s.aZ),.slice A1 s.aY.length c1,.slice A2 s.body.length c2,.slice A3 s.els.length c3,.int .i64 s.aW] 145);have mt:=hm.below bt (aR _);obtain⟨ks,hks,hown,hkid⟩:=O4.out.moves mt hR;have hap:StK (w5.alloc (.cells #[.int .i64 s.op,.string (strN s.aZ),.slice A1 s.aY.length c1,.slice A2 s.body.length c2,.slice A3 s.els.length c3,.int .i64 s.aW] 145)) (fun q=>(w.heap.size<=q/\some q≠(Value.slice A l.length cp).ownBlock)/\q<(w5.alloc (.cells #[.int .i64 s.op,.string (strN s.aZ),.slice A1 s.aY.length c1,.slice A2 s.body.length c2,.slice A3 s.els.length c3,.int .i64 s.aW] 145)).heap.size) s ⟨.slice A1 s.aY.length c1,.slice A2 s.body.length c2,.slice A3 s.els.length c3⟩:=by
      refine(StK.same (D:=Rng w4.heap.size w5.heap.size) ⟨he4,hb4,hf4⟩ fun q h=>bt.block q h.2).more fun q h=>⟨⟨?_,?_⟩,?_⟩
      ·have:=h.1;have:=M4.out.size;omega
      ·intro e;obtain⟨ks',_,ho',_⟩:=O4.out;have h1:=(ho'.lt q e.symm).2;have h2:=h.1;omega
      ·have:=h.2;have:=bt.size;omega
     have HO:=aQ hown;have HKd:=aQ hkid;have HAp:=aQ hap;have HN:Hid (∀(j:Nat) (u:Value),(stC s (.slice A1 s.aY.length c1) (.slice A2 s.body.length c2) (.slice A3 s.els.length c3))[j]? =some u->(w5.alloc (.cells #[.int .i64 s.op,.string (strN s.aZ),.slice A1 s.aY.length c1,.slice A2 s.body.length c2,.slice A3 s.els.length c3,.int .i64 s.aW] 145)).cell? ((Addr.mk w5.heap.size 0 none).add j)=some u):=fun j u hu=>by
      rw[Addr.add_mid];exact zZ (cs:=stC s (.slice A1 s.aY.length c1) (.slice A2 s.body.length c2) (.slice A3 s.els.length c3)) (ye w5 _) j u hu
     have H5:Hid (At (w5.alloc (.cells #[.int .i64 s.op,.string (strN s.aZ),.slice A1 s.aY.length c1,.slice A2 s.body.length c2,.slice A3 s.els.length c3,.int .i64 s.aW] 145)) R S r5/\zr R w (w5.alloc (.cells #[.int .i64 s.op,.string (strN s.aZ),.slice A1 s.aY.length c1,.slice A2 s.body.length c2,.slice A3 s.els.length c3,.int .i64 s.aW] 145))/\p ts2=.ok s r5):=⟨ha5.below bt (aR _),M4.out.trans mt,hr⟩;have hsz:=H5.out.2.1.size;clear hm hr ha5 he4 hb4 hf4 bt mt hown hkid hap;simp only[stC]
     go_wp2_with(at_builtin;refine kH _ rfl (.tmp 14) (.tmp 19) 67 rfl w.heap.size 145 i0 _ 6 104 underlying67 hi hz0 hz1 hz2 rfl (by omega) _ _ _ rfl HO.out ⟨w5.heap.size,0,none⟩ 1 (stC s (.slice A1 s.aY.length c1) (.slice A2 s.body.length c2) (.slice A3 s.els.length c3)) rfl rfl HN.out one6 (by omega) (by unfold maxLen;omega) hsz ?_;intro v6 w6 ho6 hg6 hv6)
     go_roundw
     case rel=>
      obtain⟨O6,B6⟩:=OwnS.grown (k:=⟨.slice A1 s.aY.length c1,.slice A2 s.body.length c2,.slice A3 s.els.length c3⟩) hks HKd.out HO.out ho6 hg6 hv6 HAp.out hsz;have ht:=HT.out _ _ _ H5.out.2.2;have hq:=HQ.out;have h4:=hq.2.2.2.1;have h5:=hq.2.2.2.2.1;have h6:=hq.2.2.2.2.2;obtain⟨f',rfl⟩:∃f',f=f'+1:=⟨f-1,by omega⟩;refine⟨l++[s],r5,f',O6,H5.out.1.under B6 hR,H5.out.2.1.low B6 (aR _),by omega,by simp;omega,?_⟩;rw[h6,zf9 HS.out,H5.out.2.2];rfl
     case measure=>
      obtain⟨O6,B6⟩:=OwnS.grown (k:=⟨.slice A1 s.aY.length c1,.slice A2 s.body.length c2,.slice A3 s.els.length c3⟩) hks HKd.out HO.out ho6 hg6 hv6 HAp.out hsz;have ht:=HT.out _ _ _ H5.out.2.2;rw[HQ.out.2.1.next,(H5.out.1.under B6 hR).next];omega
    ·have H5:Hid (zr R w w5/\m=.bad c q):=⟨M4.out.trans hm,by rw[HQ.out.2.2.2.2.2,za0 HS.out hr]⟩;clear hm hr;go_wp2;exact⟨rfl,.bad H5.out.1 H5.out.2⟩
 ·have HQ:=aQ hm;have HR:=aQ hr;clear hm hr;go_wp2;exact⟨rfl,.bad HQ.out (by rw[HW.out,HR.out];rfl)⟩
def zhy(R:Nat)(S:Src):ve R S 33 (fun ts=>yG S.z 42 ts):=by
 intro w ts ha;have K0:=aQ (zah R S ts _ ha 33 (by omega));rw[show((33:Nat):Int)=33 from rfl]at K0⊢;clear ha;go_enter func116,ntmps116
 go_wp2_with(go_at_call 146;refine K0.out.mono ?_;rintro e' w4 ⟨rfl,hb⟩)
 exact⟨rfl,.bad (zr.of_below hb (aR _)) rfl⟩
def ze4(R:Nat)(S:Src)(hsm:S.all.length<=4096):∀g,g<=32->ve R S (33-g) (jf S.z g)
 | 0,_=>zhy R S
 | g+1,hg=>by
  have ih:=ze4 R S hsm g (by omega);have e1:33-(g+1)+1=33-g:=by omega
  have he:=zp8 R S hsm (33-g) (by omega) (by omega);rw[show 33-(33-g)=g by omega]at he;exact zis R S hsm (33-(g+1)) (by omega) (zin S.z g) (by rw[e1];exact he) (yb S.z g) (jf S.z g) (by rw[e1];exact ih) (vd S.z g)
def zu8:EntC 113:=by intro args w;simp
def zr2:(prog.info? 87).map (fun i=>(i.zero,i.size,i.bytes))=some (some (.agg #[.string ⟨#[]⟩,.int .i64 0]),2,24):=by kernel_rfl
def one2{a:Int}{s:ByteArray}:∀u∈[Value.string s,.int .i64 a],u.oneCell'=true:=by
 intro u hu;simp at hu;rcases hu with rfl|rfl<;>rfl
def zkk(l:List (List Nat×Nat))(p:List Nat×Nat):pasC (l++[p])=pasC l++paC p:=by simp[pasC]
structure Fp where
 R:Nat
 S:Src
 w0:World
 bf:Nat
 br:Nat
 lo:Nat
 name:List Nat
 aW:Nat
structure Fp.Ok(c:Fp):Prop where
 hR:c.R<c.w0.heap.size
 f0:c.w0.heap.size<=c.bf
 r0:c.br≠c.R
 fl:c.bf<c.lo
 rl:c.br<c.lo
 fr:c.bf≠c.br
 sm:c.S.all.length<=4096
def Fp.cs(c:Fp)(U:Value):List Value:=[.string (strN c.name),U,.int .i64 0,.slice none 0 0,.int .i64 c.aW]
structure Fp.J(c:Fp)(l:List (List Nat×Nat))(U:Value)(w:World):Prop where
 hlo:c.lo<=w.heap.size
 mv:zr c.R c.w0 w
 v:w.cell? ⟨c.br,0,none⟩=some (.pointer (some ⟨c.R,0,none⟩))
 va:qj w c.bf (c.cs U)
 own:w.ownsRow c.lo 87 2 U l.length (pasC l)
def Fp.I(c:Fp)(l:List (List Nat×Nat))(w:World):Prop:=∃U,c.J l U w
def Fp.J.moves{c:Fp}(hc:c.Ok){l:List (List Nat×Nat)}(h:c.J l U w)(hm:zr c.R w w'):c.J l U w':=by
 have h1:=hc.hR;have h2:=hc.f0;have h3:=hc.fl;have h4:=h.hlo;refine⟨aT h4 hm.size,h.mv.trans hm,(hm.cell (a:=⟨c.br,0,none⟩) (by show c.br<_;have:=hc.rl;omega) hc.r0).trans h.v,h.va.of (hm.block' (by omega) (by omega)),h.own.kept hm ?_⟩;cases hv:U.ownBlock with
 | none=>exact .inl rfl
 | some g=>
  refine .inr fun e=>?_;injection e with e
  have:=(h.own.lt g hv).1;omega
def Fp.J.done{c:Fp}(hc:c.Ok){l:List (List Nat×Nat)}{U V:Value}{p:List Nat×Nat}(h:c.J l U w)(ho:w'.ownsRow c.lo 87 2 V (l.length+1) (pasC l++paC p))(hg:w.grownBy w' U.ownBlock):c.J (l++[p]) V (w'.setCell ⟨c.bf,1,none⟩ V)/\qj w' c.bf (c.cs U)/\Below c.bf w (w'.setCell ⟨c.bf,1,none⟩ V):=by
 have h1:=hc.hR;have h2:=hc.f0;have h3:=hc.fl;have h4:=h.hlo;have hb:Below c.lo w w':=⟨hg.os,hg.tape,hg.output,hg.size,fun q hq=>hg.block q (by omega) fun e=>by have:=(h.own.lt q e.symm).1;omega⟩;have hst:∀q,q≠c.bf->(w'.setCell ⟨c.bf,1,none⟩ V).heap[q]? =w'.heap[q]?:=fun q hq=>zo q hq;have va':=h.va.of (hb.block _ hc.fl);have hbb:Below c.bf w (w'.setCell ⟨c.bf,1,none⟩ V):=(hb.mono (by omega)).trans qz;refine⟨⟨by rw[zB];exact aT h4 hg.size,h.mv.low hbb h2,?_,va'.set 1 V,?_⟩,va',hbb⟩
 ·rw[yp (a:=⟨c.br,0,none⟩) ((hst _ (Ne.symm hc.fr)).trans (hb.block _ hc.rl))];exact h.v
 ·rw[zkk,aA];refine⟨ho.1,?_⟩;rcases ho.2 with h'|⟨g,cap,cur,rfl,hg1,hg2,rest⟩
  ·exact .inl h'
  ·exact .inr ⟨g,cap,cur,rfl,hg1,by rw[hst g (by omega)];exact hg2,rest⟩
def zkx(z:Nat)(ts:List Tok):jU z ts=(yE z ts).bind fun s r=>(qt z [58] r).bind fun _ r'=>(j7 z r').bind fun t q=>.ok (s,t) q:=rfl
def FpS(c:Fp)(w:World):Prop:=w.cell? ⟨c.br,0,none⟩=some (.pointer (some ⟨c.R,0,none⟩))
def zuw(c:Fp)(hc:c.Ok)(l:List (List Nat×Nat))(ts:List Tok)(w:World)(hI:c.I l w)(ha:At w c.R c.S ts)(hl:l.length+ts.length<=c.S.all.length):Calls prog 113 #[.pointer (some ⟨c.br,0,none⟩),.pointer (some ⟨c.bf,0,none⟩)] w (GotI c.R c.S (fun v w'=>c.I (l++[v]) w') (fun w'=>zr c.R c.w0 w') (jU c.S.z ts)):=by
 obtain⟨U,hJ⟩:=hI;obtain⟨A,cp,rfl⟩:=qm hJ.own;have hn:l.length<=4096:=by have:=hc.sm;omega
 have HC:=aQ hc;have hRlo:c.R<c.bf:=by have:=hc.hR;have:=hc.f0;omega
 obtain⟨i0,hi,hz0,hz1,hz2⟩:=info_parts zr2;have K:=aQ (name c.R c.S ts w ha);have HW:=aQ (zkx c.S.z ts);have HJ:=aQ hJ;have hv:=hJ.v;clear ha hl hc hJ
 generalize jU c.S.z ts=m at *
 go_enter func113,ntmps113
 go_wp2_with fail
 refine K.out.mono ?_;clear K hv;rintro e' w1 ⟨hm,⟨s,r,xv,hr,rfl,hq,ha1⟩|⟨cc,q,hr,rfl⟩⟩
 ·rw[show xv=.string (strN s) from hq];have J1:=aQ (HJ.out.moves HC.out hm);have HW1:Hid (m=(qt c.S.z [58] r).bind fun _ r'=>(j7 c.S.z r').bind fun t q=>.ok (s,t) q):=by show _=_;rw[HW.out,hr];rfl
  have K:=aQ (want c.R c.S r [58] ⟨#[58]⟩ w1 ha1 (by kernel_rfl) (by unfold Byn;decide));have hv:=J1.out.v;clear hm hr hq ha1 HW
  (go_wp2_with fail);refine K.out.mono ?_;clear K hv;rintro e' w2 ⟨hm,⟨u,r2,xu,hr,rfl,hq,ha2⟩|⟨cc,q,hr,rfl⟩⟩
  ·rw[show xu=.tuple #[] from hq];have hdd:zr c.R w2 w2.drew:=⟨rfl,rfl,rfl,aR _,fun _ _ _=>rfl⟩;have J2:=aQ ((J1.out.moves HC.out hm).moves HC.out hdd);have A2:=aQ (ha2.below ((Below.refl w2.heap.size w2).drew) (aR _));have HW2:Hid (m=(j7 c.S.z r2).bind fun t q=>.ok (s,t) q):=by show _=_;rw[HW1.out,hr];rfl
   clear hm hr hq ha2 hdd HW1
   (go_wp2_with fail);refine wp_region_held_drew (S:=FpS c) (by kernel_rfl) J2.out.v (fun hHeld=>?_);refine aO 0 ?_
   try simp only[Act.put,zzs]
   refine aO 2 ?_
   try simp only[Act.put,zzs]
   refine zz8 3 ?v3 rfl (fun _ _ _ h=>h) ?y3 ?r3
   case y3=>(intro w hSw;have q1:w.cell? ⟨c.br,0,none⟩=some (.pointer (some ⟨c.R,0,none⟩)):=hSw;(try dsimp only at hSw);go_simp;(try with_reducible rfl))
   try simp only[Act.put,zzs]
   generalize w2.drew=wd at *
   refine ab 1 4 rfl rfl (fun K hK=>?_) fun K hK=>?_
   ·have hce:=(J2.out.va.cell 1 _ rfl).1;go_simp;clear hce;refine hK.out _ _ J2.out.v (fun hHeld=>?_);clear hK K;refine aa 4 rfl fun K hK=>?_;go_simp;refine(zad c.R c.S r2 _ A2.out).mono ?_;rintro e' wc ⟨hm,⟨ty,r4,yv,hr,rfl,hq,ha4⟩|⟨cc,q,hr,rfl⟩⟩
    ·rw[show yv=.int .i64 ty from hq];have J4:=aQ (J2.out.moves HC.out hm);have A4:=aQ ha4;have HW4:Hid (m=.ok (s,ty) r4):=by show _=_;rw[HW2.out,hr];rfl
     clear hm hr hq ha4;refine hK.out _ _ J4.out.v (fun hHeld=>?_);clear hK K;refine aO 5 ?_
     try simp only[Act.put,zzs]
     refine aa 6 rfl fun K hK=>?_;go_simp;have mz:=zr.alloc c.R wc (.cells #[.string (strN s),.int .i64 ty] 87);have bz:=za wc (.cells #[.string (strN s),.int .i64 ty] 87);have J5:=aQ (J4.out.moves HC.out mz);have A5:=aQ (A4.out.below bz (aR _));have HN:Hid (∀(j:Nat) (u:Value),(paC (s,ty))[j]? =some u->(wc.alloc (.cells #[.string (strN s),.int .i64 ty] 87)).cell? ((Addr.mk wc.heap.size 0 none).add j)=some u):=fun j u hu=>by
      rw[Addr.add_mid];exact zZ (cs:=paC (s,ty)) (ye wc (.cells #[.string (strN s),.int .i64 ty] 87)) j u hu
     clear mz bz
     generalize wc.alloc (.cells #[.string (strN s),.int .i64 ty] 87)=wz at *
     refine hK.out _ _ J5.out.v (fun hHeld=>?_);clear hK K;refine aa 7 rfl fun K hK=>?_;rw[if_pos (by rfl)];refine zK _ (.tmp 8) (.tmp 13) 66 rfl c.lo 87 i0 _ 2 24 underlying66 hi hz0 hz1 hz2 rfl (by omega) _ _ _ rfl J5.out.own ⟨wc.heap.size,0,none⟩ 1 (paC (s,ty)) rfl rfl HN.out one2 (by omega) (by unfold maxLen;omega) J5.out.hlo ?_;intro v' wb ho hg hv;obtain⟨A6,c6,rfl⟩:=qm ho;obtain⟨D1,D2,D3⟩:=J5.out.done HC.out ho hg;have HJ6:=aQ D1;have HV6:=aQ D2;have hv6:FpS c wb:=by
      have h1:Below c.lo wz wb:=⟨hg.os,hg.tape,hg.output,hg.size,fun q hq=>hg.block q (by have:=J5.out.hlo;omega) fun e=>by have:=(J5.out.own.lt q e.symm).1;omega⟩;exact(h1.cell (p:=⟨c.br,0,none⟩) HC.out.rl).trans J5.out.v
     have A6':=aQ (A5.out.under D3 hRlo);clear ho hg hv D1 D2 D3 HN;refine hK.out _ _ hv6 (fun hHeld=>?_);clear hK K;simp only[Act.put,zz4,zz5,zz6];refine aO 8 ?_
     try simp only[Act.put,zzs]
     refine aa 9 rfl fun K hK=>?_;obtain⟨hce,hcf⟩:=HV6.out.cell 1 _ rfl;go_simp;clear hce hcf;refine hK.out _ _ HJ6.out.v (fun hHeld=>?_);clear hK K;refine aJ (by kernel_rfl) ?_ _;go_wp2
     first|go_end0|refine vS (results_none rfl _ _ _) rfl ?_
     exact .inl ⟨(s,ty),r4,HW4.out,rfl,⟨_,HJ6.out⟩,A6'.out⟩
    ·exact⟨rfl,.inr ⟨cc,q,by rw[HW2.out,hr];rfl,rfl,J2.out.mv.trans hm⟩⟩
   ·go_simp;refine(zad c.R c.S r2 _ A2.out).mono ?_;rintro e' wc ⟨hm,⟨ty,r4,yv,hr,rfl,hq,ha4⟩|⟨cc,q,hr,rfl⟩⟩
    ·rw[show yv=.int .i64 ty from hq];have J4:=aQ (J2.out.moves HC.out hm);have A4:=aQ ha4;have HW4:Hid (m=.ok (s,ty) r4):=by show _=_;rw[HW2.out,hr];rfl
     clear hm hr hq ha4;refine hK.out _ _ J4.out.v (fun hHeld=>?_);clear hK K;refine aO 5 ?_
     try simp only[Act.put,zzs]
     refine ab 1 6 rfl rfl (fun K hK=>?_) fun K hK=>?_
     ·have hce:=(J4.out.va.cell 1 _ rfl).1;go_simp;clear hce;refine hK.out _ _ J4.out.v (fun hHeld=>?_);clear hK K;refine aa 6 rfl fun K hK=>?_;go_simp;have mz:=zr.alloc c.R wc (.cells #[.string (strN s),.int .i64 ty] 87);have bz:=za wc (.cells #[.string (strN s),.int .i64 ty] 87);have J5:=aQ (J4.out.moves HC.out mz);have A5:=aQ (A4.out.below bz (aR _));have HN:Hid (∀(j:Nat) (u:Value),(paC (s,ty))[j]? =some u->(wc.alloc (.cells #[.string (strN s),.int .i64 ty] 87)).cell? ((Addr.mk wc.heap.size 0 none).add j)=some u):=fun j u hu=>by
       rw[Addr.add_mid];exact zZ (cs:=paC (s,ty)) (ye wc (.cells #[.string (strN s),.int .i64 ty] 87)) j u hu
      clear mz bz
      generalize wc.alloc (.cells #[.string (strN s),.int .i64 ty] 87)=wz at *
      refine hK.out _ _ J5.out.v (fun hHeld=>?_);clear hK K;refine aa 7 rfl fun K hK=>?_;rw[if_pos (by rfl)];refine zK _ (.tmp 8) (.tmp 13) 66 rfl c.lo 87 i0 _ 2 24 underlying66 hi hz0 hz1 hz2 rfl (by omega) _ _ _ rfl J5.out.own ⟨wc.heap.size,0,none⟩ 1 (paC (s,ty)) rfl rfl HN.out one2 (by omega) (by unfold maxLen;omega) J5.out.hlo ?_;intro v' wb ho hg hv;obtain⟨A6,c6,rfl⟩:=qm ho;obtain⟨D1,D2,D3⟩:=J5.out.done HC.out ho hg;have HJ6:=aQ D1;have HV6:=aQ D2;have hv6:FpS c wb:=by
       have h1:Below c.lo wz wb:=⟨hg.os,hg.tape,hg.output,hg.size,fun q hq=>hg.block q (by have:=J5.out.hlo;omega) fun e=>by have:=(J5.out.own.lt q e.symm).1;omega⟩;exact(h1.cell (p:=⟨c.br,0,none⟩) HC.out.rl).trans J5.out.v
      have A6':=aQ (A5.out.under D3 hRlo);clear ho hg hv D1 D2 D3 HN;refine hK.out _ _ hv6 (fun hHeld=>?_);clear hK K;simp only[Act.put,zz4,zz5,zz6];refine aO 8 ?_
      try simp only[Act.put,zzs]
      refine aa 9 rfl fun K hK=>?_;obtain⟨hce,hcf⟩:=HV6.out.cell 1 _ rfl;go_simp;clear hce hcf;refine hK.out _ _ HJ6.out.v (fun hHeld=>?_);clear hK K;refine aJ (by kernel_rfl) ?_ _;go_wp2
      first|go_end0|refine vS (results_none rfl _ _ _) rfl ?_
      exact .inl ⟨(s,ty),r4,HW4.out,rfl,⟨_,HJ6.out⟩,A6'.out⟩
     ·go_simp;have mz:=zr.alloc c.R wc (.cells #[.string (strN s),.int .i64 ty] 87);have bz:=za wc (.cells #[.string (strN s),.int .i64 ty] 87);have J5:=aQ (J4.out.moves HC.out mz);have A5:=aQ (A4.out.below bz (aR _));have HN:Hid (∀(j:Nat) (u:Value),(paC (s,ty))[j]? =some u->(wc.alloc (.cells #[.string (strN s),.int .i64 ty] 87)).cell? ((Addr.mk wc.heap.size 0 none).add j)=some u):=fun j u hu=>by
       rw[Addr.add_mid];exact zZ (cs:=paC (s,ty)) (ye wc (.cells #[.string (strN s),.int .i64 ty] 87)) j u hu
      clear mz bz
      generalize wc.alloc (.cells #[.string (strN s),.int .i64 ty] 87)=wz at *
      refine hK.out _ _ J5.out.v (fun hHeld=>?_);clear hK K;refine aa 1 rfl fun K hK=>?_;have hce:=(J5.out.va.cell 1 _ rfl).1;go_simp;clear hce;refine hK.out _ _ J5.out.v (fun hHeld=>?_);clear hK K;refine aa 7 rfl fun K hK=>?_;rw[if_pos (by rfl)];refine zK _ (.tmp 8) (.tmp 13) 66 rfl c.lo 87 i0 _ 2 24 underlying66 hi hz0 hz1 hz2 rfl (by omega) _ _ _ rfl J5.out.own ⟨wc.heap.size,0,none⟩ 1 (paC (s,ty)) rfl rfl HN.out one2 (by omega) (by unfold maxLen;omega) J5.out.hlo ?_;intro v' wb ho hg hv;obtain⟨A6,c6,rfl⟩:=qm ho;obtain⟨D1,D2,D3⟩:=J5.out.done HC.out ho hg;have HJ6:=aQ D1;have HV6:=aQ D2;have hv6:FpS c wb:=by
       have h1:Below c.lo wz wb:=⟨hg.os,hg.tape,hg.output,hg.size,fun q hq=>hg.block q (by have:=J5.out.hlo;omega) fun e=>by have:=(J5.out.own.lt q e.symm).1;omega⟩;exact(h1.cell (p:=⟨c.br,0,none⟩) HC.out.rl).trans J5.out.v
      have A6':=aQ (A5.out.under D3 hRlo);clear ho hg hv D1 D2 D3 HN;refine hK.out _ _ hv6 (fun hHeld=>?_);clear hK K;simp only[Act.put,zz4,zz5,zz6];refine aO 8 ?_
      try simp only[Act.put,zzs]
      refine aa 9 rfl fun K hK=>?_;obtain⟨hce,hcf⟩:=HV6.out.cell 1 _ rfl;go_simp;clear hce hcf;refine hK.out _ _ HJ6.out.v (fun hHeld=>?_);clear hK K;refine aJ (by kernel_rfl) ?_ _;go_wp2
      first|go_end0|refine vS (results_none rfl _ _ _) rfl ?_
      exact .inl ⟨(s,ty),r4,HW4.out,rfl,⟨_,HJ6.out⟩,A6'.out⟩
    ·exact⟨rfl,.inr ⟨cc,q,by rw[HW2.out,hr];rfl,rfl,J2.out.mv.trans hm⟩⟩
  ·have HQ:=aQ (J1.out.mv.trans hm);have HR:=aQ hr;clear hm hr;go_wp2;exact⟨rfl,.inr ⟨cc,q,by rw[HW1.out,HR.out];rfl,rfl,HQ.out⟩⟩
 ·have HQ:=aQ (HJ.out.mv.trans hm);have HR:=aQ hr;clear hm hr;go_wp2;exact⟨rfl,.inr ⟨cc,q,by rw[HW.out,HR.out];rfl,rfl,HQ.out⟩⟩
def zmt(z:Nat)(ts:List Tok)(t:Tok)(ht:qE z ts=t):zh5 z ts=(qt z [102,110] ts).bind fun _ r=>(yE z r).bind fun s r1=>(wq z (jU z) r1).bind fun l r2=>
 (if zC z [[58]] r2 then j7 z r2.tail else .ok 0 r2).bind fun n r3=>(jf z 32 r3).bind fun b r4=>.ok ⟨s,l,n,b,t.aW⟩ r4:=by
 subst ht;rfl
def QFu(lo:Nat)(w:World)(f:Fu)(v:Value):Prop:=FuV w (Rng lo w.heap.size) f v
structure Fs(R:Nat)(S:Src)(w:World)(br b2 bf:Nat)(cs:List Value)(ts:List Tok)(cur:World):Prop where
 mv:zr R w cur
 v:cur.cell? ⟨br,0,none⟩=some (.pointer (some ⟨R,0,none⟩))
 th:cur.there b2 0 5
 va:qj cur bf cs
 at':At cur R S ts
 hR:R<w.heap.size
 wr:w.heap.size<=br
 w2:w.heap.size<=b2
 wf:w.heap.size<=bf
 rf:br≠bf
 f2:b2≠bf
 rl:br<cur.heap.size
 l2:b2<cur.heap.size
 fl:bf<cur.heap.size
def Fs.moves{S:Src}{cs:List Value}{ts ts':List Tok}{cur cur':World}(h:Fs R S w br b2 bf cs ts cur)(hm:zr R cur cur')(ha:At cur' R S ts'):Fs R S w br b2 bf cs ts' cur':=by
 have h1:=h.hR;have h2:=h.wr;have h3:=h.w2;have h4:=h.wf;exact⟨h.mv.trans hm,(hm.cell (a:=⟨br,0,none⟩) h.rl (by show br≠R;omega)).trans h.v,zl h.th (hm.block' h.l2 (by omega)),h.va.of (hm.block' h.fl (by omega)),ha,h1,h2,h3,h4,h.rf,h.f2,aS h.rl hm.size,aS h.l2 hm.size,aS h.fl hm.size⟩
def Fs.set{S:Src}{cs:List Value}{ts:List Tok}{cur:World}(h:Fs R S w br b2 bf cs ts cur)(i:Nat)(u:Value):Fs R S w br b2 bf (cs.set i u) ts (cur.setCell ⟨bf,i,none⟩ u):=by
 have h1:=h.hR;have h4:=h.wf;refine⟨h.mv.low (qz (b:=bf)) h.wf,?_,zl h.th (zo _ h.f2),h.va.set i u,h.at'.other (g:=bf) (by omega) (fun k hk=>zo k hk),h1,h.wr,h.w2,h4,h.rf,h.f2,by rw[zB];exact h.rl,by rw[zB];exact h.l2,by rw[zB];exact h.fl⟩;rw[yp (a:=⟨br,0,none⟩) (zo _ h.rf)];exact h.v
def vv{lo B bf i:Nat}(h:bf<lo):Same (Rng lo B) w (w.setCell ⟨bf,i,none⟩ u):=fun q hq=>zo q (by have:=hq.1;omega)
def jl{R lo B:Nat}(hm:zr R w w')(hB:B<=w.heap.size)(hR:R<lo):Same (Rng lo B) w w':=hm.same fun q hq=>⟨by have:=hq.2;omega,by have:=hq.1;omega⟩
def function(R:Nat)(S:Src)(hsm:S.all.length<=4096)(ts:List Tok)(w:World)(ha:At w R S ts):Calls prog 64 #[.pointer (some ⟨R,0,none⟩)] w (Got R S (QFu w.heap.size) w (zh5 S.z ts)):=by
 have hmf:∀(fn:Fn) (first cap:Array Value) (w:World),(Instr.makeFunc fn first cap).run prog w=.ok (.func fn first cap) w:=fun _ _ _ _=>rfl;have hR:=ha.lt;have HBk:=aQ (ze4 R S hsm 32 (aR _));obtain⟨t,ht⟩:∃t,qE S.z ts=t:=⟨_,rfl⟩;have HW:=aQ (zmt S.z ts t ht);obtain⟨a0,b0,n0,n1,s0⟩:=yP ha (.cells #[.pointer (some ⟨R,0,none⟩)] 77) (.cells #[.string ⟨#[]⟩,.slice none 0 0,.int .i64 0,.slice none 0 0,.int .i64 0] 69);have K:=aQ (peek R S ts _ a0);rw[ht]at K;simp only[tokV,tokC]at K;have hf:=fun w'=>(kT w' t).1;have c0:((w.alloc (.cells #[.pointer (some ⟨R,0,none⟩)] 77)).alloc (.cells #[.string ⟨#[]⟩,.slice none 0 0,.int .i64 0,.slice none 0 0,.int .i64 0] 69)).cell? ⟨w.heap.size,0,none⟩=some (.pointer (some ⟨R,0,none⟩)):=by rw[wy _ _ _ _ _ _ n0];rfl
 have HO:Hid (At ((w.alloc (.cells #[.pointer (some ⟨R,0,none⟩)] 77)).alloc (.cells #[.string ⟨#[]⟩,.slice none 0 0,.int .i64 0,.slice none 0 0,.int .i64 0] 69)) R S ts/\Below w.heap.size w ((w.alloc (.cells #[.pointer (some ⟨R,0,none⟩)] 77)).alloc (.cells #[.string ⟨#[]⟩,.slice none 0 0,.int .i64 0,.slice none 0 0,.int .i64 0] 69))/\((w.alloc (.cells #[.pointer (some ⟨R,0,none⟩)] 77)).alloc (.cells #[.string ⟨#[]⟩,.slice none 0 0,.int .i64 0,.slice none 0 0,.int .i64 0] 69)).heap[w.heap.size]? =some (.cells #[.pointer (some ⟨R,0,none⟩)] 77)/\((w.alloc (.cells #[.pointer (some ⟨R,0,none⟩)] 77)).alloc (.cells #[.string ⟨#[]⟩,.slice none 0 0,.int .i64 0,.slice none 0 0,.int .i64 0] 69)).heap[w.heap.size+1]? =some (.cells #[.string ⟨#[]⟩,.slice none 0 0,.int .i64 0,.slice none 0 0,.int .i64 0] 69)):=⟨a0,b0,n0,n1⟩;clear ha ht a0 b0 n0 n1
 generalize zh5 S.z ts=m at *
 go_enter func64,ntmps64
 go_wp2_with fail
 generalize(w.alloc (.cells #[.pointer (some ⟨R,0,none⟩)] 77)).alloc (.cells #[.string ⟨#[]⟩,.slice none 0 0,.int .i64 0,.slice none 0 0,.int .i64 0] 69)=w0 at *
 refine K.out.mono ?_;clear K c0;rintro e' w1 ⟨rfl,hb1⟩;obtain⟨a0,b0,n0,n1⟩:=HO.out;have s1:=hb1.size;have bt:=za w1 (.cells #[.string ⟨#[]⟩,.slice none 0 0,.int .i64 0,.slice none 0 0,.int .i64 t.aW] 69);have s2:(w1.alloc (.cells #[.string ⟨#[]⟩,.slice none 0 0,.int .i64 0,.slice none 0 0,.int .i64 t.aW] 69)).heap.size=w1.heap.size+1:=by simp
 have bb:=hb1.trans (bt.mono s1);have F2:Hid (Fs R S w w.heap.size (w.heap.size+1) w1.heap.size [.string ⟨#[]⟩,.slice none 0 0,.int .i64 0,.slice none 0 0,.int .i64 t.aW] ts (w1.alloc (.cells #[.string ⟨#[]⟩,.slice none 0 0,.int .i64 0,.slice none 0 0,.int .i64 t.aW] 69))):=by
  refine⟨(zr.of_below (R:=R) b0 (aR _)).below bb (aR _),?_,zD (cs:=[_,_,_,_,_]) ((bb.block _ (by omega)).trans n1) rfl,qj.block (cs:=[_,_,_,_,_]) (ye w1 _),a0.below bb (aR _),hR,aR _,by omega,by omega,by omega,by omega,by omega,by omega,by omega⟩;rw[wy _ _ _ _ _ _ ((bb.block _ (by omega)).trans n0)];rfl
 have M12:=aQ (zr.of_below (R:=R) bt (aR _));have W1:Hid (zr R w w1):=(zr.of_below (R:=R) b0 (aR _)).below hb1 (aR _);have K:=aQ (want R S ts [102,110] ⟨#[102,110]⟩ _ F2.out.at' (by kernel_rfl) (by unfold Byn;decide));have hv:=F2.out.v;clear hb1 a0 b0 n0 n1 bt bb HO
 go_wp2_with fail
 generalize w1.alloc (.cells #[.string ⟨#[]⟩,.slice none 0 0,.int .i64 0,.slice none 0 0,.int .i64 t.aW] 69)=w2 at *
 refine K.out.mono ?_;clear K hv;rintro e' w3 ⟨hm,⟨u,r3,xu,hr,rfl,hq,ha3⟩|⟨c,q,hr,rfl⟩⟩
 ·rw[show xu=.tuple #[] from hq];have F3:=aQ (F2.out.moves hm ha3);have M13:=aQ (M12.out.trans hm);have HW3:Hid (m=(yE S.z r3).bind fun s r1=>(wq S.z (jU S.z) r1).bind fun l r2=>(if zC S.z [[58]] r2 then j7 S.z r2.tail else .ok 0 r2).bind fun n r3=>(jf S.z 32 r3).bind fun b r4=>.ok ⟨s,l,n,b,t.aW⟩ r4):=by show _=_;rw[HW.out,hr];rfl
  have K:=aQ (name R S r3 w3 ha3);have hv:=F3.out.v;clear hm hr hq ha3 HW
  (go_wp2_with fail);refine K.out.mono ?_;clear K hv;rintro e' w4 ⟨hm,⟨s,r4,xs,hr,rfl,hq,ha4⟩|⟨c,q,hr,rfl⟩⟩
  ·rw[show xs=.string (strN s) from hq];have F4:=F3.out.moves hm ha4;have s4:=hm.size;obtain⟨cc0,cf0⟩:=F4.va.cell 0 _ rfl;have F5:=F4.set 0 (.string (strN s));have HF5:=aQ F5;have M15:=(M13.out.trans hm).low (qz (b:=w1.heap.size) (i:=0) (u:=.string (strN s))) (aR _);have HW5:Hid (m=(wq S.z (jU S.z) r4).bind fun l r2=>(if zC S.z [[58]] r2 then j7 S.z r2.tail else .ok 0 r2).bind fun n r3=>(jf S.z 32 r3).bind fun b r4=>.ok ⟨s,l,n,b,t.aW⟩ r4):=by show _=_;rw[HW3.out,hr];rfl
   have s5:(w4.setCell ⟨w1.heap.size,0,none⟩ (.string (strN s))).heap.size=w4.heap.size:=zB;have fl4:=F4.fl;have rl4:=F4.rl;have hcok:(⟨R,S,w1,w1.heap.size,w.heap.size,w4.heap.size,s,t.aW⟩:Fp).Ok:=⟨by show R<w1.heap.size;omega,aR _,by show w.heap.size≠R;omega,fl4,rl4,by show w1.heap.size≠w.heap.size;omega,hsm⟩;have hI0:(⟨R,S,w1,w1.heap.size,w.heap.size,w4.heap.size,s,t.aW⟩:Fp).I [] (w4.setCell ⟨w1.heap.size,0,none⟩ (.string (strN s))):=⟨.slice none 0 0,by show w4.heap.size<=_;omega,M15,F5.v,F5.va,World.ownsRow_nil _ _ _ _⟩
   have hpart:zj4 R S 113 #[.pointer (some ⟨w.heap.size,0,none⟩),.pointer (some ⟨w1.heap.size,0,none⟩)] (jU S.z) (⟨R,S,w1,w1.heap.size,w.heap.size,w4.heap.size,s,t.aW⟩:Fp).I (zr R w1):=
    ⟨zu8,wZ S.z,fun l a b h hm=>by obtain⟨U,hU⟩:=h;exact⟨U,hU.moves hcok hm⟩,fun l a h=>by obtain⟨U,hU⟩:=h;exact hU.mv,fun l a q h1 h2 h3=>zuw _ hcok l q a h1 h2 h3⟩
   have K:=aQ (list R S 113 _ (jU S.z) _ _ hpart r4 _ F5.at' hI0);have hv:=F5.v;clear hm hr hq ha4 F4 F5 M15 hI0 hpart HW3
   go_wp2_with fail
   generalize w4.setCell ⟨w1.heap.size,0,none⟩ (.string (strN s))=w5 at *
   refine K.out.mono ?_;clear K hv cc0 cf0;rintro e' w6 (⟨l,r6,hr,rfl,hI,ha6⟩|⟨c,q,hr,rfl,hj⟩)
   ·obtain⟨U,hlo6',hmv6',hv6,hva6,hown6⟩:=hI;obtain⟨A,cp,rfl⟩:=qm hown6;have hmv6:zr R w1 w6:=hmv6';have hlo6:w4.heap.size<=w6.heap.size:=hlo6';have hva6':qj w6 w1.heap.size [.string (strN s),.slice A l.length cp,.int .i64 0,.slice none 0 0,.int .i64 t.aW]:=hva6
    have F6:Hid (Fs R S w w.heap.size (w.heap.size+1) w1.heap.size [.string (strN s),.slice A l.length cp,.int .i64 0,.slice none 0 0,.int .i64 t.aW] r6 w6):=
     ⟨W1.out.trans hmv6,hv6,zl F2.out.th ((hmv6.block' (by omega) (by omega)).trans (M12.out.block' (by omega) (by omega)).symm),hva6',ha6,hR,aR _,by omega,by omega,by omega,by omega,by omega,by omega,by omega⟩
    have P6:Hid (RowF w6 (Rng w4.heap.size w6.heap.size) l.length (pasC l) (.slice A l.length cp)):=RowF.own hown6;have HW6:Hid (m=(if zC S.z [[58]] r6 then j7 S.z r6.tail else .ok 0 r6).bind fun n r3=>(jf S.z 32 r3).bind fun b r4=>.ok ⟨s,l,n,b,t.aW⟩ r4):=by show _=_;rw[HW5.out,hr];rfl
    have K:=aQ (xA R S r6 [58] ⟨#[58]⟩ w6 ha6 (by kernel_rfl) (by unfold Byn;decide));have hv:=F6.out.v;clear hr hlo6' hmv6' hv6 hva6 hva6' hown6 ha6 hmv6 HW5;cases hs:zC S.z [[58]] r6 with
    | false=>
     rw[hs]at K HW6;have HW7:Hid (m=(jf S.z 32 r6).bind fun b r4=>.ok ⟨s,l,0,b,t.aW⟩ r4):=by show _=_;rw[HW6.out];rfl
     clear hs HW6
     (go_wp2_with fail);refine K.out.mono ?_;clear K hv;rintro e' w7 ⟨rfl,hm,ha7⟩;have ha7':At w7 R S r6:=ha7;have F7:=aQ (F6.out.moves hm ha7');have s7:=hm.size;have P7:=aQ ((P6.out.same (jl hm (aR _) (by omega))).more (D':=Rng w4.heap.size w7.heap.size) fun q h=>⟨h.1,aS h.2 hm.size⟩);clear hm ha7 ha7';have K:=aQ (HBk.out w7 r6 F7.out.at');rw[show((33-32:Nat):Int)=1 from rfl]at K;have hv:=F7.out.v
     (go_wp2_with fail);refine K.out.mono ?_;clear K hv;rintro e' wb ⟨hm,⟨bl,rb,Bv,hr,rfl,hq,hab⟩|⟨c,q,hr,rfl⟩⟩
     ·obtain⟨A9,c9,rfl⟩:=qg hq;have F9:=F7.out.moves hm hab;have s9:=hm.size;have P9:=P7.out.same (jl hm (aR _) (by omega));obtain⟨cc3,cf3⟩:=F9.va.cell 3 _ rfl;have F10:=F9.set 3 (.slice A9 bl.length c9);obtain⟨q0,_⟩:=F10.va.cell 0 _ rfl;obtain⟨q1,_⟩:=F10.va.cell 1 _ rfl;obtain⟨q2,_⟩:=F10.va.cell 2 _ rfl;obtain⟨q3,_⟩:=F10.va.cell 3 _ rfl;obtain⟨q4,_⟩:=F10.va.cell 4 _ rfl;have hwf:=F7.out.fl;have P10:=aQ (P9.same (vv (i:=3) (u:=.slice A9 bl.length c9) (bf:=w1.heap.size) fl4));have B10:=aQ (StsC.same hq (vv (i:=3) (u:=.slice A9 bl.length c9) (bf:=w1.heap.size) hwf));have HF10:=aQ F10;have HW10:Hid (m=.ok ⟨s,l,0,bl,t.aW⟩ rb):=by show _=_;rw[HW7.out,hr];rfl
      clear hm hr hq hab F9 F10 P9
      go_wp2_with(refine zc zcx rfl (.tmp 2) (.tmp 24) rfl rfl (w.heap.size+1) rfl [_,_,_,_,_] rfl rfl HF10.out.th (by simp[Value.oneCell']) ?_;intro w12 g1 g2 g3 g4 g5)
      refine vS (zx (cs:=[_,_,_,_,_]) results64 underlying69 rfl zcx _ _ (w.heap.size+1) rfl g1) rfl ?_;refine .ok (HF10.out.mv.low g3 (by omega)) HW10.out ⟨⟨.slice A l.length cp,.slice A9 bl.length c9⟩,rfl,?_,?_⟩ (HF10.out.at'.other (by omega) g4)
      ·exact(P10.out.same fun q h=>g4 q (by have:=h.1;omega)).more fun q h=>⟨by have:=h.1;omega,by rw[g5,zB];have:=h.2;omega⟩
      ·exact(B10.out.same fun q h=>g4 q (by have:=h.1;omega)).more fun q h=>⟨by have:=h.1;omega,by rw[g5,zB];exact h.2⟩
     ·have HQ:=aQ (F7.out.mv.trans hm);have HR:=aQ hr;clear hm hr;go_wp2;exact⟨rfl,.bad HQ.out (by rw[HW7.out,HR.out];rfl)⟩
    | true=>
     rw[hs]at K HW6;have HW7:Hid (m=(j7 S.z r6.tail).bind fun n r3=>(jf S.z 32 r3).bind fun b r4=>.ok ⟨s,l,n,b,t.aW⟩ r4):=by show _=_;rw[HW6.out];rfl
     clear hs HW6
     (go_wp2_with fail);refine K.out.mono ?_;clear K hv;rintro e' w7 ⟨rfl,hm,ha7⟩;have ha7':At w7 R S r6.tail:=ha7;have F7:=aQ (F6.out.moves hm ha7');have s7:=hm.size;have P7:=aQ ((P6.out.same (jl hm (aR _) (by omega))).more (D':=Rng w4.heap.size w7.heap.size) fun q h=>⟨h.1,aS h.2 hm.size⟩);clear hm ha7 ha7';have K:=aQ (zad R S r6.tail w7 F7.out.at');have hv:=F7.out.v
     (go_wp2_with fail);refine K.out.mono ?_;clear K hv;rintro e' w8 ⟨hm,⟨n,r8,xn,hr,rfl,hq,ha8⟩|⟨c,q,hr,rfl⟩⟩
     ·rw[show xn=.int .i64 n from hq];have F8:=F7.out.moves hm ha8;have s8:=hm.size;obtain⟨cc2,cf2⟩:=F8.va.cell 2 _ rfl;have F8s:=aQ (F8.set 2 (.int .i64 n));have P8:=aQ (((P7.out.same (jl hm (aR _) (by omega))).same (vv (i:=2) (u:=.int .i64 n) (bf:=w1.heap.size) fl4)).more (D':=Rng w4.heap.size (w8.setCell ⟨w1.heap.size,2,none⟩ (.int .i64 n)).heap.size) fun q h=>⟨h.1,by rw[zB];exact aS h.2 hm.size⟩);have s8s:(w8.setCell ⟨w1.heap.size,2,none⟩ (.int .i64 n)).heap.size=w8.heap.size:=zB;have HW8:Hid (m=(jf S.z 32 r8).bind fun b r4=>.ok ⟨s,l,n,b,t.aW⟩ r4):=by show _=_;rw[HW7.out,hr];rfl
      clear hm hr hq ha8 F8 HW7;(go_upto_region 7 with fail);clear cc2 cf2
      generalize w8.setCell ⟨w1.heap.size,2,none⟩ (.int .i64 n)=w9 at *
      have K:=aQ (HBk.out w9 r8 F8s.out.at');rw[show((33-32:Nat):Int)=1 from rfl]at K;have hv:=F8s.out.v
      (go_wp2_with fail);refine K.out.mono ?_;clear K hv;rintro e' wb ⟨hm,⟨bl,rb,Bv,hr,rfl,hq,hab⟩|⟨c,q,hr,rfl⟩⟩
      ·obtain⟨A9,c9,rfl⟩:=qg hq;have F9:=F8s.out.moves hm hab;have s9:=hm.size;have P9:=P8.out.same (jl hm (aR _) (by omega));obtain⟨cc3,cf3⟩:=F9.va.cell 3 _ rfl;have F10:=F9.set 3 (.slice A9 bl.length c9);obtain⟨q0,_⟩:=F10.va.cell 0 _ rfl;obtain⟨q1,_⟩:=F10.va.cell 1 _ rfl;obtain⟨q2,_⟩:=F10.va.cell 2 _ rfl;obtain⟨q3,_⟩:=F10.va.cell 3 _ rfl;obtain⟨q4,_⟩:=F10.va.cell 4 _ rfl;have hwf:=F8s.out.fl;have P10:=aQ (P9.same (vv (i:=3) (u:=.slice A9 bl.length c9) (bf:=w1.heap.size) fl4));have B10:=aQ (StsC.same hq (vv (i:=3) (u:=.slice A9 bl.length c9) (bf:=w1.heap.size) hwf));have HF10:=aQ F10;have HW10:Hid (m=.ok ⟨s,l,n,bl,t.aW⟩ rb):=by show _=_;rw[HW8.out,hr];rfl
       clear hm hr hq hab F9 F10 P9
       go_wp2_with(refine zc zcx rfl (.tmp 2) (.tmp 24) rfl rfl (w.heap.size+1) rfl [_,_,_,_,_] rfl rfl HF10.out.th (by simp[Value.oneCell']) ?_;intro w12 g1 g2 g3 g4 g5)
       refine vS (zx (cs:=[_,_,_,_,_]) results64 underlying69 rfl zcx _ _ (w.heap.size+1) rfl g1) rfl ?_;refine .ok (HF10.out.mv.low g3 (by omega)) HW10.out ⟨⟨.slice A l.length cp,.slice A9 bl.length c9⟩,rfl,?_,?_⟩ (HF10.out.at'.other (by omega) g4)
       ·exact(P10.out.same fun q h=>g4 q (by have:=h.1;omega)).more fun q h=>⟨by have:=h.1;omega,by rw[g5,zB];have:=h.2;omega⟩
       ·exact(B10.out.same fun q h=>g4 q (by have:=h.1;omega)).more fun q h=>⟨by have:=h.1;omega,by rw[g5,zB];exact h.2⟩
      ·have HQ:=aQ (F8s.out.mv.trans hm);have HR:=aQ hr;clear hm hr;go_wp2;exact⟨rfl,.bad HQ.out (by rw[HW8.out,HR.out];rfl)⟩
     ·have HQ:=aQ (F7.out.mv.trans hm);have HR:=aQ hr;clear hm hr;go_wp2;exact⟨rfl,.bad HQ.out (by rw[HW7.out,HR.out];rfl)⟩
   ·have HQ:=aQ (W1.out.trans hj);have HR:=aQ hr;clear hj hr;go_wp2;exact⟨rfl,.bad HQ.out (by rw[HW5.out,HR.out];rfl)⟩
  ·have HQ:=aQ (F3.out.mv.trans hm);have HR:=aQ hr;clear hm hr;go_wp2;exact⟨rfl,.bad HQ.out (by rw[HW3.out,HR.out];rfl)⟩
 ·have HQ:=aQ (F2.out.mv.trans hm);have HR:=aQ hr;clear hm hr;go_wp2;exact⟨rfl,.bad HQ.out (by rw[HW.out,HR.out];rfl)⟩
def zux:(prog.info? 69).map (fun i=>(i.zero,i.size,i.bytes))=some (some (.agg #[.string ⟨#[]⟩,.slice none 0 0,.int .i64 0,.slice none 0 0,.int .i64 0]),5,80):=by kernel_rfl
def zf3:(prog.info? 26).map (·.size)=some 1:=by kernel_rfl
def zre{a b:Int}{s:ByteArray}{A1 A2:Option Addr}{n1 m1 n2 m2:Nat}:∀u∈[Value.string s,.slice A1 n1 m1,.int .i64 a,.slice A2 n2 m2,.int .i64 b],u.oneCell'=true:=by
 intro u hu;simp at hu;rcases hu with rfl|rfl|rfl|rfl|rfl<;>rfl
def OwnF(lo:Nat)(w:World)(l:List Fu)(V:Value):Prop:=
 ∃ks:List Two,ks.length=l.length/\w.ownsRow lo 69 5 V l.length (fusC l ks)/\∀(i:Nat) (f:Fu) (k:Two),l[i]? =some f->ks[i]? =some k->FuK w (fun b=>(lo<=b/\some b≠V.ownBlock)/\b<w.heap.size) f k
def OwnF.fus{lo:Nat}{l:List Fu}{V:Value}(h:OwnF lo w l V):FusC w (Rng lo w.heap.size) l V:=by
 obtain⟨ks,h1,h2,h3⟩:=h;exact⟨ks,h1,RowF.own h2,fun i f k a b=>(h3 i f k a b).more fun q hq=>⟨hq.1.1,hq.2⟩⟩
def OwnF.moves{R lo:Nat}{l:List Fu}{V:Value}(h:OwnF lo w l V)(hm:zr R w w')(hR:R<lo):OwnF lo w' l V:=by
 obtain⟨ks,h1,h2,h3⟩:=h;refine⟨ks,h1,h2.kept hm ?_,fun i e k he hk=>((h3 i e k he hk).same (hm.same fun q hq=>⟨hq.2,by omega⟩)).more fun q hq=>⟨hq.1,aS hq.2 hm.size⟩⟩;cases hv:V.ownBlock with
 | none=>exact .inl rfl
 | some k=>
  refine .inr fun e=>?_;injection e with e
  have:=(h2.lt k hv).1;omega
def OwnF.shape{lo:Nat}{l:List Fu}{V:Value}(h:OwnF lo w l V):∃A cp,V=.slice A l.length cp:=by
 obtain⟨ks,_,ho,_⟩:=h;exact qm ho
def kJ{z f:Nat}{l:List Fu}{t:Tok}{r:List Tok}:za1 z (f+1) l (t::r)=(zh5 z (t::r)).bind fun x r=>za1 z f (l++[x]) r:=by
 rw[za1];rfl
def zlg{l:List Fu}:∀f,za1 z f l []=.ok l []
 | 0=>rfl
 | f+1=>by rw[za1];rfl
structure Pg(R:Nat)(S:Src)(w:World)(l:List Fu)(U:Value)(ts:List Tok)(cur:World):Prop where
 hlo:w.heap.size+2<=cur.heap.size
 mv:zr R w cur
 th:cur.there w.heap.size 0 1
 va:qj cur (w.heap.size+1) [U]
 own:OwnF (w.heap.size+2) cur l U
 at':At cur R S ts
def Pg.moves{S:Src}{l:List Fu}{ts ts':List Tok}{cur cur':World}(h:Pg R S w l U ts cur)(hR:R<w.heap.size)(hm:zr R cur cur')(ha:At cur' R S ts'):Pg R S w l U ts' cur':=by
 have h1:=h.hlo;exact⟨aT h1 hm.size,h.mv.trans hm,zl h.th (hm.block' (by omega) (by omega)),h.va.of (hm.block' (by omega) (by omega)),h.own.moves hm (by omega),ha⟩
def Pg.done{S:Src}{l:List Fu}{U V:Value}{f:Fu}{k:Two}{ks:List Two}{ts:List Tok}{cur wb:World}(h:Pg R S w l U ts cur)(hR:R<w.heap.size)(hk:ks.length=l.length)(ho0:cur.ownsRow (w.heap.size+2) 69 5 U l.length (fusC l ks))(h3:∀(i:Nat) (f:Fu) (k:Two),l[i]? =some f->ks[i]? =some k->FuK cur (fun b=>(w.heap.size+2<=b/\some b≠U.ownBlock)/\b<cur.heap.size) f k)
  (hf:FuK cur (fun b=>(w.heap.size+2<=b/\some b≠U.ownBlock)/\b<cur.heap.size) f k) (ho:wb.ownsRow (w.heap.size+2) 69 5 V (l.length+1) (fusC l ks++fuC f k.p k.b)) (hg:cur.grownBy wb U.ownBlock) (hv:V.ownBlock=U.ownBlock\/∃g,V.ownBlock=some g/\cur.heap.size<=g) :
  Pg R S w (l++[f]) V ts (wb.setCell ⟨w.heap.size+1,0,none⟩ V)/\qj wb (w.heap.size+1) [U]:=by
 have h1:=h.hlo;have hb:Below (w.heap.size+2) cur wb:=⟨hg.os,hg.tape,hg.output,hg.size,fun q hq=>hg.block q (by omega) fun e=>by have:=(ho0.lt q e.symm).1;omega⟩;have hst:∀q,q≠w.heap.size+1->(wb.setCell ⟨w.heap.size+1,0,none⟩ V).heap[q]? =wb.heap[q]?:=fun q hq=>zo q hq;have va':=h.va.of (hb.block _ (by omega))
 have hsame:∀ {f:Fu} {k:Two},FuK cur (fun b=>(w.heap.size+2<=b/\some b≠U.ownBlock)/\b<cur.heap.size) f k->FuK (wb.setCell ⟨w.heap.size+1,0,none⟩ V) (fun b=>(w.heap.size+2<=b/\some b≠V.ownBlock)/\b<(wb.setCell ⟨w.heap.size+1,0,none⟩ V).heap.size) f k:=fun h=>
  ((h.same (fun b hb=>hg.block b hb.2 hb.1.2)).same fun b hb=>hst b (by have:=hb.1.1;omega)).more fun b hb=>⟨⟨hb.1.1,by
   rcases hv with e|⟨g,e,hge⟩
   ·rw[e];exact hb.1.2
   ·rw[e];intro h2;injection h2;omega⟩,by rw[zB];exact aS hb.2 hg.size⟩
 refine⟨⟨by rw[zB];exact aT h1 hg.size,(h.mv.low hb (by omega)).low (qz (b:=w.heap.size+1)) (by omega),zl h.th ((hst _ (by omega)).trans (hb.block _ (by omega))),va'.set 0 V,⟨ks++[k],by simp[hk],?_,fun i e q he hq=>?_⟩,(h.at'.under hb (by omega)).under (qz (b:=w.heap.size+1)) (by omega)⟩,va'⟩
 ·rw[zlo l ks hk,aA];refine⟨ho.1,?_⟩;rcases ho.2 with h'|⟨g,cap,cur',rfl,hg1,hg2,rest⟩
  ·exact .inl h'
  ·exact .inr ⟨g,cap,cur',rfl,hg1,by rw[hst g (by omega)];exact hg2,rest⟩
 ·rcases xH he with he|⟨e1,rfl⟩<;>rcases xH hq with hq|⟨e2,rfl⟩
  ·exact hsame (h3 i e q he hq)
  ·have:=(vm.1 he).1;omega
  ·have:=(vm.1 hq).1;omega
  ·exact hsame hf
def PrgS(R:Nat)(S:Src)(w:World)(m:Res (List Fu))(wr:World):Prop:=
 ∃l U ts f,Pg R S w l U ts wr/\ts.length<=f/\l.length+ts.length<=S.all.length/\m=za1 S.z f l ts
def QP(lo:Nat)(w:World)(l:List Fu)(v:Value):Prop:=∃V,v=.agg #[V]/\FusC w (Rng lo w.heap.size) l V
def program(R:Nat)(S:Src)(hsm:S.all.length<=4096)(ts:List Tok)(w:World)(ha:At w R S ts):Calls prog 35 #[.pointer (some ⟨R,0,none⟩)] w (Got R S (QP w.heap.size) w (ja S.z ts)):=by
 have hR:=ha.lt;obtain⟨i0,hi,hz0,hz1,hz2⟩:=info_parts zux;have HF:=aQ (fun w1 ts1 h=>function R S hsm ts1 w1 h);have HW:Hid (ja S.z ts=za1 S.z ts.length [] ts):=rfl;obtain⟨a0,b0,n0,n1,s0⟩:=yP ha (.cells #[.slice none 0 0] 26) (.cells #[.slice none 0 0] 26);have hG:Hid (PrgS R S w (ja S.z ts) ((w.alloc (.cells #[.slice none 0 0] 26)).alloc (.cells #[.slice none 0 0] 26))):=⟨[],.slice none 0 0,ts,ts.length,⟨by omega,zr.of_below b0 (aR _),zD (cs:=[_]) n0 rfl,qj.block (cs:=[_]) n1,⟨[],rfl,World.ownsRow_nil _ _ _ _,fun i f k h=>by simp at h⟩,a0⟩,aR _,by have:=ha.len;simpa using this,rfl⟩;clear ha a0 b0 n0 n1
 generalize ja S.z ts=m at *
 go_enter func35,ntmps35;go_wp2
 generalize(w.alloc (.cells #[.slice none 0 0] 26)).alloc (.cells #[.slice none 0 0] 26)=w0 at *
 go_loopw [] (fun wr=>PrgS R S w m wr) (fun wr=>S.all.length-zbb R wr)
 case atStart=>exact hG.out
 case round=>
  obtain⟨l,U,ts2,f,hP,hf,hll,hmr⟩:=hrel;obtain⟨A,cp,rfl⟩:=hP.own.shape;obtain⟨hok,i,hi2,hts,hblk⟩:=hP.at';obtain⟨c0,c1,_⟩:=At.cells hblk;unfold Src.V at c0;have hmx:=hok.2.1;have hcx:=hok.1;unfold maxLen at hmx
  generalize Option.map (fun g=>(⟨g,0,none⟩:Addr)) S.g=Ag at *
  have HP:=aQ hP;have hnx:=aQ hP.at'.next;by_cases hlt:i<S.all.length
  ·have hts2:ts2=S.all[i]::S.all.drop (i+1):=by rw[hts,wv hlt]
   have HQ:Hid (ts2.length<=f/\l.length+ts2.length<=S.all.length/\m=za1 S.z f l ts2/\∃t r,ts2=t::r):=⟨hf,hll,hmr,_,_,hts2⟩;have hn:l.length<=4096:=by omega
   have HD:Hid (∀n,Pg R S w l (.slice A l.length cp) ts2 ((wr.drewN n).drew)):=fun n=>HP.out.moves hR (w:=w) ⟨rfl,rfl,rfl,aR _,fun _ _ _=>rfl⟩ (hP.at'.below (zW (Below.refl wr.heap.size wr) n).drew (aR _));clear hok hts hblk hts2 hf hll hmr hP
   (go_wp2_with fail);go_quiet (fail)
   (go_wp2_with fail);have HJ:=aQ (HD.out nq);refine wp_region_held_drew (S:=fun _=>True) (by kernel_rfl) trivial (fun hHeld=>?_);refine aO 0 ?_
   try simp only[Act.put,zzs]
   refine aO 2 ?_
   try simp only[Act.put,zzs]
   generalize(wr.drewN nq).drew=wd at *
   refine ab 1 3 rfl rfl (fun K hK=>?_) fun K hK=>?_
   ·have hce:=(HJ.out.va.cell 0 _ rfl).1;go_simp;clear hce;refine hK.out _ _ trivial (fun hHeld=>?_);clear hK K;refine aa 3 rfl fun K hK=>?_;go_simp;refine(HF.out _ ts2 HJ.out.at').mono ?_;rintro e' wc ⟨hm,⟨g,r4,gv,hr,rfl,hq,ha4⟩|⟨cc,q,hr,rfl⟩⟩
    ·obtain⟨⟨kp,kb⟩,rfl,hp4,hb4⟩:=hq;obtain⟨A2,c2,h2⟩:=qg hb4;obtain⟨A1,c1,h1⟩:∃A1 c1,kp=.slice A1 g.params.length c1:=by obtain⟨A1,c1,h,_⟩:=hp4;exact⟨A1,c1,h⟩
     dsimp only at h1 h2;subst h1 h2;have J4:=aQ (HJ.out.moves hR hm ha4);have Y4:Hid (FuK wc (fun q=>(w.heap.size+2<=q/\some q≠(Value.slice A l.length cp).ownBlock)/\q<wc.heap.size) g ⟨.slice A1 g.params.length c1,.slice A2 g.body.length c2⟩):=by
      refine FuK.more (D:=Rng wd.heap.size wc.heap.size) ⟨hp4,hb4⟩ fun q h=>⟨⟨?_,?_⟩,h.2⟩
      ·have:=h.1;have:=HJ.out.hlo;omega
      ·intro e;obtain⟨ks',_,ho',_⟩:=HJ.out.own;have h1:=(ho'.lt q e.symm).2;have h2:=h.1;omega
     have HR:=aQ hr;clear hm hr ha4 hp4 hb4;refine hK.out _ _ trivial (fun hHeld=>?_);clear hK K;refine aa 4 rfl fun K hK=>?_;simp only[fuC];go_simp;have mz:=zr.alloc R wc (.cells #[.string (strN g.name),.slice A1 g.params.length c1,.int .i64 g.result,.slice A2 g.body.length c2,.int .i64 g.aW] 69);have bz:=za wc (.cells #[.string (strN g.name),.slice A1 g.params.length c1,.int .i64 g.result,.slice A2 g.body.length c2,.int .i64 g.aW] 69);have J5:=aQ (J4.out.moves hR mz (J4.out.at'.below bz (aR _)));have Y5:=aQ ((Y4.out.same fun q h=>bz.block q h.2).more (D':=fun q=>(w.heap.size+2<=q/\some q≠(Value.slice A l.length cp).ownBlock)/\q<(wc.alloc (.cells #[.string (strN g.name),.slice A1 g.params.length c1,.int .i64 g.result,.slice A2 g.body.length c2,.int .i64 g.aW] 69)).heap.size) fun q h=>⟨h.1,aS h.2 bz.size⟩);have HN:Hid (∀(j:Nat) (u:Value),(fuC g (.slice A1 g.params.length c1) (.slice A2 g.body.length c2))[j]? =some u->(wc.alloc (.cells #[.string (strN g.name),.slice A1 g.params.length c1,.int .i64 g.result,.slice A2 g.body.length c2,.int .i64 g.aW] 69)).cell? ((Addr.mk wc.heap.size 0 none).add j)=some u):=fun j u hu=>by
      rw[Addr.add_mid];exact zZ (cs:=fuC g (.slice A1 g.params.length c1) (.slice A2 g.body.length c2)) (ye wc (.cells #[.string (strN g.name),.slice A1 g.params.length c1,.int .i64 g.result,.slice A2 g.body.length c2,.int .i64 g.aW] 69)) j u hu
     clear mz bz
     generalize wc.alloc (.cells #[.string (strN g.name),.slice A1 g.params.length c1,.int .i64 g.result,.slice A2 g.body.length c2,.int .i64 g.aW] 69)=wz at *
     refine hK.out _ _ trivial (fun hHeld=>?_);clear hK K;obtain⟨ks,hks,hown,hkid⟩:=J5.out.own;refine aa 5 rfl fun K hK=>?_;rw[if_pos (by rfl)];refine zK _ (.tmp 15) (.tmp 18) 24 rfl (w.heap.size+2) 69 i0 _ 5 80 underlying24 hi hz0 hz1 hz2 rfl (by omega) _ _ _ rfl hown ⟨wc.heap.size,0,none⟩ 1 (fuC g (.slice A1 g.params.length c1) (.slice A2 g.body.length c2)) rfl rfl HN.out zre (by omega) (by unfold maxLen;omega) J5.out.hlo ?_;intro v' wb ho hg hv;obtain⟨A6,c6,rfl⟩:=qm ho;obtain⟨D1,D2⟩:=J5.out.done hR hks hown hkid Y5.out ho hg hv;have HJ6:=aQ D1;have HV6:=aQ D2;clear ho hg hv D1 D2 HN hown hkid;refine hK.out _ _ trivial (fun hHeld=>?_);clear hK K;simp only[Act.put,zz4,zz5,zz6];refine aO 6 ?_
     try simp only[Act.put,zzs]
     refine aa 7 rfl fun K hK=>?_;obtain⟨hce,hcf⟩:=HV6.out.cell 0 _ rfl;go_simp;clear hce hcf;refine hK.out _ _ trivial (fun hHeld=>?_);clear hK K;refine aJ (by kernel_rfl) ?_ _;go_wp2
     go_roundw
     case rel=>
      obtain⟨hq1,hq2,hq3,t0,r0,hq4⟩:=HQ.out;obtain⟨f',rfl⟩:∃f',f=f'+1:=⟨f-1,by rw[hq4]at hq1;simp at hq1;omega⟩;have ht:=x6 S.z _ _ _ HR.out;exact⟨l++[g],_,r4,f',HJ6.out,by omega,by simp;omega,by rw[hq3,hq4,kJ,<- hq4,HR.out];rfl⟩
     case measure=>
      have ht:=x6 S.z _ _ _ HR.out;rw[hnx.out,HJ6.out.at'.next];omega
    ·obtain⟨hq1,hq2,hq3,t0,r0,hq4⟩:=HQ.out;obtain⟨f',rfl⟩:∃f',f=f'+1:=⟨f-1,by rw[hq4]at hq1;simp at hq1;omega⟩;exact⟨rfl,.bad (HJ.out.mv.trans hm) (by rw[hq3,hq4,kJ,<- hq4,hr];rfl)⟩
   ·go_simp;refine(HF.out _ ts2 HJ.out.at').mono ?_;rintro e' wc ⟨hm,⟨g,r4,gv,hr,rfl,hq,ha4⟩|⟨cc,q,hr,rfl⟩⟩
    ·obtain⟨⟨kp,kb⟩,rfl,hp4,hb4⟩:=hq;obtain⟨A2,c2,h2⟩:=qg hb4;obtain⟨A1,c1,h1⟩:∃A1 c1,kp=.slice A1 g.params.length c1:=by obtain⟨A1,c1,h,_⟩:=hp4;exact⟨A1,c1,h⟩
     dsimp only at h1 h2;subst h1 h2;have J4:=aQ (HJ.out.moves hR hm ha4);have Y4:Hid (FuK wc (fun q=>(w.heap.size+2<=q/\some q≠(Value.slice A l.length cp).ownBlock)/\q<wc.heap.size) g ⟨.slice A1 g.params.length c1,.slice A2 g.body.length c2⟩):=by
      refine FuK.more (D:=Rng wd.heap.size wc.heap.size) ⟨hp4,hb4⟩ fun q h=>⟨⟨?_,?_⟩,h.2⟩
      ·have:=h.1;have:=HJ.out.hlo;omega
      ·intro e;obtain⟨ks',_,ho',_⟩:=HJ.out.own;have h1:=(ho'.lt q e.symm).2;have h2:=h.1;omega
     have HR:=aQ hr;clear hm hr ha4 hp4 hb4;refine hK.out _ _ trivial (fun hHeld=>?_);clear hK K;refine ab 1 4 rfl rfl (fun K hK=>?_) fun K hK=>?_
     ·have hce:=(J4.out.va.cell 0 _ rfl).1;go_simp;clear hce;refine hK.out _ _ trivial (fun hHeld=>?_);clear hK K;refine aa 4 rfl fun K hK=>?_;simp only[fuC];go_simp;have mz:=zr.alloc R wc (.cells #[.string (strN g.name),.slice A1 g.params.length c1,.int .i64 g.result,.slice A2 g.body.length c2,.int .i64 g.aW] 69);have bz:=za wc (.cells #[.string (strN g.name),.slice A1 g.params.length c1,.int .i64 g.result,.slice A2 g.body.length c2,.int .i64 g.aW] 69);have J5:=aQ (J4.out.moves hR mz (J4.out.at'.below bz (aR _)));have Y5:=aQ ((Y4.out.same fun q h=>bz.block q h.2).more (D':=fun q=>(w.heap.size+2<=q/\some q≠(Value.slice A l.length cp).ownBlock)/\q<(wc.alloc (.cells #[.string (strN g.name),.slice A1 g.params.length c1,.int .i64 g.result,.slice A2 g.body.length c2,.int .i64 g.aW] 69)).heap.size) fun q h=>⟨h.1,aS h.2 bz.size⟩);have HN:Hid (∀(j:Nat) (u:Value),(fuC g (.slice A1 g.params.length c1) (.slice A2 g.body.length c2))[j]? =some u->(wc.alloc (.cells #[.string (strN g.name),.slice A1 g.params.length c1,.int .i64 g.result,.slice A2 g.body.length c2,.int .i64 g.aW] 69)).cell? ((Addr.mk wc.heap.size 0 none).add j)=some u):=fun j u hu=>by
       rw[Addr.add_mid];exact zZ (cs:=fuC g (.slice A1 g.params.length c1) (.slice A2 g.body.length c2)) (ye wc (.cells #[.string (strN g.name),.slice A1 g.params.length c1,.int .i64 g.result,.slice A2 g.body.length c2,.int .i64 g.aW] 69)) j u hu
      clear mz bz
      generalize wc.alloc (.cells #[.string (strN g.name),.slice A1 g.params.length c1,.int .i64 g.result,.slice A2 g.body.length c2,.int .i64 g.aW] 69)=wz at *
      refine hK.out _ _ trivial (fun hHeld=>?_);clear hK K;obtain⟨ks,hks,hown,hkid⟩:=J5.out.own;refine aa 5 rfl fun K hK=>?_;rw[if_pos (by rfl)];refine zK _ (.tmp 15) (.tmp 18) 24 rfl (w.heap.size+2) 69 i0 _ 5 80 underlying24 hi hz0 hz1 hz2 rfl (by omega) _ _ _ rfl hown ⟨wc.heap.size,0,none⟩ 1 (fuC g (.slice A1 g.params.length c1) (.slice A2 g.body.length c2)) rfl rfl HN.out zre (by omega) (by unfold maxLen;omega) J5.out.hlo ?_;intro v' wb ho hg hv;obtain⟨A6,c6,rfl⟩:=qm ho;obtain⟨D1,D2⟩:=J5.out.done hR hks hown hkid Y5.out ho hg hv;have HJ6:=aQ D1;have HV6:=aQ D2;clear ho hg hv D1 D2 HN hown hkid;refine hK.out _ _ trivial (fun hHeld=>?_);clear hK K;simp only[Act.put,zz4,zz5,zz6];refine aO 6 ?_
      try simp only[Act.put,zzs]
      refine aa 7 rfl fun K hK=>?_;obtain⟨hce,hcf⟩:=HV6.out.cell 0 _ rfl;go_simp;clear hce hcf;refine hK.out _ _ trivial (fun hHeld=>?_);clear hK K;refine aJ (by kernel_rfl) ?_ _;go_wp2
      go_roundw
      case rel=>
       obtain⟨hq1,hq2,hq3,t0,r0,hq4⟩:=HQ.out;obtain⟨f',rfl⟩:∃f',f=f'+1:=⟨f-1,by rw[hq4]at hq1;simp at hq1;omega⟩;have ht:=x6 S.z _ _ _ HR.out;exact⟨l++[g],_,r4,f',HJ6.out,by omega,by simp;omega,by rw[hq3,hq4,kJ,<- hq4,HR.out];rfl⟩
      case measure=>
       have ht:=x6 S.z _ _ _ HR.out;rw[hnx.out,HJ6.out.at'.next];omega
     ·simp only[fuC];go_simp;have mz:=zr.alloc R wc (.cells #[.string (strN g.name),.slice A1 g.params.length c1,.int .i64 g.result,.slice A2 g.body.length c2,.int .i64 g.aW] 69);have bz:=za wc (.cells #[.string (strN g.name),.slice A1 g.params.length c1,.int .i64 g.result,.slice A2 g.body.length c2,.int .i64 g.aW] 69);have J5:=aQ (J4.out.moves hR mz (J4.out.at'.below bz (aR _)));have Y5:=aQ ((Y4.out.same fun q h=>bz.block q h.2).more (D':=fun q=>(w.heap.size+2<=q/\some q≠(Value.slice A l.length cp).ownBlock)/\q<(wc.alloc (.cells #[.string (strN g.name),.slice A1 g.params.length c1,.int .i64 g.result,.slice A2 g.body.length c2,.int .i64 g.aW] 69)).heap.size) fun q h=>⟨h.1,aS h.2 bz.size⟩);have HN:Hid (∀(j:Nat) (u:Value),(fuC g (.slice A1 g.params.length c1) (.slice A2 g.body.length c2))[j]? =some u->(wc.alloc (.cells #[.string (strN g.name),.slice A1 g.params.length c1,.int .i64 g.result,.slice A2 g.body.length c2,.int .i64 g.aW] 69)).cell? ((Addr.mk wc.heap.size 0 none).add j)=some u):=fun j u hu=>by
       rw[Addr.add_mid];exact zZ (cs:=fuC g (.slice A1 g.params.length c1) (.slice A2 g.body.length c2)) (ye wc (.cells #[.string (strN g.name),.slice A1 g.params.length c1,.int .i64 g.result,.slice A2 g.body.length c2,.int .i64 g.aW] 69)) j u hu
      clear mz bz
      generalize wc.alloc (.cells #[.string (strN g.name),.slice A1 g.params.length c1,.int .i64 g.result,.slice A2 g.body.length c2,.int .i64 g.aW] 69)=wz at *
      refine hK.out _ _ trivial (fun hHeld=>?_);clear hK K;refine aa 1 rfl fun K hK=>?_;have hce:=(J5.out.va.cell 0 _ rfl).1;go_simp;clear hce;refine hK.out _ _ trivial (fun hHeld=>?_);clear hK K;obtain⟨ks,hks,hown,hkid⟩:=J5.out.own;refine aa 5 rfl fun K hK=>?_;rw[if_pos (by rfl)];refine zK _ (.tmp 15) (.tmp 18) 24 rfl (w.heap.size+2) 69 i0 _ 5 80 underlying24 hi hz0 hz1 hz2 rfl (by omega) _ _ _ rfl hown ⟨wc.heap.size,0,none⟩ 1 (fuC g (.slice A1 g.params.length c1) (.slice A2 g.body.length c2)) rfl rfl HN.out zre (by omega) (by unfold maxLen;omega) J5.out.hlo ?_;intro v' wb ho hg hv;obtain⟨A6,c6,rfl⟩:=qm ho;obtain⟨D1,D2⟩:=J5.out.done hR hks hown hkid Y5.out ho hg hv;have HJ6:=aQ D1;have HV6:=aQ D2;clear ho hg hv D1 D2 HN hown hkid;refine hK.out _ _ trivial (fun hHeld=>?_);clear hK K;simp only[Act.put,zz4,zz5,zz6];refine aO 6 ?_
      try simp only[Act.put,zzs]
      refine aa 7 rfl fun K hK=>?_;obtain⟨hce,hcf⟩:=HV6.out.cell 0 _ rfl;go_simp;clear hce hcf;refine hK.out _ _ trivial (fun hHeld=>?_);clear hK K;refine aJ (by kernel_rfl) ?_ _;go_wp2
      go_roundw
      case rel=>
       obtain⟨hq1,hq2,hq3,t0,r0,hq4⟩:=HQ.out;obtain⟨f',rfl⟩:∃f',f=f'+1:=⟨f-1,by rw[hq4]at hq1;simp at hq1;omega⟩;have ht:=x6 S.z _ _ _ HR.out;exact⟨l++[g],_,r4,f',HJ6.out,by omega,by simp;omega,by rw[hq3,hq4,kJ,<- hq4,HR.out];rfl⟩
      case measure=>
       have ht:=x6 S.z _ _ _ HR.out;rw[hnx.out,HJ6.out.at'.next];omega
    ·obtain⟨hq1,hq2,hq3,t0,r0,hq4⟩:=HQ.out;obtain⟨f',rfl⟩:∃f',f=f'+1:=⟨f-1,by rw[hq4]at hq1;simp at hq1;omega⟩;exact⟨rfl,.bad (HJ.out.mv.trans hm) (by rw[hq3,hq4,kJ,<- hq4,hr];rfl)⟩
  ·have hie:i=S.all.length:=by omega
   have hnil:ts2=[]:=by rw[hts,hie];simp
   have HQ:Hid (m=.ok l []):=by show _=_;rw[hmr,hnil,zlg]
   rw[hnil]at HP;have HD:Hid (∀n,Pg R S w l (.slice A l.length cp) [] (wr.drewN n)):=fun n=>HP.out.moves hR (w:=w) ⟨rfl,rfl,rfl,aR _,fun _ _ _=>rfl⟩ (HP.out.at'.below (zW (Below.refl wr.heap.size wr) n) (aR _));clear hok hts hblk hnil hf hll hmr hP
   (go_wp2_with fail);go_quiet (fail)
   have HJ:=aQ (HD.out nq);obtain⟨q0,_⟩:=HJ.out.va.cell 0 _ rfl;have s6:=HJ.out.hlo
   generalize wr.drewN nq=w6 at *
   go_wp2_with(refine zc zf3 rfl (.tmp 2) (.tmp 21) rfl rfl w.heap.size rfl [_] rfl rfl HJ.out.th (by simp[Value.oneCell']) ?_;intro w7 g1 g2 g3 g4 g5)
   refine vS (zx (cs:=[_]) results35 underlying26 rfl zf3 _ _ w.heap.size rfl g1) rfl ?_;refine .ok (HJ.out.mv.low g3 (aR _)) HQ.out ⟨.slice A l.length cp,rfl,?_⟩ (HJ.out.at'.other hR g4);exact(HJ.out.own.fus.same fun q h=>g4 q (by have:=h.1;omega)).more fun q h=>⟨by have:=h.1;omega,by rw[g5];exact h.2⟩
end
end
end Go.Proofs.YtcilgkdnjgmogaaGreatDoor
