/- What the program's reader makes of a block: it reads as the document's. Conditions: the reader and its tokens lie in memory. -/
import Derived.Test.YtoicncfpoklanaaDoorPt
namespace Go.Proofs.YtoicncfpoklanaaDoor
open Go.RowKit
set_option maxRecDepth 100000
set_option linter.unusedSimpArgs false

theorem info43 : (Tryd.prog.info? 43).map (fun i => (i.zero, i.size, i.bytes)) = some (some (.agg #[.int .i64 0, .string ⟨#[]⟩, .slice none 0 0, .slice none 0 0, .slice none 0 0, .int .i64 0]), 6, 104) := by kernel_rfl
theorem one6 {a b : Int} {s : ByteArray} {A1 A2 A3 : Option Addr} {n1 m1 n2 m2 n3 m3 : Nat} : ∀ u ∈ [Value.int .i64 a, .string s, .slice A1 n1 m1, .slice A2 n2 m2, .slice A3 n3 m3, .int .i64 b], u.oneCell' = true := by
  intro u hu
  simp at hu
  rcases hu with rfl | rfl | rfl | rfl | rfl | rfl <;> rfl
/-- statements in a row of the call's own -/
def OwnS (lo : Nat) (w : World) (l : List St) (V : Value) : Prop :=
  ∃ ks : List Three, ks.length = l.length ∧ w.ownsRow lo 43 6 V l.length (stsC l ks) ∧ ∀ (i : Nat) (s : St) (k : Three), l[i]? = some s → ks[i]? = some k → StK w (fun b => (lo ≤ b ∧ some b ≠ V.ownBlock) ∧ b < w.heap.size) s k
theorem OwnS.sts {lo : Nat} {w : World} {l : List St} {V : Value} (h : OwnS lo w l V) : StsC w (Rng lo w.heap.size) l V := by
  obtain ⟨ks, h1, h2, h3⟩ := h
  have hm : ∀ (i : Nat) (s : St) (k : Three), l[i]? = some s → ks[i]? = some k → StK w (Rng lo w.heap.size) s k := fun i s k a b => (h3 i s k a b).more fun q hq => ⟨hq.1.1, hq.2⟩
  exact .mk l ks V h1 (RowF.own h2) (fun i s k a b => (hm i s k a b).e) (fun i s k a b => (hm i s k a b).b) (fun i s k a b => (hm i s k a b).f)
theorem OwnS.moves {R lo : Nat} {w w' : World} {l : List St} {V : Value} (h : OwnS lo w l V) (hm : Moves R w w') (hR : R < lo) : OwnS lo w' l V := by
  obtain ⟨ks, h1, h2, h3⟩ := h
  refine ⟨ks, h1, h2.kept hm ?_, fun i e k he hk => ((h3 i e k he hk).same (hm.same fun q hq => ⟨hq.2, by omega⟩)).more fun q hq => ⟨hq.1, Nat.lt_of_lt_of_le hq.2 hm.size⟩⟩
  cases hv : V.ownBlock with
  | none => exact .inl rfl
  | some k =>
    refine .inr fun e => ?_
    injection e with e
    have := (h2.lt k hv).1
    omega
theorem OwnS.nothing (lo : Nat) (w : World) : OwnS lo w [] (.slice none 0 0) := ⟨[], rfl, World.ownsRow_nil _ _ _ _, fun i e k h => by simp at h⟩
theorem OwnS.shape {lo : Nat} {w : World} {l : List St} {V : Value} (h : OwnS lo w l V) : ∃ A cp, V = .slice A l.length cp := by
  obtain ⟨ks, _, ho, _⟩ := h
  exact own_shape ho
/-- one statement more, behind an append -/
theorem OwnS.grown {lo : Nat} {w w' : World} {l : List St} {V V' : Value} {x : St} {k : Three} {ks : List Three} (hk : ks.length = l.length) (h3 : ∀ (i : Nat) (e : St) (k : Three), l[i]? = some e → ks[i]? = some k → StK w (fun b => (lo ≤ b ∧ some b ≠ V.ownBlock) ∧ b < w.heap.size) e k)
    (ho0 : w.ownsRow lo 43 6 V l.length (stsC l ks)) (ho : w'.ownsRow lo 43 6 V' (l.length + 1) (stsC l ks ++ stC x k.e k.b k.f)) (hg : w.grownBy w' V.ownBlock) (hV : V'.ownBlock = V.ownBlock ∨ ∃ g, V'.ownBlock = some g ∧ w.heap.size ≤ g) (hx : StK w (fun b => (lo ≤ b ∧ some b ≠ V.ownBlock) ∧ b < w.heap.size) x k) (hlo : lo ≤ w.heap.size) :
    OwnS lo w' (l ++ [x]) V' ∧ Below lo w w' := by
  have hsame : ∀ {x : St} {k : Three}, StK w (fun b => (lo ≤ b ∧ some b ≠ V.ownBlock) ∧ b < w.heap.size) x k → StK w' (fun b => (lo ≤ b ∧ some b ≠ V'.ownBlock) ∧ b < w'.heap.size) x k := fun h =>
    (h.same (fun b hb => hg.block b hb.2 hb.1.2)).more fun b hb => ⟨⟨hb.1.1, by
      rcases hV with e | ⟨g, e, hge⟩
      · rw [e]; exact hb.1.2
      · rw [e]; intro h2; injection h2; omega⟩, Nat.lt_of_lt_of_le hb.2 hg.size⟩
  refine ⟨⟨ks ++ [k], by simp [hk], by rw [stsC_snoc l ks hk]; simpa using ho, fun i e q he hq => ?_⟩, hg.os, hg.tape, hg.output, hg.size, fun q hq => hg.block q (by omega) fun e => ?_⟩
  · rcases snoc_get he with he | ⟨e1, rfl⟩ <;> rcases snoc_get hq with hq | ⟨e2, rfl⟩
    · exact hsame (h3 i e q he hq)
    · have := (List.getElem?_eq_some_iff.1 he).1
      omega
    · have := (List.getElem?_eq_some_iff.1 hq).1
      omega
    · exact hsame hx
  · have := (ho0.lt q e.symm).1
    omega
theorem moreS_true {z : Nat} {p : Par St} {l : List St} {ts : List Tok} (h : seesT z [[125]] ts = true) : ∀ f, moreS z p f l ts = .ok l ts.tail
  | 0 => by rw [moreS, if_pos h]
  | f + 1 => by rw [moreS, if_pos h]
theorem moreS_false {z : Nat} {p : Par St} {f : Nat} {l : List St} {ts : List Tok} (h : seesT z [[125]] ts = false) : moreS z p (f + 1) l ts = (p ts).bind fun s r => moreS z p f (l ++ [s]) r := by
  rw [moreS, if_neg (by simp [h])]
theorem moreS_zero_bad {z : Nat} {p : Par St} {l : List St} {ts : List Tok} {c q : Nat} (h : seesT z [[125]] ts = false) (hp : p ts = .bad c q) : ∀ f, moreS z p f l ts = .bad c q
  | 0 => by rw [moreS, if_neg (by simp [h]), hp]; rfl
  | f + 1 => by rw [moreS, if_neg (by simp [h]), hp]; rfl
/-- the state at a round's beginning -/
def BlkS (R : Nat) (S : Src) (w : World) (p : Par St) (m : Res (List St)) (V : Value) (wr : World) : Prop :=
  ∃ l ts f, OwnS w.heap.size wr l V ∧ At wr R S ts ∧ Moves R w wr ∧ ts.length ≤ f ∧ l.length + ts.length ≤ S.all.length ∧ m = moreS S.z p f l ts
theorem Moves.sizeLt {R : Nat} {w w' : World} (h : Moves R w w') {k : Nat} (hk : k < w.heap.size) : k < w'.heap.size := Nat.lt_of_lt_of_le hk h.size

set_option maxHeartbeats 3200000 in
theorem block_step (R : Nat) (S : Src) (hsm : S.all.length ≤ 4096) (d : Nat) (hd : d ≤ 32) (e : Par Ex) (he : ExprOk R S (d + 1) e) (hTe : Takes e) (b : Par (List St)) (hb : BlockOk R S (d + 1) b) (hTb : Takes b) :
    BlockOk R S d (fun ts => (wantT S.z [123] ts).bind fun _ r => moreS S.z (stmtP S.z e b) r.length [] r) := by
  intro w ts ha
  have hR := ha.lt
  have hcast : ((d + 1 : Nat) : Int) = (d : Int) + 1 := rfl
  have HT := Lib.hid (takes_stmt S.z e b hTe.shrinks hTb.shrinks)
  have HSt : Hid (∀ ts w, At w R S ts → Calls Tryd.prog 55 #[.pointer (some ⟨R, 0, none⟩), .int .i64 ((d : Int) + 1)] w (Got R S (QSt w.heap.size) w (stmtP S.z e b ts))) := fun ts w h => statement R S (d + 1) e he b hb ts w h
  obtain ⟨i0, hi, hz0, hz1, hz2⟩ := info_parts info43
  have K0 := Lib.hid (bound_ok R d w hd)
  have K := Lib.hid (want R S ts [123] ⟨#[123]⟩ w ha (by kernel_rfl) (by unfold Byn; decide))
  obtain ⟨m, hmm⟩ : ∃ m, m = (wantT S.z [123] ts).bind fun _ r => moreS S.z (stmtP S.z e b) r.length [] r := ⟨_, rfl⟩
  show Calls _ _ _ _ (Got R S (QB w.heap.size) w ((wantT S.z [123] ts).bind fun _ r => moreS S.z (stmtP S.z e b) r.length [] r))
  rw [← hmm]
  have HW := Lib.hid hmm
  generalize stmtP S.z e b = p at *
  clear ha he hb hmm hTe hTb
  go_enter Tryd.func43, Tryd.ntmps43
  go_wp2_with (go_at_call 54; refine K0.out.mono ?_; rintro e' w4 ⟨rfl, rfl⟩)
  refine K.out.mono ?_
  clear K K0
  rintro e' w1 ⟨hm, ⟨u, r, xv, hr, rfl, hq, ha1⟩ | ⟨c, q, hr, rfl⟩⟩
  · rw [show xv = .tuple #[] from hq]
    have HG : Hid (BlkS R S w p m (.slice none 0 0) w1) := ⟨[], r, r.length, OwnS.nothing _ _, ha1, hm, Nat.le_refl _, by have := ha1.len; simpa using this, by rw [HW.out, hr]; rfl⟩
    clear hm hr hq ha1
    go_wp2
    go_loopw [5] (fun V wr => BlkS R S w p m V wr) (fun _ wr => S.all.length - nextOf R wr)
    case atStart => exact HG.out
    case round =>
      obtain ⟨l, ts2, f, hO, hA, hM, hf, hll, hmr⟩ := hrel
      obtain ⟨A, cp, rfl⟩ := hO.shape
      have K := Lib.hid (accept R S ts2 [125] ⟨#[125]⟩ wr hA (by kernel_rfl) (by unfold Byn; decide))
      have HQ : Hid (OwnS w.heap.size wr l (.slice A l.length cp) ∧ At wr R S ts2 ∧ Moves R w wr ∧ ts2.length ≤ f ∧ l.length + ts2.length ≤ S.all.length ∧ m = moreS S.z p f l ts2) := ⟨hO, hA, hM, hf, hll, hmr⟩
      clear hO hA hM hf hll hmr
      cases hs : seesT S.z [[125]] ts2 with
      | true =>
        have HS := Lib.hid hs
        rw [hs] at K
        clear hs
        go_wp2_with fail
        refine K.out.mono ?_
        clear K
        rintro e' w4 ⟨rfl, hm, ha4⟩
        have H4 : Hid (At w4 R S ts2.tail ∧ Moves R w w4 ∧ OwnS w.heap.size w4 l (.slice A l.length cp) ∧ m = .ok l ts2.tail) := ⟨ha4, HQ.out.2.2.1.trans hm, HQ.out.1.moves hm hR, by rw [HQ.out.2.2.2.2.2, moreS_true HS.out]⟩
        clear hm ha4
        go_wp2
        go_ret
        exact .ok H4.out.2.1 H4.out.2.2.2 H4.out.2.2.1.sts H4.out.1
      | false =>
        have HS := Lib.hid hs
        rw [hs] at K
        clear hs
        have hwrap : IntKind.i64.wrap ((d : Int) + 1) = (d : Int) + 1 := IntWalk.i64_in _ (by omega)
        go_wp2_with fail
        refine K.out.mono ?_
        clear K
        rintro e' w4 ⟨rfl, hm, ha4⟩
        have ha4' : At w4 R S ts2 := ha4
        have O4 := Lib.hid (HQ.out.1.moves hm hR)
        have M4 := Lib.hid (HQ.out.2.2.1.trans hm)
        have K := Lib.hid (HSt.out ts2 w4 ha4')
        have hn : l.length ≤ 4096 := by have := HQ.out.2.2.2.2.1; omega
        clear hm ha4 ha4'
        go_wp2_with fail
        refine K.out.mono ?_
        clear K
        rintro e' w5 ⟨hm, ⟨s, r5, sv, hr, rfl, hq, ha5⟩ | ⟨c, q, hr, rfl⟩⟩
        · obtain ⟨⟨ke, kb, kf⟩, rfl, he4, hb4, hf4⟩ := hq
          obtain ⟨A1, c1, h1⟩ := exsC_slice he4
          obtain ⟨A2, c2, h2⟩ := stsC_slice hb4
          obtain ⟨A3, c3, h3⟩ := stsC_slice hf4
          dsimp only at h1 h2 h3
          subst h1 h2 h3
          have bt := below_alloc w5 (.cells #[.int .i64 s.op, .string (strN s.text), .slice A1 s.exprs.length c1, .slice A2 s.body.length c2, .slice A3 s.els.length c3, .int .i64 s.place] 43)
          have mt := hm.below bt (Nat.le_refl _)
          obtain ⟨ks, hks, hown, hkid⟩ := O4.out.moves mt hR
          have hap : StK (w5.alloc (.cells #[.int .i64 s.op, .string (strN s.text), .slice A1 s.exprs.length c1, .slice A2 s.body.length c2, .slice A3 s.els.length c3, .int .i64 s.place] 43)) (fun q => (w.heap.size ≤ q ∧ some q ≠ (Value.slice A l.length cp).ownBlock) ∧ q < (w5.alloc (.cells #[.int .i64 s.op, .string (strN s.text), .slice A1 s.exprs.length c1, .slice A2 s.body.length c2, .slice A3 s.els.length c3, .int .i64 s.place] 43)).heap.size) s ⟨.slice A1 s.exprs.length c1, .slice A2 s.body.length c2, .slice A3 s.els.length c3⟩ := by
            refine (StK.same (D := Rng w4.heap.size w5.heap.size) ⟨he4, hb4, hf4⟩ fun q h => bt.block q h.2).more fun q h => ⟨⟨?_, ?_⟩, ?_⟩
            · have := h.1; have := M4.out.size; omega
            · intro e
              obtain ⟨ks', _, ho', _⟩ := O4.out
              have h1 := (ho'.lt q e.symm).2
              have h2 := h.1
              omega
            · have := h.2; have := bt.size; omega
          have HO := Lib.hid hown
          have HKd := Lib.hid hkid
          have HAp := Lib.hid hap
          have HN : Hid (∀ (j : Nat) (u : Value), (stC s (.slice A1 s.exprs.length c1) (.slice A2 s.body.length c2) (.slice A3 s.els.length c3))[j]? = some u → (w5.alloc (.cells #[.int .i64 s.op, .string (strN s.text), .slice A1 s.exprs.length c1, .slice A2 s.body.length c2, .slice A3 s.els.length c3, .int .i64 s.place] 43)).cell? ((Addr.mk w5.heap.size 0 none).add j) = some u) := fun j u hu => by
            rw [Addr.add_mid]
            exact range_of (cs := stC s (.slice A1 s.exprs.length c1) (.slice A2 s.body.length c2) (.slice A3 s.els.length c3)) (heap_alloc_new w5 _) j u hu
          have H5 : Hid (At (w5.alloc (.cells #[.int .i64 s.op, .string (strN s.text), .slice A1 s.exprs.length c1, .slice A2 s.body.length c2, .slice A3 s.els.length c3, .int .i64 s.place] 43)) R S r5 ∧ Moves R w (w5.alloc (.cells #[.int .i64 s.op, .string (strN s.text), .slice A1 s.exprs.length c1, .slice A2 s.body.length c2, .slice A3 s.els.length c3, .int .i64 s.place] 43)) ∧ p ts2 = .ok s r5) := ⟨ha5.below bt (Nat.le_refl _), M4.out.trans mt, hr⟩
          have hsz := H5.out.2.1.size
          clear hm hr ha5 he4 hb4 hf4 bt mt hown hkid hap
          simp only [stC]
          go_wp2_with (at_builtin; refine wpList_append_one _ rfl (.tmp 14) (.tmp 19) 41 rfl w.heap.size 43 i0 _ 6 104 Tryd.underlying41 hi hz0 hz1 hz2 rfl (by omega) _ _ _ rfl HO.out ⟨w5.heap.size, 0, none⟩ 1 (stC s (.slice A1 s.exprs.length c1) (.slice A2 s.body.length c2) (.slice A3 s.els.length c3)) rfl rfl HN.out one6 (by omega) (by unfold maxLen; omega) hsz ?_; intro v6 w6 ho6 hg6 hv6)
          go_roundw
          case rel =>
            obtain ⟨O6, B6⟩ := OwnS.grown (k := ⟨.slice A1 s.exprs.length c1, .slice A2 s.body.length c2, .slice A3 s.els.length c3⟩) hks HKd.out HO.out ho6 hg6 hv6 HAp.out hsz
            have ht := HT.out _ _ _ H5.out.2.2
            have hq := HQ.out
            have h4 := hq.2.2.2.1
            have h5 := hq.2.2.2.2.1
            have h6 := hq.2.2.2.2.2
            obtain ⟨f', rfl⟩ : ∃ f', f = f' + 1 := ⟨f - 1, by omega⟩
            refine ⟨l ++ [s], r5, f', O6, H5.out.1.under B6 hR, H5.out.2.1.low B6 (Nat.le_refl _), by omega, by simp; omega, ?_⟩
            rw [h6, moreS_false HS.out, H5.out.2.2]
            rfl
          case measure =>
            obtain ⟨O6, B6⟩ := OwnS.grown (k := ⟨.slice A1 s.exprs.length c1, .slice A2 s.body.length c2, .slice A3 s.els.length c3⟩) hks HKd.out HO.out ho6 hg6 hv6 HAp.out hsz
            have ht := HT.out _ _ _ H5.out.2.2
            rw [HQ.out.2.1.next, (H5.out.1.under B6 hR).next]
            omega
        · have H5 : Hid (Moves R w w5 ∧ m = .bad c q) := ⟨M4.out.trans hm, by rw [HQ.out.2.2.2.2.2, moreS_zero_bad HS.out hr]⟩
          clear hm hr
          go_wp2
          exact ⟨rfl, .bad H5.out.1 H5.out.2⟩
  · have HQ := Lib.hid hm
    have HR := Lib.hid hr
    clear hm hr
    go_wp2
    exact ⟨rfl, .bad HQ.out (by rw [HW.out, HR.out]; rfl)⟩
theorem block_deep (R : Nat) (S : Src) : BlockOk R S 33 (fun ts => failT S.z 42 ts) := by
  intro w ts ha
  have K0 := Lib.hid (bound_bad R S ts _ ha 33 (by omega))
  rw [show ((33 : Nat) : Int) = 33 from rfl] at K0 ⊢
  clear ha
  go_enter Tryd.func43, Tryd.ntmps43
  go_wp2_with (go_at_call 54; refine K0.out.mono ?_; rintro e' w4 ⟨rfl, hb⟩)
  exact ⟨rfl, .bad (Moves.of_below hb (Nat.le_refl _)) rfl⟩
theorem blocks_ok (R : Nat) (S : Src) (hsm : S.all.length ≤ 4096) : ∀ g, g ≤ 32 → BlockOk R S (33 - g) (blockP S.z g)
  | 0, _ => block_deep R S
  | g + 1, hg => by
    have ih := blocks_ok R S hsm g (by omega)
    have e1 : 33 - (g + 1) + 1 = 33 - g := by omega
    have he := expr_ok R S hsm (33 - g) (by omega) (by omega)
    rw [show 33 - (33 - g) = g by omega] at he
    exact block_step R S hsm (33 - (g + 1)) (by omega) (exprP S.z g) (by rw [e1]; exact he) (takes_expr S.z g) (blockP S.z g) (by rw [e1]; exact ih) (takes_block S.z g)
end Go.Proofs.YtoicncfpoklanaaDoor
