/- A slot set; a type stored; one replaced by another; a call's types; what is returned. Conditions: those in each theorem. -/
import Derived.Test.YtilmidjkjgeoeaaDoorVJ
namespace Go.Proofs.YtilmidjkjgeoeaaDoor
open Go.RowKit Go.MapKept
set_option maxRecDepth 100000
set_option linter.unusedVariables false
set_option linter.unusedSimpArgs false
theorem sl_set {xs : List Nat} (hx : Ws8 xs) {i t : Nat} (hi : i < 256) (ht : t < 4) {j : Nat} (hj : j < 256) : slOf (slSet xs i t) j = if j = i then t else slOf xs j := by
  unfold slOf slSet
  have hl := hx.1
  by_cases hq : j / 32 = i / 32
  · rw [hq, List.getElem?_set_self (by omega), Option.getD_some, dg_set ht (Nat.mod_lt _ (by omega)) (Nat.mod_lt _ (by omega))]
    by_cases hij : j = i
    · rw [if_pos hij, if_pos (by rw [hij])]
    · rw [if_neg hij, if_neg (by omega)]
  · rw [List.getElem?_set_ne (fun e => hq e.symm), if_neg (fun e => hq (by rw [e]))]
theorem slSet_ok {xs : List Nat} (hx : Ws8 xs) {i t : Nat} (hi : i < 256) (ht : t < 4) : Ws8 (slSet xs i t) := by
  refine ⟨by unfold slSet; rw [List.length_set]; exact hx.1, fun z hz => ?_⟩
  unfold slSet at hz
  rcases List.mem_or_eq_of_mem_set hz with h | h
  · exact hx.2 z h
  · subst h
    have hl := hx.1
    obtain ⟨x, hxx⟩ : ∃ x, xs[i / 32]? = some x := ⟨xs[i / 32]'(by omega), List.getElem?_eq_getElem _⟩
    rw [hxx]
    exact dgSet_lt (hx.2 x (List.mem_of_getElem? hxx)) ht (Nat.mod_lt _ (by omega))
theorem SlR.set {xs : List Nat} {sl : List Int} (h : SlR xs sl) (hx : Ws8 xs) {i : Nat} {t : Int} (hi : i < sl.length) (hi2 : i < 256) (ht : 0 ≤ t ∧ t < 4) : SlR (slSet xs i t.toNat) (sl.set i t) := by
  intro j hj
  rw [sl_set hx hi2 (by omega) hj, List.getElem?_set]
  by_cases hij : i = j
  · rw [if_pos hij.symm, if_pos hij, if_pos (by omega)]
    simp
    omega
  · rw [if_neg (fun e => hij e.symm), if_neg hij]
    exact h j hj
theorem setS {B W St : Nat} {x : Wx} {S : List (List Int)} {L V R : Value} {s : Sv} {w : World} (i : Nat) (t : Int) (h : StS B W St x S L V R s w) (hi : i < s.sl.length) (ht : OkN t) :
    Calls Tryd.prog 33 #[.pointer (some ⟨St, 1, none⟩), .int .i64 i, .int .i64 t] w fun r w' => r = .returned (.tuple #[]) ∧ StS B W St x S L V R ⟨s.st, s.sl.set i t⟩ w' ∧ w.grownBy w' (some St) := by
  obtain ⟨hw, ho, ⟨n, xs, h1, h2, h3, h4⟩, hB, hs⟩ := h
  have ht4 : 0 ≤ t ∧ t < 4 := by
    rcases ht with ht | ⟨a, b⟩ <;> omega
  have e : ((t.toNat : Nat) : Int) = t := by omega
  have K := setC St n xs i t.toNat w h1 h3 (by omega) (by omega)
  rw [e] at K
  refine K.mono ?_
  rintro r w' ⟨rfl, k1, k2, _⟩
  exact ⟨rfl, ⟨hw.other k2 h1 (by decide), ho, ⟨n, _, k1, h2, slSet_ok h3 (by omega) (by omega), h4.set h3 hi (by omega) ht4⟩, hB, by simpa using hs⟩, k2⟩
theorem StS.drew {B W St : Nat} {x : Wx} {S : List (List Int)} {L V R : Value} {s : Sv} {w : World} (h : StS B W St x S L V R s w) : StS B W St x S L V R s w.drew := ⟨h.wk.below (Below.refl _ _).drew, h.ok, h.st, h.hB, h.sl⟩
theorem StS.on {B W St : Nat} {x : Wx} {S : List (List Int)} {L V R : Value} {s : Sv} {w w' : World} (h : StS B W St x S L V R s w) (hb : Below w.heap.size w w') : StS B W St x S L V R s w' := by
  obtain ⟨hw, ho, ⟨n, xs, h1, h2⟩, hB, hs⟩ := h
  exact ⟨hw.below hb, ho, ⟨n, xs, by rw [hb.block _ (lt_someV h1)]; exact h1, h2⟩, hB, hs⟩
theorem undrew {w w' : World} {o : Option Nat} (h : w.drew.grownBy w' o) : w.grownBy w' o := ⟨h.os, h.tape, h.output, h.size, h.block⟩
theorem top_ok {E : List Stk} {S : List (List Int)} (h : StOk E S) {n : Nat} {ts : List Int} (hn : S[n]? = some ts) : OkN (ts.getLast?.getD 0) := by
  cases hl : ts.getLast? with
  | none => exact .inl rfl
  | some t => exact .inr (h.ty ts (List.mem_of_getElem? hn) t (List.mem_of_getLast? hl))
theorem StS.top {B W St : Nat} {x : Wx} {S : List (List Int)} {L V R : Value} {s : Sv} {w : World} (h : StS B W St x S L V R s w) : OkN (s.st.getLast?.getD 0) := by
  obtain ⟨n, xs, _, h2, _⟩ := h.st
  exact top_ok h.ok h2
def StoreQ (B W St : Nat) (x : Wx) (S : List (List Int)) (L V R : Value) (s : Sv) (i : Nat) (w : World) (r : Ending) (w' : World) : Prop :=
  w.grownBy w' (some St) ∧ StS B W St x S L V R ⟨s.st.dropLast, s.sl.set i (s.st.getLast?.getD 0)⟩ w' ∧ r = .returned (.bool (decide (s.st.getLast?.getD 0 ≠ 0)))
set_option maxHeartbeats 800000 in
theorem storeS {B W St : Nat} {x : Wx} {S : List (List Int)} {L V R : Value} {s : Sv} {w : World} (i : Nat) (h : StS B W St x S L V R s w) (hi : i < s.sl.length) :
    Calls Tryd.prog 37 #[.pointer (some ⟨W, 0, none⟩), .pointer (some ⟨St, 0, none⟩), .int .i64 i] w (StoreQ B W St x S L V R s i w) := by
  have K1 := Lib.hid (popS h.drew)
  have HT := h.top
  have K2 : Hid (∀ w', StS B W St x S L V R ⟨s.st.dropLast, s.sl⟩ w' → Calls Tryd.prog 33 #[.pointer (some ⟨St, 1, none⟩), .int .i64 i, .int .i64 (s.st.getLast?.getD 0)] w' fun r w2 => r = .returned (.tuple #[]) ∧ StS B W St x S L V R ⟨s.st.dropLast, s.sl.set i (s.st.getLast?.getD 0)⟩ w2 ∧ w'.grownBy w2 (some St)) := fun w' h' => setS i _ h' hi HT
  unfold StoreQ
  clear HT h
  generalize s.st.getLast?.getD 0 = t at *
  go_enter Tryd.func37, Tryd.ntmps37
  go_wp2_with fail
  go_region_held3 (fun w' => True)
    (exact trivial)
    (first | (go_at_call 38; refine K1.out.mono ?_; rintro r w2 ⟨rfl, g1, g2⟩; have KG := Lib.hid (And.intro g1 (undrew g2)); clear g1 g2))
  by_cases ht : t = 0
  · subst ht
    have K3 := Lib.hid (K2.out _ KG.out.1)
    go_wp2_with fail
    refine K3.out.mono ?_
    rintro r w3 ⟨rfl, g1, g2⟩
    have KH := Lib.hid (And.intro g1 (KG.out.2.trans g2))
    clear g1 g2
    go_wp2
    go_ret
    exact ⟨KH.out.2, KH.out.1, rfl⟩
  · have K3 := Lib.hid (K2.out _ KG.out.1)
    have he : Hid (decide (t ≠ 0) = true) := Lib.hid (by simp [ht])
    go_wp2_with fail
    refine K3.out.mono ?_
    rintro r w3 ⟨rfl, g1, g2⟩
    have KH := Lib.hid (And.intro g1 (KG.out.2.trans g2))
    clear g1 g2
    go_wp2
    go_ret
    refine ⟨KH.out.2, KH.out.1, ?_⟩
    have hb : (t != 0) = true := by simp [ht]
    rw [he.out]
    show Ending.returned (.bool (t != 0)) = _
    rw [hb]
/-- the state behind a push, or none -/
def EffQ (B W St : Nat) (x : Wx) (S : List (List Int)) (V R : Value) (o : Option Sv) (w : World) (r : Ending) (w' : World) : Prop :=
  (∃ s', o = some s' ∧ s'.st.length ≤ 2100 ∧ r = .returned (.bool true) ∧ ∃ E' S' L', S <+: S' ∧ E'.length ≤ x.E.length + 1 ∧ StS B W St { x with E := E' } S' L' V R s' w' ∧ Mt B tsP w w') ∨
  ((∀ s', o = some s' → 2100 < s'.st.length) ∧ r = .returned (.bool false) ∧ Mt B tsP w w')
theorem mt_st {B W St : Nat} {x : Wx} {S : List (List Int)} {L V R : Value} {s : Sv} {w w' : World} (h : StS B W St x S L V R s w) (hg : w.grownBy w' (some St)) : Mt B tsP w w' := by
  obtain ⟨n, xs, h1, _⟩ := h.st
  exact Mt.grown hg h.wk.lt.2 fun g hq => by
    injection hq with hq
    subst hq
    exact ⟨h.hB, fun cs T z hc => by
      rw [← one_tag h1 hc]
      exact .inr (.inr rfl)⟩
theorem StS.cap {B W St : Nat} {x : Wx} {S : List (List Int)} {L V R : Value} {s : Sv} {w : World} (h : StS B W St x S L V R s w) : s.st.length ≤ 2100 := by
  obtain ⟨n, xs, _, h2, _⟩ := h.st
  exact h.ok.cap _ (List.mem_of_getElem? h2)
/-- a push is the effect -/
theorem PushS.eff {B W St : Nat} {x : Wx} {S : List (List Int)} {V R : Value} {s : Sv} {t : Int} {w w0 w' : World} {r : Ending} (h : PushS B W St x S V R s t w r w') (hm : Mt B tsP w0 w) (hB : B ≤ w.heap.size) : EffQ B W St x S V R (if t = 0 then none else some (pushV s t)) w0 r w' := by
  rcases h with ⟨h1, rfl, h2⟩ | ⟨h1, rfl, E', S', L', g1, g2, g3, g4⟩
  · refine .inr ⟨fun s' hs => ?_, rfl, hm.trans (.of h2 hB)⟩
    split at hs
    · cases hs
    · rename_i h0
      injection hs with hs
      subst hs
      rcases h1 with h1 | h1
      · exact absurd h1 h0
      · show 2100 < (s.st ++ [t]).length
        simpa using h1
  · have ht : t ≠ 0 := fun e => h1 (.inl e)
    rw [if_neg ht]
    exact .inl ⟨_, rfl, g3.cap, rfl, E', S', L', g1, g2, g3, hm.trans g4⟩
def ReplQ (B W St : Nat) (x : Wx) (S : List (List Int)) (V R : Value) (s : Sv) (a b : Int) (w : World) (r : Ending) (w' : World) : Prop := EffQ B W St x S V R ((popV s [a]).map (pushV · b)) w r w'
set_option maxHeartbeats 1600000 in
theorem replaceS {B W St : Nat} {x : Wx} {S : List (List Int)} {L V R : Value} {s : Sv} {w : World} (a b : Int) (h : StS B W St x S L V R s w) (ha : okTy a) (hb : okTy b) (hl : x.E.length ≤ 1000000000) :
    Calls Tryd.prog 42 #[.pointer (some ⟨W, 0, none⟩), .pointer (some ⟨St, 0, none⟩), .int .i64 a, .int .i64 b] w (ReplQ B W St x S V R s a b w) := by
  have hbw : Below w.heap.size w (w.alloc (.cells #[.int .i64 a] 27)).drew := below_allocD w _
  have hlt : St < w.heap.size := by obtain ⟨n, xs, h1, _⟩ := h.st; exact lt_someV h1
  have hA := heap_alloc_newD w (.cells #[.int .i64 a] 27)
  have hU : TyAt (w.alloc (.cells #[.int .i64 a] 27)).drew St (.slice (some ⟨w.heap.size, 0, none⟩) [a].length 1) [a] := by
    refine ⟨_, _, rfl, Nat.le_refl _, by unfold maxLen; decide, fun j t hj => ⟨w.heap.size, 0, rfl, by omega, lt_someV hA, ?_⟩⟩
    have hj0 : j = 0 := by
      have := (List.getElem?_eq_some_iff.1 hj).1
      simp at this
      exact this
    subst hj0
    simp at hj
    subst hj
    exact cell_at hA rfl
  have K1 := Lib.hid (popAllS [a] _ (h.on hbw) hU (by intro t ht; simp at ht; subst ht; exact ha))
  have K2 : Hid (∀ s' w', StS B W St x S L V R s' w' → Calls Tryd.prog 34 #[.pointer (some ⟨W, 0, none⟩), .pointer (some ⟨St, 0, none⟩), .int .i64 b] w' (PushS B W St x S V R s' b w')) := fun s' w' h' => pushS b h' (.inr hb) hl
  have HM : Hid (∀ w', (w.alloc (.cells #[.int .i64 a] 27)).drew.grownBy w' (some St) → Mt B tsP w w') := fun w' hg => (Mt.of hbw h.wk.lt.2).trans (mt_st (h.on hbw) hg)
  have HB : Hid (B ≤ w.heap.size) := h.wk.lt.2
  have hb0 : Hid (b ≠ 0) := by have := hb.1; show b ≠ 0; omega
  clear h hbw hA hU ha hb hlt
  cases hp : popV s [a] with
  | none =>
    have HR : Hid (∀ r w', r = .returned (.bool false) → Mt B tsP w w' → ReplQ B W St x S V R s a b w r w') := fun r w' h1 h2 => by
      unfold ReplQ
      rw [hp]
      exact .inr ⟨fun s' hs => (by cases hs), h1, h2⟩
    go_enter Tryd.func42, Tryd.ntmps42
    go_wp2_with fail
    refine wp_region_held_drew (S := fun w' => True) (by kernel_rfl) trivial (fun hHeld => ?_)
    refine wpAnyH_take (i := 0) (v := ?v0_10) rfl (by kernel_rfl) (by kernel_rfl) (by kernel_rfl) (fun _ _ _ h => h) (Or.inl ⟨by kernel_rfl, ?y0_10⟩) (by assumption) ?r0_10
    case y0_10 => (intro w hSw; (try dsimp only at hSw); go_simp; (try with_reducible rfl))
    try simp only [Act.put, List.getElem_toArray, List.getElem_cons_zero, List.getElem_cons_succ, List.setIfInBounds_toArray, List.set_cons_zero, List.set_cons_succ]
    refine wpAnyH_take (i := 1) (v := ?v1_11) rfl (by kernel_rfl) (by kernel_rfl) (by kernel_rfl) (fun _ _ _ h => h) (Or.inl ⟨by kernel_rfl, ?y1_11⟩) (by assumption) ?r1_11
    case y1_11 => (intro w hSw; (try dsimp only at hSw); go_simp; (try with_reducible rfl))
    try simp only [Act.put, List.getElem_toArray, List.getElem_cons_zero, List.getElem_cons_succ, List.setIfInBounds_toArray, List.set_cons_zero, List.set_cons_succ]
    refine wpAnyH_take (i := 2) (v := ?v2_12) rfl (by kernel_rfl) (by kernel_rfl) (by kernel_rfl) (fun _ _ _ h => h) (Or.inl ⟨by kernel_rfl, ?y2_12⟩) (by assumption) ?r2_12
    case y2_12 => (intro w hSw; (try dsimp only at hSw); go_simp; (try with_reducible rfl))
    try simp only [Act.put, List.getElem_toArray, List.getElem_cons_zero, List.getElem_cons_succ, List.setIfInBounds_toArray, List.set_cons_zero, List.set_cons_succ]
    refine wpAnyH_take (i := 3) (v := ?v3_13) rfl (by kernel_rfl) (by kernel_rfl) (by kernel_rfl) (fun _ _ _ h => h) (Or.inl ⟨by kernel_rfl, ?y3_13⟩) (by assumption) ?r3_13
    case y3_13 => (intro w hSw; (try dsimp only at hSw); go_simp; (try with_reducible rfl))
    try simp only [Act.put, List.getElem_toArray, List.getElem_cons_zero, List.getElem_cons_succ, List.setIfInBounds_toArray, List.set_cons_zero, List.set_cons_succ]
    refine wpAnyH_take (i := 4) (v := ?v4_14) rfl (by kernel_rfl) (by kernel_rfl) (by kernel_rfl) (fun _ _ _ h => h) (Or.inl ⟨by kernel_rfl, ?y4_14⟩) (by assumption) ?r4_14
    case y4_14 => (intro w hSw; (try dsimp only at hSw); go_simp; (try with_reducible rfl))
    try simp only [Act.put, List.getElem_toArray, List.getElem_cons_zero, List.getElem_cons_succ, List.setIfInBounds_toArray, List.set_cons_zero, List.set_cons_succ]
    refine wpAnyH_take (i := 5) (v := ?v5_15) rfl (by kernel_rfl) (by kernel_rfl) (by kernel_rfl) (fun _ _ _ h => h) (Or.inl ⟨by kernel_rfl, ?y5_15⟩) (by assumption) ?r5_15
    case y5_15 => (intro w hSw; (try dsimp only at hSw); go_simp; (try with_reducible rfl))
    try simp only [Act.put, List.getElem_toArray, List.getElem_cons_zero, List.getElem_cons_succ, List.setIfInBounds_toArray, List.set_cons_zero, List.set_cons_succ]
    refine wpAnyH_take (i := 6) (v := ?v6_16) rfl (by kernel_rfl) (by kernel_rfl) (by kernel_rfl) (fun _ _ _ h => h) (Or.inl ⟨by kernel_rfl, ?y6_16⟩) (by assumption) ?r6_16
    case y6_16 => (intro w hSw; (try dsimp only at hSw); go_simp; (try with_reducible rfl))
    try simp only [Act.put, List.getElem_toArray, List.getElem_cons_zero, List.getElem_cons_succ, List.setIfInBounds_toArray, List.set_cons_zero, List.set_cons_succ]
    refine wpAnyH_ready (rs := [7]) (by kernel_rfl) (by simp) ?_
    refine AllReadyH.cons rfl (fun K hK => ?_) AllReadyH.nil
    go_simp
    refine hK.out _ _ trivial (fun hHeld => ?_)
    clear hK K
    refine wpAnyH_ready (rs := [8]) (by kernel_rfl) (by simp) ?_
    refine AllReadyH.cons rfl (fun K hK => ?_) AllReadyH.nil
    go_simp
    refine K1.out.mono ?_
    rintro r w2 ⟨g2, ⟨rfl, s', g3, g4⟩ | ⟨rfl, g3⟩⟩
    · rw [hp] at g3
      cases g3
    have KG := Lib.hid (HM.out _ g2)
    clear g2 g3
    refine hK.out _ _ trivial (fun hHeld => ?_)
    clear hK K
    refine wpAnyH_take (i := 9) (v := ?v9_1) rfl (by kernel_rfl) (by kernel_rfl) (by kernel_rfl) (fun _ _ _ h => h) (Or.inl ⟨by kernel_rfl, ?y9_1⟩) (by assumption) ?r9_1
    case y9_1 => (intro w hSw; (try dsimp only at hSw); go_simp; (try with_reducible rfl))
    try simp only [Act.put, List.getElem_toArray, List.getElem_cons_zero, List.getElem_cons_succ, List.setIfInBounds_toArray, List.set_cons_zero, List.set_cons_succ]
    refine wpAnyH_take (i := 10) (v := undef) rfl (by kernel_rfl) (by kernel_rfl) (by kernel_rfl) (fun _ _ _ h => h) (Or.inr ⟨by kernel_rfl, rfl⟩) (by assumption) ?_
    try simp only [Act.put, List.getElem_toArray, List.getElem_cons_zero, List.getElem_cons_succ, List.setIfInBounds_toArray, List.set_cons_zero, List.set_cons_succ]
    refine wpAnyH_take (i := 11) (v := undef) rfl (by kernel_rfl) (by kernel_rfl) (by kernel_rfl) (fun _ _ _ h => h) (Or.inr ⟨by kernel_rfl, rfl⟩) (by assumption) ?_
    try simp only [Act.put, List.getElem_toArray, List.getElem_cons_zero, List.getElem_cons_succ, List.setIfInBounds_toArray, List.set_cons_zero, List.set_cons_succ]
    refine wpAnyH_take (i := 12) (v := undef) rfl (by kernel_rfl) (by kernel_rfl) (by kernel_rfl) (fun _ _ _ h => h) (Or.inr ⟨by kernel_rfl, rfl⟩) (by assumption) ?_
    try simp only [Act.put, List.getElem_toArray, List.getElem_cons_zero, List.getElem_cons_succ, List.setIfInBounds_toArray, List.set_cons_zero, List.set_cons_succ]
    refine wpAnyH_take (i := 13) (v := undef) rfl (by kernel_rfl) (by kernel_rfl) (by kernel_rfl) (fun _ _ _ h => h) (Or.inr ⟨by kernel_rfl, rfl⟩) (by assumption) ?_
    try simp only [Act.put, List.getElem_toArray, List.getElem_cons_zero, List.getElem_cons_succ, List.setIfInBounds_toArray, List.set_cons_zero, List.set_cons_succ]
    refine wpAnyH_take (i := 14) (v := undef) rfl (by kernel_rfl) (by kernel_rfl) (by kernel_rfl) (fun _ _ _ h => h) (Or.inr ⟨by kernel_rfl, rfl⟩) (by assumption) ?_
    try simp only [Act.put, List.getElem_toArray, List.getElem_cons_zero, List.getElem_cons_succ, List.setIfInBounds_toArray, List.set_cons_zero, List.set_cons_succ]
    refine wpAnyH_take (i := 15) (v := undef) rfl (by kernel_rfl) (by kernel_rfl) (by kernel_rfl) (fun _ _ _ h => h) (Or.inr ⟨by kernel_rfl, rfl⟩) (by assumption) ?_
    try simp only [Act.put, List.getElem_toArray, List.getElem_cons_zero, List.getElem_cons_succ, List.setIfInBounds_toArray, List.set_cons_zero, List.set_cons_succ]
    refine wpAnyH_take (i := 16) (v := undef) rfl (by kernel_rfl) (by kernel_rfl) (by kernel_rfl) (fun _ _ _ h => h) (Or.inr ⟨by kernel_rfl, rfl⟩) (by assumption) ?_
    try simp only [Act.put, List.getElem_toArray, List.getElem_cons_zero, List.getElem_cons_succ, List.setIfInBounds_toArray, List.set_cons_zero, List.set_cons_succ]
    refine wpAnyH_take (i := 17) (v := undef) rfl (by kernel_rfl) (by kernel_rfl) (by kernel_rfl) (fun _ _ _ h => h) (Or.inr ⟨by kernel_rfl, rfl⟩) (by assumption) ?_
    try simp only [Act.put, List.getElem_toArray, List.getElem_cons_zero, List.getElem_cons_succ, List.setIfInBounds_toArray, List.set_cons_zero, List.set_cons_succ]
    refine wpAnyH_take (i := 18) (v := ?v18_17) rfl (by kernel_rfl) (by kernel_rfl) (by kernel_rfl) (fun _ _ _ h => h) (Or.inl ⟨by kernel_rfl, ?y18_17⟩) (by assumption) ?r18_17
    case y18_17 => (intro w hSw; (try dsimp only at hSw); go_simp; (try with_reducible rfl))
    try simp only [Act.put, List.getElem_toArray, List.getElem_cons_zero, List.getElem_cons_succ, List.setIfInBounds_toArray, List.set_cons_zero, List.set_cons_succ]
    refine wpAnyH_take (i := 19) (v := ?v19_18) rfl (by kernel_rfl) (by kernel_rfl) (by kernel_rfl) (fun _ _ _ h => h) (Or.inl ⟨by kernel_rfl, ?y19_18⟩) (by assumption) ?r19_18
    case y19_18 => (intro w hSw; (try dsimp only at hSw); go_simp; (try with_reducible rfl))
    try simp only [Act.put, List.getElem_toArray, List.getElem_cons_zero, List.getElem_cons_succ, List.setIfInBounds_toArray, List.set_cons_zero, List.set_cons_succ]
    refine wpAnyH_done (by kernel_rfl) ?_ _
    go_wp2
    go_ret
    exact HR.out _ _ rfl KG.out
  | some s1 =>
    have HR : Hid (∀ r w' w2, Mt B tsP w w2 → B ≤ w2.heap.size → PushS B W St x S V R s1 b w2 r w' → ReplQ B W St x S V R s a b w r w') := fun r w' w2 h1 hb h2 => by
      have := h2.eff h1 hb
      unfold ReplQ
      rw [hp]
      rw [if_neg hb0.out] at this
      exact this
    go_enter Tryd.func42, Tryd.ntmps42
    go_wp2_with fail
    refine wp_region_held_drew (S := fun w' => True) (by kernel_rfl) trivial (fun hHeld => ?_)
    refine wpAnyH_take (i := 0) (v := ?v0_19) rfl (by kernel_rfl) (by kernel_rfl) (by kernel_rfl) (fun _ _ _ h => h) (Or.inl ⟨by kernel_rfl, ?y0_19⟩) (by assumption) ?r0_19
    case y0_19 => (intro w hSw; (try dsimp only at hSw); go_simp; (try with_reducible rfl))
    try simp only [Act.put, List.getElem_toArray, List.getElem_cons_zero, List.getElem_cons_succ, List.setIfInBounds_toArray, List.set_cons_zero, List.set_cons_succ]
    refine wpAnyH_take (i := 1) (v := ?v1_20) rfl (by kernel_rfl) (by kernel_rfl) (by kernel_rfl) (fun _ _ _ h => h) (Or.inl ⟨by kernel_rfl, ?y1_20⟩) (by assumption) ?r1_20
    case y1_20 => (intro w hSw; (try dsimp only at hSw); go_simp; (try with_reducible rfl))
    try simp only [Act.put, List.getElem_toArray, List.getElem_cons_zero, List.getElem_cons_succ, List.setIfInBounds_toArray, List.set_cons_zero, List.set_cons_succ]
    refine wpAnyH_take (i := 2) (v := ?v2_21) rfl (by kernel_rfl) (by kernel_rfl) (by kernel_rfl) (fun _ _ _ h => h) (Or.inl ⟨by kernel_rfl, ?y2_21⟩) (by assumption) ?r2_21
    case y2_21 => (intro w hSw; (try dsimp only at hSw); go_simp; (try with_reducible rfl))
    try simp only [Act.put, List.getElem_toArray, List.getElem_cons_zero, List.getElem_cons_succ, List.setIfInBounds_toArray, List.set_cons_zero, List.set_cons_succ]
    refine wpAnyH_take (i := 3) (v := ?v3_22) rfl (by kernel_rfl) (by kernel_rfl) (by kernel_rfl) (fun _ _ _ h => h) (Or.inl ⟨by kernel_rfl, ?y3_22⟩) (by assumption) ?r3_22
    case y3_22 => (intro w hSw; (try dsimp only at hSw); go_simp; (try with_reducible rfl))
    try simp only [Act.put, List.getElem_toArray, List.getElem_cons_zero, List.getElem_cons_succ, List.setIfInBounds_toArray, List.set_cons_zero, List.set_cons_succ]
    refine wpAnyH_take (i := 4) (v := ?v4_23) rfl (by kernel_rfl) (by kernel_rfl) (by kernel_rfl) (fun _ _ _ h => h) (Or.inl ⟨by kernel_rfl, ?y4_23⟩) (by assumption) ?r4_23
    case y4_23 => (intro w hSw; (try dsimp only at hSw); go_simp; (try with_reducible rfl))
    try simp only [Act.put, List.getElem_toArray, List.getElem_cons_zero, List.getElem_cons_succ, List.setIfInBounds_toArray, List.set_cons_zero, List.set_cons_succ]
    refine wpAnyH_take (i := 5) (v := ?v5_24) rfl (by kernel_rfl) (by kernel_rfl) (by kernel_rfl) (fun _ _ _ h => h) (Or.inl ⟨by kernel_rfl, ?y5_24⟩) (by assumption) ?r5_24
    case y5_24 => (intro w hSw; (try dsimp only at hSw); go_simp; (try with_reducible rfl))
    try simp only [Act.put, List.getElem_toArray, List.getElem_cons_zero, List.getElem_cons_succ, List.setIfInBounds_toArray, List.set_cons_zero, List.set_cons_succ]
    refine wpAnyH_take (i := 6) (v := ?v6_25) rfl (by kernel_rfl) (by kernel_rfl) (by kernel_rfl) (fun _ _ _ h => h) (Or.inl ⟨by kernel_rfl, ?y6_25⟩) (by assumption) ?r6_25
    case y6_25 => (intro w hSw; (try dsimp only at hSw); go_simp; (try with_reducible rfl))
    try simp only [Act.put, List.getElem_toArray, List.getElem_cons_zero, List.getElem_cons_succ, List.setIfInBounds_toArray, List.set_cons_zero, List.set_cons_succ]
    refine wpAnyH_ready (rs := [7]) (by kernel_rfl) (by simp) ?_
    refine AllReadyH.cons rfl (fun K hK => ?_) AllReadyH.nil
    go_simp
    refine hK.out _ _ trivial (fun hHeld => ?_)
    clear hK K
    refine wpAnyH_ready (rs := [8]) (by kernel_rfl) (by simp) ?_
    refine AllReadyH.cons rfl (fun K hK => ?_) AllReadyH.nil
    go_simp
    refine K1.out.mono ?_
    rintro r w2 ⟨g2, ⟨rfl, s', g3, g4⟩ | ⟨rfl, g3⟩⟩
    rotate_left
    · rw [hp] at g3
      cases g3
    rw [hp] at g3
    injection g3 with g3
    subst g3
    have KG := Lib.hid (And.intro (HM.out _ g2) (Nat.le_trans HB.out (HM.out _ g2).low.size))
    have K3 := Lib.hid (K2.out _ _ g4)
    clear g2 g4
    refine hK.out _ _ trivial (fun hHeld => ?_)
    clear hK K
    refine wpAnyH_take (i := 9) (v := ?v9_26) rfl (by kernel_rfl) (by kernel_rfl) (by kernel_rfl) (fun _ _ _ h => h) (Or.inl ⟨by kernel_rfl, ?y9_26⟩) (by assumption) ?r9_26
    case y9_26 => (intro w hSw; (try dsimp only at hSw); go_simp; (try with_reducible rfl))
    try simp only [Act.put, List.getElem_toArray, List.getElem_cons_zero, List.getElem_cons_succ, List.setIfInBounds_toArray, List.set_cons_zero, List.set_cons_succ]
    refine wpAnyH_take (i := 10) (v := ?v10_27) rfl (by kernel_rfl) (by kernel_rfl) (by kernel_rfl) (fun _ _ _ h => h) (Or.inl ⟨by kernel_rfl, ?y10_27⟩) (by assumption) ?r10_27
    case y10_27 => (intro w hSw; (try dsimp only at hSw); go_simp; (try with_reducible rfl))
    try simp only [Act.put, List.getElem_toArray, List.getElem_cons_zero, List.getElem_cons_succ, List.setIfInBounds_toArray, List.set_cons_zero, List.set_cons_succ]
    refine wpAnyH_take (i := 11) (v := ?v11_28) rfl (by kernel_rfl) (by kernel_rfl) (by kernel_rfl) (fun _ _ _ h => h) (Or.inl ⟨by kernel_rfl, ?y11_28⟩) (by assumption) ?r11_28
    case y11_28 => (intro w hSw; (try dsimp only at hSw); go_simp; (try with_reducible rfl))
    try simp only [Act.put, List.getElem_toArray, List.getElem_cons_zero, List.getElem_cons_succ, List.setIfInBounds_toArray, List.set_cons_zero, List.set_cons_succ]
    refine wpAnyH_take (i := 12) (v := ?v12_29) rfl (by kernel_rfl) (by kernel_rfl) (by kernel_rfl) (fun _ _ _ h => h) (Or.inl ⟨by kernel_rfl, ?y12_29⟩) (by assumption) ?r12_29
    case y12_29 => (intro w hSw; (try dsimp only at hSw); go_simp; (try with_reducible rfl))
    try simp only [Act.put, List.getElem_toArray, List.getElem_cons_zero, List.getElem_cons_succ, List.setIfInBounds_toArray, List.set_cons_zero, List.set_cons_succ]
    refine wpAnyH_take (i := 13) (v := ?v13_30) rfl (by kernel_rfl) (by kernel_rfl) (by kernel_rfl) (fun _ _ _ h => h) (Or.inl ⟨by kernel_rfl, ?y13_30⟩) (by assumption) ?r13_30
    case y13_30 => (intro w hSw; (try dsimp only at hSw); go_simp; (try with_reducible rfl))
    try simp only [Act.put, List.getElem_toArray, List.getElem_cons_zero, List.getElem_cons_succ, List.setIfInBounds_toArray, List.set_cons_zero, List.set_cons_succ]
    refine wpAnyH_take (i := 14) (v := ?v14_31) rfl (by kernel_rfl) (by kernel_rfl) (by kernel_rfl) (fun _ _ _ h => h) (Or.inl ⟨by kernel_rfl, ?y14_31⟩) (by assumption) ?r14_31
    case y14_31 => (intro w hSw; (try dsimp only at hSw); go_simp; (try with_reducible rfl))
    try simp only [Act.put, List.getElem_toArray, List.getElem_cons_zero, List.getElem_cons_succ, List.setIfInBounds_toArray, List.set_cons_zero, List.set_cons_succ]
    refine wpAnyH_take (i := 15) (v := ?v15_32) rfl (by kernel_rfl) (by kernel_rfl) (by kernel_rfl) (fun _ _ _ h => h) (Or.inl ⟨by kernel_rfl, ?y15_32⟩) (by assumption) ?r15_32
    case y15_32 => (intro w hSw; (try dsimp only at hSw); go_simp; (try with_reducible rfl))
    try simp only [Act.put, List.getElem_toArray, List.getElem_cons_zero, List.getElem_cons_succ, List.setIfInBounds_toArray, List.set_cons_zero, List.set_cons_succ]
    refine wpAnyH_take (i := 16) (v := ?v16_33) rfl (by kernel_rfl) (by kernel_rfl) (by kernel_rfl) (fun _ _ _ h => h) (Or.inl ⟨by kernel_rfl, ?y16_33⟩) (by assumption) ?r16_33
    case y16_33 => (intro w hSw; (try dsimp only at hSw); go_simp; (try with_reducible rfl))
    try simp only [Act.put, List.getElem_toArray, List.getElem_cons_zero, List.getElem_cons_succ, List.setIfInBounds_toArray, List.set_cons_zero, List.set_cons_succ]
    refine wpAnyH_ready (rs := [17]) (by kernel_rfl) (by simp) ?_
    refine AllReadyH.cons rfl (fun K hK => ?_) AllReadyH.nil
    go_simp
    refine K3.out.mono ?_
    intro r w3 hq
    have HQ := Lib.hid (HR.out _ _ _ KG.out.1 KG.out.2 hq)
    rcases hq with ⟨_, rfl, _⟩ | ⟨_, rfl, _⟩
    all_goals
      refine hK.out _ _ trivial (fun hHeld => ?_)
      clear hK K
    · skip
      refine wpAnyH_take (i := 18) (v := ?v18_34) rfl (by kernel_rfl) (by kernel_rfl) (by kernel_rfl) (fun _ _ _ h => h) (Or.inl ⟨by kernel_rfl, ?y18_34⟩) (by assumption) ?r18_34
      case y18_34 => (intro w hSw; (try dsimp only at hSw); go_simp; (try with_reducible rfl))
      try simp only [Act.put, List.getElem_toArray, List.getElem_cons_zero, List.getElem_cons_succ, List.setIfInBounds_toArray, List.set_cons_zero, List.set_cons_succ]
      refine wpAnyH_take (i := 19) (v := ?v19_35) rfl (by kernel_rfl) (by kernel_rfl) (by kernel_rfl) (fun _ _ _ h => h) (Or.inl ⟨by kernel_rfl, ?y19_35⟩) (by assumption) ?r19_35
      case y19_35 => (intro w hSw; (try dsimp only at hSw); go_simp; (try with_reducible rfl))
      try simp only [Act.put, List.getElem_toArray, List.getElem_cons_zero, List.getElem_cons_succ, List.setIfInBounds_toArray, List.set_cons_zero, List.set_cons_succ]
      refine wpAnyH_done (by kernel_rfl) ?_ _
      go_wp2
      go_ret
      exact HQ.out
    · skip
      refine wpAnyH_take (i := 18) (v := ?v18_36) rfl (by kernel_rfl) (by kernel_rfl) (by kernel_rfl) (fun _ _ _ h => h) (Or.inl ⟨by kernel_rfl, ?y18_36⟩) (by assumption) ?r18_36
      case y18_36 => (intro w hSw; (try dsimp only at hSw); go_simp; (try with_reducible rfl))
      try simp only [Act.put, List.getElem_toArray, List.getElem_cons_zero, List.getElem_cons_succ, List.setIfInBounds_toArray, List.set_cons_zero, List.set_cons_succ]
      refine wpAnyH_take (i := 19) (v := ?v19_37) rfl (by kernel_rfl) (by kernel_rfl) (by kernel_rfl) (fun _ _ _ h => h) (Or.inl ⟨by kernel_rfl, ?y19_37⟩) (by assumption) ?r19_37
      case y19_37 => (intro w hSw; (try dsimp only at hSw); go_simp; (try with_reducible rfl))
      try simp only [Act.put, List.getElem_toArray, List.getElem_cons_zero, List.getElem_cons_succ, List.setIfInBounds_toArray, List.set_cons_zero, List.set_cons_succ]
      refine wpAnyH_done (by kernel_rfl) ?_ _
      go_wp2
      go_ret
      exact HQ.out
end Go.Proofs.YtilmidjkjgeoeaaDoor
