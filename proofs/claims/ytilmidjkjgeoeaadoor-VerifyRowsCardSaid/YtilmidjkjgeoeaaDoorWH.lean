/- VerifyMeets: the walk. Conditions: the table of signs lies as the program lays it. -/
import Derived.Test.YtilmidjkjgeoeaaDoorWG
namespace Go.Proofs.YtilmidjkjgeoeaaDoor
open Go.RowKit Go.MapKept
set_option maxRecDepth 100000
set_option linter.unusedVariables false
set_option linter.unusedSimpArgs false
theorem four_al (w : World) (a b c d : Obj) : ((((w.alloc a).alloc b).alloc c).alloc d).heap[w.heap.size]? = some a ∧ ((((w.alloc a).alloc b).alloc c).alloc d).heap[w.heap.size + 1]? = some b ∧ ((((w.alloc a).alloc b).alloc c).alloc d).heap[w.heap.size + 1 + 1]? = some c ∧ ((((w.alloc a).alloc b).alloc c).alloc d).heap[w.heap.size + 1 + 1 + 1]? = some d ∧ Below w.heap.size w ((((w.alloc a).alloc b).alloc c).alloc d) ∧ ((((w.alloc a).alloc b).alloc c).alloc d).heap.size = w.heap.size + 4 := by
  refine ⟨?_, ?_, ?_, ?_, ?_, ?_⟩
  · simp only [heap_al, size_al]; rw [if_neg (by omega), if_neg (by omega), if_neg (by omega), if_pos trivial]
  · simp only [heap_al, size_al]; rw [if_neg (by omega), if_neg (by omega), if_pos trivial]
  · simp only [heap_al, size_al]; rw [if_neg (by omega), if_pos trivial]
  · simp only [heap_al, size_al]; rw [if_pos trivial]
  · exact (((below_alloc w a).trans ((below_alloc _ b).mono (by simp only [size_al]; omega))).trans ((below_alloc _ c).mono (by simp only [size_al]; omega))).trans ((below_alloc _ d).mono (by simp only [size_al]; omega))
  · simp only [size_al]
def LayQ (a : Nat) (w : World) (r : Ending) (w' : World) : Prop := r = .returned (.agg #[.int .i64 (layK a).1, .int .i64 (layK a).2]) ∧ Below w.heap.size w w'
set_option maxHeartbeats 800000 in
theorem layC (a : Nat) (w : World) (ha : a < 256) : Calls Tryd.prog 11 #[.int .u8 a] w (LayQ a w) := by
  have h3 : a % 3 = 0 ∨ a % 3 = 1 ∨ a % 3 = 2 := by omega
  have HB := Lib.hid (fun (o : Obj) => below_alloc w o)
  have HA := Lib.hid (fun (o : Obj) => heap_alloc_new w o)
  rcases h3 with h | h | h
  · have h0 : (a : Int) % 3 = 0 := by omega
    have HL : Hid (layK a = (2, 0)) := by unfold layK; rw [if_pos h]; exact rfl
    clear h
    go_enter Tryd.func11, Tryd.ntmps11
    go_wp2
    refine bodyPost_ret (retV_cell (cs := [.int .i64 2, .int .i64 0]) Tryd.results11 Tryd.underlying35 rfl info35s _ _ w.heap.size rfl (rangeV_of (HA.out _))) rfl ?_
    exact ⟨by rw [HL.out], HB.out _⟩
  · have h0 : ((a : Int) % 3 == 0) = false := by
      have e : (a : Int) % 3 = 1 := by omega
      rw [e]
      rfl
    have h1 : (a : Int) % 3 = 1 := by omega
    have HL : Hid (layK a = (3, 0)) := by unfold layK; rw [if_neg (by omega), if_pos h]; exact rfl
    clear h h0
    go_enter Tryd.func11, Tryd.ntmps11
    go_wp2
    refine bodyPost_ret (retV_cell (cs := [.int .i64 3, .int .i64 0]) Tryd.results11 Tryd.underlying35 rfl info35s _ _ w.heap.size rfl (rangeV_of (HA.out _))) rfl ?_
    exact ⟨by rw [HL.out], HB.out _⟩
  · have h1 : (a : Int) % 3 = 2 := by omega
    have HL : Hid (layK a = (4, 0)) := by unfold layK; rw [if_neg (by omega), if_neg (by omega)]; exact rfl
    clear h
    go_enter Tryd.func11, Tryd.ntmps11
    go_wp2
    refine bodyPost_ret (retV_cell (cs := [.int .i64 4, .int .i64 0]) Tryd.results11 Tryd.underlying35 rfl info35s _ _ w.heap.size rfl (rangeV_of (HA.out _))) rfl ?_
    exact ⟨by rw [HL.out], HB.out _⟩
abbrev mC (a b : Nat) : Cd := ⟨[102], [2], 0, 2, meetsK a b⟩
abbrev mM (a b : Nat) : Md := ⟨[mC a b], [[]]⟩
theorem lay_ops (a : Nat) : (layK a).2 = 0 ∧ ((layK a).1 = 2 ∨ (layK a).1 = 3 ∨ (layK a).1 = 4) := by
  unfold layK
  split
  · exact ⟨rfl, .inl rfl⟩
  · split
    · exact ⟨rfl, .inr (.inl rfl)⟩
    · exact ⟨rfl, .inr (.inr rfl)⟩
theorem mFit (a b : Nat) : MdFit (mM a b) := ⟨fun c hc => by
  rw [List.mem_singleton.1 hc]
  refine ⟨(by show Byt [102]; unfold Byt; decide), (by show ∀ t ∈ [(2 : Int)], Fit t; unfold Fit; decide), (by show Fit 0; unfold Fit; decide), (by show Fit 2; unfold Fit; decide), fun i hi => ?_⟩
  have ha := lay_ops a
  have hb := lay_ops b
  unfold Fit
  simp only [meetsK, List.mem_cons, List.not_mem_nil, or_false] at hi
  rcases hi with rfl | rfl | rfl | rfl | rfl | rfl | rfl | rfl | rfl | rfl <;> first | decide | (constructor <;> omega), fun s hs => by
  rw [List.mem_singleton.1 hs]; exact Byt.nil⟩
theorem mOk (a b : Nat) : okMd (mM a b) = true := by
  have ha := (lay_ops a).2
  have hb := (lay_ops b).2
  rcases ha with ha | ha | ha <;> rcases hb with hb | hb | hb <;> simp [okMd, okCd, meetsK, okI, ha, hb, okT, okX]
theorem mCheck (a b : Nat) : checkM (mM a b) = if a % 3 = b % 3 then 0 else 131 := by
  have hs : SafeC (mM a b) (mC a b) ↔ a % 3 = b % 3 := meets_safe a b
  by_cases h : a % 3 = b % 3
  · rw [if_pos h]
    exact check_all (mOk a b) (mFit a b) (by simp) (fun c hc => by rw [List.mem_singleton.1 hc]; exact hs.2 h)
  · rw [if_neg h]
    exact check_one (mOk a b) (List.mem_singleton.2 rfl) fun k => h (hs.1 k)
set_option maxHeartbeats 1600000 in
theorem meets_walk (a b : Nat) (w : World) (ha : a < 256) (hb : b < 256) (ht : Tab w) : Calls Tryd.prog 6 #[.int .u8 a, .int .u8 b] w (Says true w) := by
  have KH := Lib.hid (head_true w ht)
  have HT := Lib.hid ht
  have KA := Lib.hid (fun w => layC a w ha)
  have KB := Lib.hid (fun w => layC b w hb)
  clear ht
  go_enter Tryd.func6, Tryd.ntmps6
  go_wp2_with fail
  refine KH.out.mono ?_
  rintro r w1 ⟨rfl, hb1⟩
  have HB1 := Lib.hid hb1
  clear KH hb1
  go_wp2_with fail
  refine (KA.out _).mono ?_
  rintro r w3 ⟨rfl, hb3⟩
  have A2 := heap_alloc_new w1 (.cells #[.int .i64 2] 27)
  have B2 := below_alloc w1 (.cells #[.int .i64 2] 27)
  have s2 := size_al w1 (.cells #[.int .i64 2] 27)
  have HE3 : Hid (w3.heap[w1.heap.size]? = some (.cells #[.int .i64 2] 27)) := by rw [Hid, hb3.block _ (lt_someV A2)]; exact A2
  have HB3 := Lib.hid ((HB1.out.trans (B2.mono HB1.out.size)).trans (hb3.mono (by have := HB1.out.size; omega)))
  clear A2 B2 s2 hb3 KA
  go_wp2_with fail
  refine (KB.out _).mono ?_
  rintro r w4 ⟨rfl, hb4⟩
  have HE4 : Hid (w4.heap[w1.heap.size]? = some (.cells #[.int .i64 2] 27)) := by rw [Hid, hb4.block _ (lt_someV HE3.out)]; exact HE3.out
  have HB4 := Lib.hid (HB3.out.trans (hb4.mono HB3.out.size))
  clear hb4 KB HE3
  have H4 := Lib.hid (four_al w4 (.cells #[.int .i64 5, .int .i64 0, .int .i64 16, .int .i64 5, .int .i64 (layK a).1, .int .i64 (layK a).2, .int .i64 6, .int .i64 1, .int .i64 15, .int .i64 7, .int .i64 (layK b).1, .int .i64 (layK b).2, .int .i64 6, .int .i64 1, .int .i64 5, .int .i64 1, .int .i64 17, .int .i64 0, .int .i64 18, .int .i64 0] 35) (.cells #[.string ⟨#[102]⟩, .slice (some ⟨w1.heap.size, 0, none⟩) 1 1, .int .i64 0, .int .i64 2, .slice (some ⟨w4.heap.size, 0, none⟩) 10 10] 30) (.cells #[.string ⟨#[102]⟩, .slice (some ⟨w1.heap.size, 0, none⟩) 1 1, .int .i64 0, .int .i64 2, .slice (some ⟨w4.heap.size, 0, none⟩) 10 10] 30) (.cells #[.slice none 0 0] 46))
  go_wp2_with fail
  generalize (((w4.alloc (.cells #[.int .i64 5, .int .i64 0, .int .i64 16, .int .i64 5, .int .i64 (layK a).1, .int .i64 (layK a).2, .int .i64 6, .int .i64 1, .int .i64 15, .int .i64 7, .int .i64 (layK b).1, .int .i64 (layK b).2, .int .i64 6, .int .i64 1, .int .i64 5, .int .i64 1, .int .i64 17, .int .i64 0, .int .i64 18, .int .i64 0] 35)).alloc (.cells #[.string ⟨#[102]⟩, .slice (some ⟨w1.heap.size, 0, none⟩) 1 1, .int .i64 0, .int .i64 2, .slice (some ⟨w4.heap.size, 0, none⟩) 10 10] 30)).alloc (.cells #[.string ⟨#[102]⟩, .slice (some ⟨w1.heap.size, 0, none⟩) 1 1, .int .i64 0, .int .i64 2, .slice (some ⟨w4.heap.size, 0, none⟩) 10 10] 30)).alloc (.cells #[.slice none 0 0] 46) = w5 at *
  obtain ⟨e0, e1, e2, e3, hb5, hs5⟩ := H4.out
  have eT : w5.heap[w1.heap.size]? = some (.cells #[.int .i64 2] 27) := by rw [hb5.block _ (lt_someV HE4.out)]; exact HE4.out
  have hm5 : ModV w5 w5.heap.size (mM a b) (.agg #[.slice (some ⟨w4.heap.size + 1 + 1, 0, none⟩) 1 1, .slice (some ⟨w4.heap.size + 1 + 1 + 1, 0, none⟩) 1 1]) :=
    ⟨_, _, rfl, codes_of (l := [mC a b]) (vs := coC (mC a b) (.slice (some ⟨w1.heap.size, 0, none⟩) 1 1) (.slice (some ⟨w4.heap.size, 0, none⟩) 10 10) ++ []) e2 (by omega) (Nat.le_refl _) (by decide) (.cons (row_of (xs := tysV [2]) eT (lt_someV eT) (Nat.le_refl _) (by decide)) (row_of (xs := insV (meetsK a b)) e0 (by omega) (Nat.le_refl _) (by decide)) .nil),
      ⟨_, 1, rfl, Nat.le_refl _, by decide, (fun e => by cases e), fun i l hl => by
        match i, hl with
        | 0, hl =>
          injection hl with hl
          subst hl
          exact ⟨_, none, 0, rfl, (by show w4.heap.size + 1 + 1 + 1 < _; omega), cell_at e3 rfl, Nat.le_refl _, Nat.zero_le _, Lies.nothing _ _⟩⟩⟩
  have hb05 := HB4.out.trans (hb5.mono HB4.out.size)
  have K := Lib.hid (checkC _ _ w5 hm5 (mFit a b) (HT.out.below hb05 HT.out.1))
  have HB5 := Lib.hid hb05
  clear e0 e1 e2 e3 hb5 hs5 eT hm5 hb05 H4 HE4
  refine K.out.mono ?_
  rintro r w6 ⟨rfl, hb6⟩
  rw [mCheck]
  have HB6 := Lib.hid (HB5.out.trans (hb6.mono HB5.out.size))
  clear hb6 K
  by_cases hab : a % 3 = b % 3
  · rw [if_pos hab]
    have hx : ((a : Int) % 3 == (b : Int) % 3) = true := by rw [beq_iff_eq]; omega
    clear hab
    go_wp2_with fail
    go_ret
    exact ⟨rfl, HB6.out⟩
  · rw [if_neg hab]
    have hx : ((a : Int) % 3 == (b : Int) % 3) = false := by
      rw [← Bool.not_eq_true, beq_iff_eq]
      omega
    clear hab
    go_wp2_with fail
    go_ret
    exact ⟨rfl, HB6.out⟩
end Go.Proofs.YtilmidjkjgeoeaaDoor
