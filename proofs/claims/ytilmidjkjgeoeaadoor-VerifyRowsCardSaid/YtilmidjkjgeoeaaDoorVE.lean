/- What two states know alike, of their slots. Conditions: eight words each. -/
import Derived.Test.YtilmidjkjgeoeaaDoorVD
namespace Go.Proofs.YtilmidjkjgeoeaaDoor
open Go.RowKit
set_option maxRecDepth 100000
set_option linter.unusedVariables false
set_option linter.unusedSimpArgs false
def wsV (xs : List Nat) : List Value := xs.map fun x => Value.int .u64 (x : Nat)
theorem wsV_len (xs : List Nat) : (wsV xs).length = xs.length := by simp [wsV]
theorem wsV_at {xs : List Nat} {k x : Nat} (h : xs[k]? = some x) : (wsV xs)[k]? = some (.int .u64 x) := by simp [wsV, h]
theorem wsV_one (xs : List Nat) : ∀ u ∈ wsV xs, u.oneCell' = true := by
  intro u hu
  obtain ⟨x, _, rfl⟩ := List.mem_map.1 hu
  rfl
theorem zip8 {xs ys : List Nat} (hx : Ws8 xs) (hy : Ws8 ys) : Ws8 (List.zipWith dgC xs ys) := by
  refine ⟨by rw [List.length_zipWith, hx.1, hy.1]; rfl, fun z hz => ?_⟩
  obtain ⟨i, hi⟩ := List.getElem?_of_mem hz
  rw [List.getElem?_zipWith] at hi
  cases h1 : xs[i]? with
  | none => rw [h1] at hi; simp at hi
  | some x =>
    cases h2 : ys[i]? with
    | none => rw [h1, h2] at hi; simp at hi
    | some y =>
      rw [h1, h2] at hi
      simp at hi
      rw [← hi]
      exact dgC_lt y (hx.2 x (List.mem_of_getElem? h1))
/-- the words behind so many rounds -/
def cmK (xs ys : List Nat) (k : Nat) : List Nat := (List.zipWith dgC xs ys).take k ++ xs.drop k
theorem cmK_zero (xs ys : List Nat) : cmK xs ys 0 = xs := by simp [cmK]
theorem cmK_end {xs ys : List Nat} (hx : xs.length = 8) (hy : ys.length = 8) : cmK xs ys 8 = List.zipWith dgC xs ys := by
  unfold cmK
  rw [List.take_of_length_le (by rw [List.length_zipWith, hx, hy]; decide), List.drop_eq_nil_of_le (by omega), List.append_nil]
theorem cmK_at {xs ys : List Nat} {k x : Nat} (hl : xs.length = ys.length) (h : xs[k]? = some x) : (cmK xs ys k)[k]? = some x := by
  have hk := (List.getElem?_eq_some_iff.1 h).1
  unfold cmK
  rw [List.getElem?_append_right (by simp; omega)]
  rw [List.getElem?_drop, ← h]
  congr 1
  simp
  omega
theorem cmK_next {xs ys : List Nat} {k x y : Nat} (hl : xs.length = ys.length) (h : xs[k]? = some x) (g : ys[k]? = some y) : (cmK xs ys k).set k (dgC x y) = cmK xs ys (k + 1) := by
  have hk := (List.getElem?_eq_some_iff.1 h).1
  have hz : (List.zipWith dgC xs ys)[k]? = some (dgC x y) := by rw [List.getElem?_zipWith, h, g]
  unfold cmK
  have e : ((List.zipWith dgC xs ys).take k).length = k := by simp; omega
  rw [List.set_append_right _ _ (by omega), e, Nat.sub_self]
  rw [List.take_add_one, hz, List.append_assoc]
  congr 1
  have hd : xs.drop k = x :: xs.drop (k + 1) := by
    rw [List.drop_eq_getElem_cons hk]
    rw [List.getElem?_eq_getElem hk] at h
    injection h with h
    rw [h]
  rw [hd]
  rfl
theorem word_d1 {x y : Nat} (hx : x < 18446744073709551616) (hy : y < 18446744073709551616) : bits .xor .u64 (x : Int) (y : Int) = ((x ^^^ y : Nat) : Int) ∧ x ^^^ y < 18446744073709551616 := ⟨u64_xor_nat x y hx hy, Nat.xor_lt_two_pow (n := 64) hx hy⟩
theorem word_d2 {z : Nat} (hz : z < 18446744073709551616) : bits .and .u64 (bits .or .u64 (z : Int) ((z : Int) / 2)) 6148914691236517205 = (((z ||| z / 2) &&& 6148914691236517205 : Nat) : Int) := by
  have h2 : z / 2 < 18446744073709551616 := by omega
  have h3 := u64_and_nat (z ||| z / 2) 6148914691236517205 (Nat.or_lt_two_pow (n := 64) hz h2) (by omega)
  rw [show (z : Int) / 2 = ((z / 2 : Nat) : Int) by omega, u64_or_nat z (z / 2) hz h2]
  exact h3
theorem word_d3 {x d : Nat} (hx : x < 18446744073709551616) (hd : d ≤ 6148914691236517205) : IntKind.u64.wrap ((d : Int) * 2) = ((d * 2 : Nat) : Int) ∧ bits .andNot .u64 (x : Int) (bits .or .u64 (d : Int) ((d : Int) * 2)) = ((x &&& (18446744073709551615 - (d ||| d * 2)) : Nat) : Int) := by
  refine ⟨by rw [IntKind.wrap_u64]; omega, ?_⟩
  have h2 : d ||| d * 2 < 18446744073709551616 := Nat.or_lt_two_pow (n := 64) (by omega) (by omega)
  rw [show (d : Int) * 2 = ((d * 2 : Nat) : Int) by omega, u64_or_nat d (d * 2) (by omega) (by omega), u64_andNot_nat _ _ hx h2]
theorem info65s : (Tryd.prog.info? 65).map (·.size) = some 8 := by kernel_rfl
theorem info63s : (Tryd.prog.info? 63).map (·.size) = some 1 := by kernel_rfl
set_option maxHeartbeats 800000 in
theorem commonC (xs ys : List Nat) (w : World) (hx : Ws8 xs) (hy : Ws8 ys) : Calls Tryd.prog 46 #[.agg (wsV xs).toArray, .agg (wsV ys).toArray] w fun e w' => e = .returned (.agg (wsV (List.zipWith dgC xs ys)).toArray) ∧ Below w.heap.size w w' := by
  have HX := Lib.hid hx
  have HY := Lib.hid hy
  have lx := wsV_len xs
  have ly := wsV_len ys
  rw [hx.1] at lx
  rw [hy.1] at ly
  clear hx hy
  have hw1 : Hid (Below w.heap.size w (((w.alloc (.cells (wsV xs).toArray 65)).alloc (.cells (wsV ys).toArray 65)).alloc (.cells #[.int .u64 0, .int .u64 0, .int .u64 0, .int .u64 0, .int .u64 0, .int .u64 0, .int .u64 0, .int .u64 0] 65))) :=
    Lib.hid ((((Below.refl w.heap.size w).alloc (Nat.le_refl _) _).alloc (by simp) _).alloc (by simp; omega) _)
  have c1 : (((w.alloc (.cells (wsV xs).toArray 65)).alloc (.cells (wsV ys).toArray 65)).alloc (.cells #[.int .u64 0, .int .u64 0, .int .u64 0, .int .u64 0, .int .u64 0, .int .u64 0, .int .u64 0, .int .u64 0] 65)).heap[w.heap.size]? = some (.cells (wsV (cmK xs ys 0)).toArray 65 (0, 0)) := by
    rw [cmK_zero, Below.heap_alloc _ _ _ (by simp; omega), Below.heap_alloc _ _ _ (by simp)]
    exact heap_alloc_new w _
  have c2 : (((w.alloc (.cells (wsV xs).toArray 65)).alloc (.cells (wsV ys).toArray 65)).alloc (.cells #[.int .u64 0, .int .u64 0, .int .u64 0, .int .u64 0, .int .u64 0, .int .u64 0, .int .u64 0, .int .u64 0] 65)).heap[w.heap.size + 1]? = some (.cells (wsV ys).toArray 65 (0, 0)) := by
    rw [Below.heap_alloc _ _ _ (by simp)]
    have := heap_alloc_new (w.alloc (.cells (wsV xs).toArray 65)) (.cells (wsV ys).toArray 65)
    rwa [World.size_alloc] at this
  have c3 : (((w.alloc (.cells (wsV xs).toArray 65)).alloc (.cells (wsV ys).toArray 65)).alloc (.cells #[.int .u64 0, .int .u64 0, .int .u64 0, .int .u64 0, .int .u64 0, .int .u64 0, .int .u64 0, .int .u64 0] 65)).heap[w.heap.size + 1 + 1]? = some (.cells #[.int .u64 0, .int .u64 0, .int .u64 0, .int .u64 0, .int .u64 0, .int .u64 0, .int .u64 0, .int .u64 0] 65 (0, 0)) := by
    have := heap_alloc_new ((w.alloc (.cells (wsV xs).toArray 65)).alloc (.cells (wsV ys).toArray 65)) (.cells #[.int .u64 0, .int .u64 0, .int .u64 0, .int .u64 0, .int .u64 0, .int .u64 0, .int .u64 0, .int .u64 0] 65)
    rwa [World.size_alloc, World.size_alloc] at this
  have HR := Lib.hid (rangeV_of c2)
  have HC := Lib.hid (And.intro c1 c3)
  clear c1 c2 c3
  go_enter Tryd.func46, Tryd.ntmps46
  go_wp2_with (first | (refine wpList_load_mid rfl 65 (.tmp 3) rfl (w.heap.size + 1) 0 rfl (wsV ys) _ HR.out Tryd.underlying65 rfl (by rw [ly]; exact info65s) ?_) | fail)
  go_loopw [5, 6, 7, 9] (fun _ _ _ i wr => ∃ k : Nat, k ≤ 8 ∧ i = .int .i64 k ∧ Hid (Below w.heap.size w wr) ∧ Hid (wr.heap[w.heap.size]? = some (.cells (wsV (cmK xs ys k)).toArray 65 (0, 0)) ∧ wr.heap[w.heap.size + 1 + 1]? = some (.cells #[.int .u64 0, .int .u64 0, .int .u64 0, .int .u64 0, .int .u64 0, .int .u64 0, .int .u64 0, .int .u64 0] 65 (0, 0)))) (fun _ _ _ i _ => 8 - (intOf i).toNat)
  case atStart => exact ⟨0, by omega, rfl, hw1, HC⟩
  case round =>
    obtain ⟨k, hk, rfl, HB, HQ⟩ := hrel
    by_cases h8 : k < 8
    · obtain ⟨x, hx⟩ : ∃ x, xs[k]? = some x := ⟨xs[k]'(by have := HX.out.1; omega), List.getElem?_eq_getElem _⟩
      obtain ⟨y, hy⟩ : ∃ y, ys[k]? = some y := ⟨ys[k]'(by have := HY.out.1; omega), List.getElem?_eq_getElem _⟩
      have hxl := HX.out.2 x (List.mem_of_getElem? hx)
      have hyl := HY.out.2 y (List.mem_of_getElem? hy)
      have hll : xs.length = ys.length := by rw [HX.out.1, HY.out.1]
      have hi := run_indexV wr (t := 65) (e := 63) (n := 8) (k := k) (cs := wsV ys) (v := .int .u64 y) Tryd.underlying65 info63s (Tryd.isAgg63 wr) h8 (wsV_at hy)
      have hcx : wr.cell? ⟨w.heap.size, k, none⟩ = some (.int .u64 x) := by
        rw [cell_of_row _ _ _ _ _ _ HQ.out.1]
        simpa using wsV_at (cmK_at hll hx)
      have hfx : wr.frozen? ⟨w.heap.size, k, none⟩ = false := by simp [World.frozen?, HQ.out.1]
      obtain ⟨e1, l1⟩ := word_d1 hxl hyl
      have HZ := Lib.hid (And.intro hx (And.intro hy hll))
      have e2 := word_d2 l1
      have l2 := dgD_le x y
      obtain ⟨e3, e4⟩ := word_d3 hxl l2
      have HCx : Hid (x &&& (18446744073709551615 - (dgD x y ||| dgD x y * 2)) = dgC x y) := rfl
      have HD : (((x ^^^ y) ||| ((x ^^^ y) / 2)) &&& 6148914691236517205) = dgD x y := rfl
      rw [HD] at e2
      rw [HCx.out] at e4
      clear HD hx hy hll l1 l2 hxl hyl
      have HN := Lib.hid (cmK_next HZ.out.2.2 HZ.out.1 HZ.out.2.1)
      generalize dgC x y = c at *
      generalize dgD x y = d at *
      generalize x ^^^ y = z at *
      go_wp2
      go_round
      case measure => simp [intOf]; omega
      case rel =>
        refine ⟨k + 1, by omega, by go_num, Lib.hid ?_, Lib.hid ⟨?_, ?_⟩⟩
        · exact HB.out.trans ((One.set _ _ _ _).below (Nat.le_refl _))
        · rw [heap_setCell_same _ _ _ _ 65 _ HQ.out.1]
          rw [← HN.out]
          simp [wsV, List.map_set, e4]
        · rw [(One.set wr w.heap.size k _).far _ (by omega)]
          exact HQ.out.2
    · obtain rfl : k = 8 := by omega
      have HR2 := Lib.hid (rangeV_of HQ.out.1)
      rw [cmK_end HX.out.1 HY.out.1] at HR2
      have hzl : (wsV (List.zipWith dgC xs ys)).length = 8 := by rw [wsV_len, List.length_zipWith, HX.out.1, HY.out.1]; decide
      go_wp2_with (first | (refine wpList_load_mid rfl 65 (.tmp 2) rfl w.heap.size 0 rfl (wsV (List.zipWith dgC xs ys)) _ HR2.out Tryd.underlying65 rfl (by rw [hzl]; exact info65s) ?_) | (refine wpList_storeA info65s rfl (.tmp 4) (.tmp 33) rfl rfl (w.heap.size + 1 + 1) rfl (wsV (List.zipWith dgC xs ys)) _ hzl rfl HQ.out.2 rfl (wsV_one _) ?_; intro w6 g1 g2))
      refine bodyPost_ret (retV_cell Tryd.results46 Tryd.underlying65 rfl (by rw [hzl]; exact info65s) _ _ (w.heap.size + 1 + 1) rfl (rangeV_of g1)) rfl ?_
      exact ⟨rfl, HB.out.trans (g2.below (by omega))⟩
end Go.Proofs.YtilmidjkjgeoeaaDoor
