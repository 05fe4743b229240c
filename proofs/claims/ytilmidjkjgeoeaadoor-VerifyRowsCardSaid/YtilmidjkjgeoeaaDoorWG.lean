/- The live question ahead of every statement of stage 13. Conditions: the table of signs lies as the program lays it. -/
import Derived.Test.YtilmidjkjgeoeaaDoorWF
namespace Go.Proofs.YtilmidjkjgeoeaaDoor
open Go.RowKit Go.MapKept
set_option maxRecDepth 100000
set_option linter.unusedVariables false
set_option linter.unusedSimpArgs false
theorem heap_al (w : World) (o : Obj) (k : Nat) : (w.alloc o).heap[k]? = if k = w.heap.size then some o else w.heap[k]? := by
  show (w.heap.push o)[k]? = _
  rw [Array.getElem?_push]
theorem size_al (w : World) (o : Obj) : (w.alloc o).heap.size = w.heap.size + 1 := by simp
theorem lies_of {W : World} {B g c : Nat} {xs : List Value} {T : TypeId} (hg : W.heap[g]? = some (.cells xs.toArray T (0, 0))) (hB : g < B) : Lies W B (some ⟨g, 0, none⟩) c xs :=
  ⟨fun e => (by cases e), fun j u hu => ⟨_, rfl, hB, by
    rw [Addr.add_mid, Nat.zero_add]
    exact cell_at hg (by simpa using hu)⟩⟩
theorem row_of {W : World} {B g n c : Nat} {xs : List Value} {T : TypeId} (hg : W.heap[g]? = some (.cells xs.toArray T (0, 0))) (hB : g < B) (hn : n ≤ c) (hc : c ≤ maxLen) : RowL W B n xs (.slice (some ⟨g, 0, none⟩) n c) :=
  ⟨_, c, rfl, hn, hc, lies_of hg hB⟩
theorem codes_of {W : World} {B g c : Nat} {l : List Cd} {vs : List Value} {T : TypeId} (hg : W.heap[g]? = some (.cells vs.toArray T (0, 0))) (hB : g < B) (hn : l.length ≤ c) (hc : c ≤ maxLen) (h : CosC (RowL W B) (RowL W B) l vs) : CodesV W B l (.slice (some ⟨g, 0, none⟩) l.length c) :=
  ⟨_, c, vs, rfl, hn, hc, lies_of hg hB, h⟩
abbrev fC : Cd := ⟨[102], [], 0, 0, [(18, 0)]⟩
abbrev gC : Cd := ⟨[103], [], 0, 0, [(2, 1), (18, 0)]⟩
abbrev zC : Cd := ⟨[], [], 0, -1, []⟩
theorem fits_0 : MdFit ⟨[fC], []⟩ := ⟨fun c hc => by
  rw [List.mem_singleton.1 hc]
  exact ⟨by unfold Byt; decide, fun t ht => (by cases ht), by unfold Fit; decide, by unfold Fit; decide, by unfold Fit; decide⟩, fun s hs => (by cases hs)⟩
theorem fits_2 : MdFit ⟨[fC, gC], []⟩ := ⟨fun c hc => by
  rcases List.mem_cons.1 hc with rfl | hc
  · exact ⟨by unfold Byt; decide, fun t ht => (by cases ht), by unfold Fit; decide, by unfold Fit; decide, by unfold Fit; decide⟩
  · rw [List.mem_singleton.1 hc]
    exact ⟨by unfold Byt; decide, fun t ht => (by cases ht), by unfold Fit; decide, by unfold Fit; decide, by unfold Fit; decide⟩, fun s hs => (by cases hs)⟩
theorem fits_3 : MdFit ⟨[zC], []⟩ := ⟨fun c hc => by
  rw [List.mem_singleton.1 hc]
  exact ⟨by unfold Byt; decide, fun t ht => (by cases ht), by unfold Fit; decide, by unfold Fit; decide, by unfold Fit; decide⟩, fun s hs => (by cases hs)⟩
theorem check_0 : checkM ⟨[fC], []⟩ = 0 := check_safe (by decide) ⟨by decide, fun c hc => by
  rw [List.mem_singleton.1 hc]
  exact (straight_safe (l := []) (fun i hi => (by cases hi)) rfl).2 ⟨_, _, rfl, rfl, by decide⟩⟩
theorem check_2 : checkM ⟨[fC, gC], []⟩ = 131 := check_one (c := gC) (by decide) (List.mem_cons_of_mem _ (List.mem_singleton.2 rfl)) fun h => by
  obtain ⟨s, s', h1, h2, _⟩ := (straight_safe (l := [(2, 1)]) (r := (18, 0)) (fun i hi => (by rw [List.mem_singleton.1 hi]; unfold Straight; decide)) rfl).1 h
  injection h1 with h1
  subst h1
  cases h2
theorem check_3 : checkM ⟨[zC], []⟩ = 111 := check_right (by decide)
theorem five_al (w : World) (a b c d e : Obj) : (((((w.alloc a).alloc b).alloc c).alloc d).alloc e).heap[w.heap.size]? = some a ∧ (((((w.alloc a).alloc b).alloc c).alloc d).alloc e).heap[w.heap.size + 1]? = some b ∧ (((((w.alloc a).alloc b).alloc c).alloc d).alloc e).heap[w.heap.size + 1 + 1]? = some c ∧ (((((w.alloc a).alloc b).alloc c).alloc d).alloc e).heap[w.heap.size + 1 + 1 + 1]? = some d ∧ (((((w.alloc a).alloc b).alloc c).alloc d).alloc e).heap[w.heap.size + 1 + 1 + 1 + 1]? = some e ∧ Below w.heap.size w (((((w.alloc a).alloc b).alloc c).alloc d).alloc e) ∧ (((((w.alloc a).alloc b).alloc c).alloc d).alloc e).heap.size = w.heap.size + 5 := by
  refine ⟨?_, ?_, ?_, ?_, ?_, ?_, ?_⟩
  · simp only [heap_al, size_al]; rw [if_neg (by omega), if_neg (by omega), if_neg (by omega), if_neg (by omega), if_pos trivial]
  · simp only [heap_al, size_al]; rw [if_neg (by omega), if_neg (by omega), if_neg (by omega), if_pos trivial]
  · simp only [heap_al, size_al]; rw [if_neg (by omega), if_neg (by omega), if_pos trivial]
  · simp only [heap_al, size_al]; rw [if_neg (by omega), if_pos trivial]
  · simp only [heap_al, size_al]; rw [if_pos trivial]
  · exact ((((below_alloc w a).trans ((below_alloc _ b).mono (by simp only [size_al]; omega))).trans ((below_alloc _ c).mono (by simp only [size_al]; omega))).trans ((below_alloc _ d).mono (by simp only [size_al]; omega))).trans ((below_alloc _ e).mono (by simp only [size_al]; omega))
  · simp only [size_al]
abbrev fV (b : Nat) : List Value := [.string ⟨#[102]⟩, .slice none 0 0, .int .i64 0, .int .i64 0, .slice (some ⟨b, 0, none⟩) 1 1]
abbrev gV (b : Nat) : List Value := [.string ⟨#[103]⟩, .slice none 0 0, .int .i64 0, .int .i64 0, .slice (some ⟨b, 0, none⟩) 2 2]
set_option maxHeartbeats 1600000 in
theorem head_true (w : World) (ht : Tab w) : Calls Tryd.prog 7 #[] w (Says true w) := by
  have H5 := Lib.hid (five_al w (.cells #[.int .i64 18, .int .i64 0] 35) (.cells (fV w.heap.size).toArray 30) (.cells #[.int .i64 2, .int .i64 1, .int .i64 18, .int .i64 0] 35) (.cells (gV (w.heap.size + 1 + 1)).toArray 30) (.cells (fV w.heap.size).toArray 30))
  unfold fV gV at H5
  have HT := Lib.hid ht
  clear ht
  go_enter Tryd.func7, Tryd.ntmps7
  go_wp2_with fail
  generalize (((((w.alloc (.cells #[.int .i64 18, .int .i64 0] 35)).alloc (.cells #[.string ⟨#[102]⟩, .slice none 0 0, .int .i64 0, .int .i64 0, .slice (some ⟨w.heap.size, 0, none⟩) 1 1] 30)).alloc (.cells #[.int .i64 2, .int .i64 1, .int .i64 18, .int .i64 0] 35)).alloc (.cells #[.string ⟨#[103]⟩, .slice none 0 0, .int .i64 0, .int .i64 0, .slice (some ⟨w.heap.size + 1 + 1, 0, none⟩) 2 2] 30)).alloc (.cells #[.string ⟨#[102]⟩, .slice none 0 0, .int .i64 0, .int .i64 0, .slice (some ⟨w.heap.size, 0, none⟩) 1 1] 30)) = w5 at *
  obtain ⟨e0, e1, e2, e3, e4, hb5, hs5⟩ := H5.out
  have hm5 : ModV w5 w5.heap.size ⟨[fC], []⟩ (.agg #[.slice (some ⟨w.heap.size + 1 + 1 + 1 + 1, 0, none⟩) 1 1, .slice none 0 0]) :=
    ⟨_, _, rfl, codes_of (l := [fC]) (vs := coC fC (.slice none 0 0) (.slice (some ⟨w.heap.size, 0, none⟩) 1 1) ++ []) e4 (by omega) (by decide) (by decide) (.cons (RowL.nothing _ _) (row_of (xs := insV fC.instrs) e0 (by omega) (by decide) (by decide)) .nil), GridV.nothing _ _⟩
  have K1 := Lib.hid (checkC _ _ w5 hm5 fits_0 (HT.out.below hb5 HT.out.1))
  have HB5 := Lib.hid hb5
  have HS5 := Lib.hid hs5
  clear e0 e1 e2 e3 e4 hb5 hs5 hm5
  refine K1.out.mono ?_
  rintro r w6 ⟨rfl, hb6⟩
  rw [check_0]
  have hk6 : ∀ (k : Nat) (o : Obj), w5.heap[k]? = some o → w6.heap[k]? = some o := fun k o h => by rw [hb6.block _ (lt_someV h)]; exact h
  have e0 := hk6 _ _ H5.out.1
  have e1 := hk6 _ _ H5.out.2.1
  have e2 := hk6 _ _ H5.out.2.2.1
  have e3 := hk6 _ _ H5.out.2.2.2.1
  have hs6 := hb6.size
  have hs5 := HS5.out
  have HE := Lib.hid (And.intro e0 e2)
  have HR1 : Hid (w6.rangeAt (w.heap.size + 1) 0 (fV w.heap.size)) := Lib.hid (rangeV_of (cs := fV w.heap.size) e1)
  have HR2 : Hid (w6.rangeAt (w.heap.size + 1 + 1 + 1) 0 (gV (w.heap.size + 1 + 1))) := Lib.hid (rangeV_of (cs := gV (w.heap.size + 1 + 1)) e3)
  have HB6 := Lib.hid (HB5.out.trans (hb6.mono HB5.out.size))
  have HS6 : Hid (w.heap.size + 5 ≤ w6.heap.size) := Lib.hid (by omega)
  have HA7 := Lib.hid (And.intro (heap_alloc_new w6 (.cells #[.string ⟨#[102]⟩, .slice none 0 0, .int .i64 0, .int .i64 0, .slice (some ⟨w.heap.size, 0, none⟩) 1 1, .string ⟨#[103]⟩, .slice none 0 0, .int .i64 0, .int .i64 0, .slice (some ⟨w.heap.size + 1 + 1, 0, none⟩) 2 2] 30)) (And.intro (below_alloc w6 (.cells #[.string ⟨#[102]⟩, .slice none 0 0, .int .i64 0, .int .i64 0, .slice (some ⟨w.heap.size, 0, none⟩) 1 1, .string ⟨#[103]⟩, .slice none 0 0, .int .i64 0, .int .i64 0, .slice (some ⟨w.heap.size + 1 + 1, 0, none⟩) 2 2] 30)) (size_al w6 (.cells #[.string ⟨#[102]⟩, .slice none 0 0, .int .i64 0, .int .i64 0, .slice (some ⟨w.heap.size, 0, none⟩) 1 1, .string ⟨#[103]⟩, .slice none 0 0, .int .i64 0, .int .i64 0, .slice (some ⟨w.heap.size + 1 + 1, 0, none⟩) 2 2] 30))))
  clear e0 e1 e2 e3 hk6 hb6 K1 hs6 hs5
  have c10 : w6.cell? ⟨w.heap.size + 1, 0, none⟩ = some (.string ⟨#[102]⟩) := HR1.out 0 _ rfl
  have c20 : w6.cell? ⟨w.heap.size + 1 + 1 + 1, 0, none⟩ = some (.string ⟨#[103]⟩) := HR2.out 0 _ rfl
  have c11 : w6.cell? ⟨w.heap.size + 1, 1, none⟩ = some (.slice none 0 0) := HR1.out 1 _ rfl
  have c21 : w6.cell? ⟨w.heap.size + 1 + 1 + 1, 1, none⟩ = some (.slice none 0 0) := HR2.out 1 _ rfl
  have c12 : w6.cell? ⟨w.heap.size + 1, 2, none⟩ = some (.int .i64 0) := HR1.out 2 _ rfl
  have c22 : w6.cell? ⟨w.heap.size + 1 + 1 + 1, 2, none⟩ = some (.int .i64 0) := HR2.out 2 _ rfl
  have c13 : w6.cell? ⟨w.heap.size + 1, 3, none⟩ = some (.int .i64 0) := HR1.out 3 _ rfl
  have c23 : w6.cell? ⟨w.heap.size + 1 + 1 + 1, 3, none⟩ = some (.int .i64 0) := HR2.out 3 _ rfl
  have c14 : w6.cell? ⟨w.heap.size + 1, 4, none⟩ = some (.slice (some ⟨w.heap.size, 0, none⟩) 1 1) := HR1.out 4 _ rfl
  have c24 : w6.cell? ⟨w.heap.size + 1 + 1 + 1, 4, none⟩ = some (.slice (some ⟨w.heap.size + 1 + 1, 0, none⟩) 2 2) := HR2.out 4 _ rfl
  go_wp2_with fail
  generalize w6.alloc (.cells #[.string ⟨#[102]⟩, .slice none 0 0, .int .i64 0, .int .i64 0, .slice (some ⟨w.heap.size, 0, none⟩) 1 1, .string ⟨#[103]⟩, .slice none 0 0, .int .i64 0, .int .i64 0, .slice (some ⟨w.heap.size + 1 + 1, 0, none⟩) 2 2] 30) = w7 at *
  have e0 : w7.heap[w.heap.size]? = some (.cells #[.int .i64 18, .int .i64 0] 35) := by rw [HA7.out.2.1.block _ (lt_someV HE.out.1)]; exact HE.out.1
  have e2 : w7.heap[w.heap.size + 1 + 1]? = some (.cells #[.int .i64 2, .int .i64 1, .int .i64 18, .int .i64 0] 35) := by rw [HA7.out.2.1.block _ (lt_someV HE.out.2)]; exact HE.out.2
  have hs7 := HA7.out.2.2
  have hs6 := HS6.out
  have hb7 : Below w.heap.size w w7 := HB6.out.trans (HA7.out.2.1.mono HB6.out.size)
  have hm7 : ModV w7 w7.heap.size ⟨[fC, gC], []⟩ (.agg #[.slice (some ⟨w6.heap.size, 0, none⟩) 2 2, .slice none 0 0]) :=
    ⟨_, _, rfl, codes_of (l := [fC, gC]) (vs := coC fC (.slice none 0 0) (.slice (some ⟨w.heap.size, 0, none⟩) 1 1) ++ (coC gC (.slice none 0 0) (.slice (some ⟨w.heap.size + 1 + 1, 0, none⟩) 2 2) ++ [])) HA7.out.1 (by omega) (by decide) (by decide) (.cons (RowL.nothing _ _) (row_of (xs := insV fC.instrs) e0 (by omega) (by decide) (by decide)) (.cons (RowL.nothing _ _) (row_of (xs := insV gC.instrs) e2 (by omega) (by decide) (by decide)) .nil)), GridV.nothing _ _⟩
  have K2 := Lib.hid (checkC _ _ w7 hm7 fits_2 (HT.out.below hb7 HT.out.1))
  have HB7 := Lib.hid hb7
  clear e0 e2 hs7 hs6 hm7 hb7 c10 c11 c12 c13 c14 c20 c21 c22 c23 c24
  refine K2.out.mono ?_
  rintro r w8 ⟨rfl, hb8⟩
  rw [check_2]
  have HB8 := Lib.hid (HB7.out.trans (hb8.mono HB7.out.size))
  have HA9 := Lib.hid (And.intro (heap_alloc_new w8 (.cells #[.string ⟨#[]⟩, .slice none 0 0, .int .i64 0, .int .i64 (-1), .slice none 0 0] 30)) (And.intro (below_alloc w8 (.cells #[.string ⟨#[]⟩, .slice none 0 0, .int .i64 0, .int .i64 (-1), .slice none 0 0] 30)) (size_al w8 (.cells #[.string ⟨#[]⟩, .slice none 0 0, .int .i64 0, .int .i64 (-1), .slice none 0 0] 30))))
  clear hb8 K2
  go_wp2_with fail
  generalize w8.alloc (.cells #[.string ⟨#[]⟩, .slice none 0 0, .int .i64 0, .int .i64 (-1), .slice none 0 0] 30) = w9 at *
  have hs9 := HA9.out.2.2
  have hb9 : Below w.heap.size w w9 := HB8.out.trans (HA9.out.2.1.mono HB8.out.size)
  have hm9 : ModV w9 w9.heap.size ⟨[zC], []⟩ (.agg #[.slice (some ⟨w8.heap.size, 0, none⟩) 1 1, .slice none 0 0]) :=
    ⟨_, _, rfl, codes_of (l := [zC]) (vs := coC zC (.slice none 0 0) (.slice none 0 0) ++ []) HA9.out.1 (by omega) (by decide) (by decide) (.cons (RowL.nothing _ _) (RowL.nothing _ _) .nil), GridV.nothing _ _⟩
  have K3 := Lib.hid (checkC _ _ w9 hm9 fits_3 (HT.out.below hb9 HT.out.1))
  have HB9 := Lib.hid hb9
  clear hs9 hb9 hm9
  refine K3.out.mono ?_
  rintro r w10 ⟨rfl, hb10⟩
  rw [check_3]
  have HB10 := Lib.hid (HB9.out.trans (hb10.mono HB9.out.size))
  clear hb10 K3
  go_wp2_with fail
  go_ret
  exact ⟨rfl, HB10.out⟩
end Go.Proofs.YtilmidjkjgeoeaaDoor
