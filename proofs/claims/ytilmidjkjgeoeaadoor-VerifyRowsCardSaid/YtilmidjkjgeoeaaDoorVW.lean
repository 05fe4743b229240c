/- A new walk; its first state. Conditions: those in each theorem. -/
import Derived.Test.YtilmidjkjgeoeaaDoorVV
namespace Go.Proofs.YtilmidjkjgeoeaaDoor
open Go.RowKit Go.MapKept
set_option maxRecDepth 100000
set_option linter.unusedVariables false
set_option linter.unusedSimpArgs false
/-- the things of a new walk -/
def wx0 (m : Nat) (C Tx : Value) (nm : ByteArray) (U : Value) (r sl : Int) (I : Value) (n : Nat) : Wx := ⟨[(0, 0, 0)], m, C, Tx, nm, U, r, sl, I, List.replicate n pl0, []⟩
theorem wk_new {w : World} {B g m n : Nat} {C Tx U I V : Value} {nm : ByteArray} {r sl : Int} (hB : B ≤ w.heap.size) (hg : B ≤ g) (hm : B ≤ m) (hc : w.heap[g]? = some (.cells #[.int .i64 0, .int .i64 0, .int .i64 0] 81 (0, 0))) (hmap : MapE w m []) (hp : w.ownsRow B 71 10 V n ((List.replicate n pl0).flatMap plC)) :
    WkAt B w.heap.size (wx0 m C Tx nm U r sl I n) (.slice (some ⟨g, 0, none⟩) 1 1) V (.slice none 0 0) (w.alloc (wkO (wx0 m C Tx nm U r sl I n) (.slice (some ⟨g, 0, none⟩) 1 1) V (.slice none 0 0))) := by
  have hb := below_alloc w (wkO (wx0 m C Tx nm U r sl I n) (.slice (some ⟨g, 0, none⟩) 1 1) V (.slice none 0 0))
  refine ⟨heap_alloc_new w _, ?_, hmap.of (hb.block _ hmap.lt), ?_, World.ownsRow_nil _ _ _ _, hB, hm, by show 0 < 1; omega⟩
  · exact ⟨rfl, .inr ⟨g, 1, _, rfl, hg, (hb.block _ (lt_someV hc)).trans hc, Nat.le_refl _, by unfold maxLen; decide, rfl, rfl⟩⟩
  · have e : (wx0 m C Tx nm U r sl I n).pl.length = n := by show (List.replicate n pl0).length = n; simp
    rw [e]
    exact own_same hp fun q cs _ hq => (hb.block _ (lt_someV hq)).trans hq
def NewW (w : World) (C Tx : Value) (nm : ByteArray) (U : Value) (r sl : Int) (I : Value) (n : Nat) (e : Ending) (w' : World) : Prop :=
  ∃ W m L V, e = .returned (.pointer (some ⟨W, 0, none⟩)) ∧ WkAt w.heap.size W (wx0 m C Tx nm U r sl I n) L V (.slice none 0 0) w' ∧ Below w.heap.size w w'
set_option maxHeartbeats 1600000 in
theorem newWkC (w : World) (C Tx : Value) (nm : ByteArray) (U : Value) (r sl : Int) (AI : Option Addr) (n cI : Nat) (hn : n ≤ 1000000) (hC : ∃ A a b, C = .slice A a b) (hT : ∃ A a b, Tx = .slice A a b) (hU : ∃ A a b, U = .slice A a b) :
    Calls Tryd.prog 15 #[.agg #[C, Tx], .agg #[.string nm, U, .int .i64 r, .int .i64 sl, .slice AI n cI]] w (NewW w C Tx nm U r sl (.slice AI n cI) n) := by
  obtain ⟨AC, nC, cC, rfl⟩ := hC
  obtain ⟨AT, nT, cT, rfl⟩ := hT
  obtain ⟨AU, nU, cU, rfl⟩ := hU
  have B1 := below_alloc w (.cells #[.slice AC nC cC, .slice AT nT cT] 25)
  have A1 := heap_alloc_new w (.cells #[.slice AC nC cC, .slice AT nT cT] 25)
  have B2 := below_alloc (w.alloc (.cells #[.slice AC nC cC, .slice AT nT cT] 25)) (.cells #[.string nm, .slice AU nU cU, .int .i64 r, .int .i64 sl, .slice AI n cI] 30)
  have A2 := heap_alloc_new (w.alloc (.cells #[.slice AC nC cC, .slice AT nT cT] 25)) (.cells #[.string nm, .slice AU nU cU, .int .i64 r, .int .i64 sl, .slice AI n cI] 30)
  have s1 : (w.alloc (.cells #[.slice AC nC cC, .slice AT nT cT] 25)).heap.size = w.heap.size + 1 := by simp
  rw [s1] at A2
  have B12 : Below w.heap.size w ((w.alloc (.cells #[.slice AC nC cC, .slice AT nT cT] 25)).alloc (.cells #[.string nm, .slice AU nU cU, .int .i64 r, .int .i64 sl, .slice AI n cI] 30)) := B1.trans (B2.mono (by omega))
  have A1' := (B2.block _ (by omega)).trans A1
  obtain ⟨w1, hw1⟩ : ∃ w1, (w.alloc (.cells #[.slice AC nC cC, .slice AT nT cT] 25)).alloc (.cells #[.string nm, .slice AU nU cU, .int .i64 r, .int .i64 sl, .slice AI n cI] 30) = w1 := ⟨_, rfl⟩
  rw [hw1] at A2 B12 A1'
  have HW := Lib.hid hw1
  have HB := Lib.hid B12
  have lt1 : w.heap.size < w1.heap.size := lt_someV A1'
  have lt2 : w.heap.size + 1 < w1.heap.size := lt_someV A2
  have HC : Hid (∀ w', Below w1.heap.size w1 w' → (w'.cell? ⟨w.heap.size, 0, none⟩ = some (.slice AC nC cC) ∧ w'.cell? ⟨w.heap.size, 1, none⟩ = some (.slice AT nT cT)) ∧ w'.cell? ⟨w.heap.size + 1, 0, none⟩ = some (.string nm) ∧ w'.cell? ⟨w.heap.size + 1, 1, none⟩ = some (.slice AU nU cU) ∧ w'.cell? ⟨w.heap.size + 1, 2, none⟩ = some (.int .i64 r) ∧ w'.cell? ⟨w.heap.size + 1, 3, none⟩ = some (.int .i64 sl) ∧ w'.cell? ⟨w.heap.size + 1, 4, none⟩ = some (.slice AI n cI)) :=
    fun w' hb => ⟨⟨hb.cell_is lt1 (cell_at A1' rfl), hb.cell_is lt1 (cell_at A1' rfl)⟩, hb.cell_is lt2 (cell_at A2 rfl), hb.cell_is lt2 (cell_at A2 rfl), hb.cell_is lt2 (cell_at A2 rfl), hb.cell_is lt2 (cell_at A2 rfl), hb.cell_is lt2 (cell_at A2 rfl)⟩
  obtain ⟨i0, hi, hz0, hz1, hz2⟩ := infoV info71
  have HS := Lib.hid s1
  clear B1 A1 B2 A2 s1 B12 A1' hw1
  go_enter Tryd.func15, Tryd.ntmps15
  go_upto_region 1 with fail
  rw [HW.out]
  have hBd : Below w1.heap.size w1 w1.drew := (Below.refl _ _).drew
  refine wp_region_held_drew (S := fun w' => Below w1.heap.size w1 w') (by kernel_rfl) hBd (fun hHeld => ?_)
  refine wpAnyH_take (i := 1) (v := ?v1_1) rfl (by kernel_rfl) (by kernel_rfl) (by kernel_rfl) (fun _ _ _ h => h) (Or.inl ⟨by kernel_rfl, ?y1_1⟩) (by assumption) ?r1_1
  case y1_1 => (intro w hSw; obtain ⟨⟨p0, p1⟩, _⟩ := HC.out _ hSw; (try dsimp only at hSw); go_simp; (try with_reducible rfl))
  try simp only [Act.put, List.getElem_toArray, List.getElem_cons_zero, List.getElem_cons_succ, List.setIfInBounds_toArray, List.set_cons_zero, List.set_cons_succ]
  refine wpAnyH_take (i := 2) (v := ?v2_2) rfl (by kernel_rfl) (by kernel_rfl) (by kernel_rfl) (fun _ _ _ h => h) (Or.inl ⟨by kernel_rfl, ?y2_2⟩) (by assumption) ?r2_2
  case y2_2 => (intro w hSw; obtain ⟨_, p0, p1, p2, p3, p4⟩ := HC.out _ hSw; (try dsimp only at hSw); go_simp; (try with_reducible rfl))
  try simp only [Act.put, List.getElem_toArray, List.getElem_cons_zero, List.getElem_cons_succ, List.setIfInBounds_toArray, List.set_cons_zero, List.set_cons_succ]
  refine wpAnyH_take (i := 3) (v := ?v3_3) rfl (by kernel_rfl) (by kernel_rfl) (by kernel_rfl) (fun _ _ _ h => h) (Or.inl ⟨by kernel_rfl, ?y3_3⟩) (by assumption) ?r3_3
  case y3_3 => (intro w hSw; (try dsimp only at hSw); go_simp; (try with_reducible rfl))
  try simp only [Act.put, List.getElem_toArray, List.getElem_cons_zero, List.getElem_cons_succ, List.setIfInBounds_toArray, List.set_cons_zero, List.set_cons_succ]
  refine wpAnyH_take (i := 4) (v := ?v4_4) rfl (by kernel_rfl) (by kernel_rfl) (by kernel_rfl) (fun _ _ _ h => h) (Or.inl ⟨by kernel_rfl, ?y4_4⟩) (by assumption) ?r4_4
  case y4_4 => (intro w hSw; obtain ⟨_, p0, p1, p2, p3, p4⟩ := HC.out _ hSw; (try dsimp only at hSw); go_simp; (try with_reducible rfl))
  try simp only [Act.put, List.getElem_toArray, List.getElem_cons_zero, List.getElem_cons_succ, List.setIfInBounds_toArray, List.set_cons_zero, List.set_cons_succ]
  refine wpAnyH_take (i := 5) (v := ?v5_5) rfl (by kernel_rfl) (by kernel_rfl) (by kernel_rfl) (fun _ _ _ h => h) (Or.inl ⟨by kernel_rfl, ?y5_5⟩) (by assumption) ?r5_5
  case y5_5 => (intro w hSw; (try dsimp only at hSw); go_simp; (try with_reducible rfl))
  try simp only [Act.put, List.getElem_toArray, List.getElem_cons_zero, List.getElem_cons_succ, List.setIfInBounds_toArray, List.set_cons_zero, List.set_cons_succ]
  have HWD : Hid (w1.drew.heap.size = w1.heap.size) := Lib.hid rfl
  generalize w1.drew = wd at *
  refine wpAnyH_ready (rs := [0, 6]) (by kernel_rfl) (by simp) ?_
  refine AllReadyH.cons rfl (fun K hK => ?_) (AllReadyH.cons rfl (fun K hK => ?_) AllReadyH.nil)
  · go_simp
    refine (newStC wd).mono ?_
    rintro e w2 ⟨g, m, rfl, g1, g2, g3, g4, g5⟩
    have B2 : Below w1.heap.size w1 w2 := hBd.trans (g5.mono hBd.size)
    refine hK.out _ _ B2 (fun hHeld => ?_)
    clear hK K
    refine wpAnyH_ready (rs := [6]) (by kernel_rfl) (by simp) ?_
    refine AllReadyH.cons rfl (fun K hK => ?_) AllReadyH.nil
    refine stepR_make _ rfl _ _ 58 rfl w.heap.size 71 i0 _ 10 Tryd.underlying58 hi hz0 hz1 .i64 .i64 n n n rfl rfl rfl rfl (by rw [hz2]; omega) (by unfold maxLen; omega) (by have := B2.size; omega) ?_
    intro w3 ho hg3
    have b3 : Below w2.heap.size w2 w3 := ⟨hg3.os, hg3.tape, hg3.output, hg3.size, fun k hk => hg3.block k hk (by intro e; cases e)⟩
    have B3 : Below w1.heap.size w1 w3 := B2.trans (b3.mono B2.size)
    rw [made_places] at ho
    have HF := Lib.hid (And.intro (show w.heap.size ≤ g by have := hBd.size; omega) (And.intro (show w.heap.size ≤ m by have := hBd.size; omega) (And.intro ((b3.block _ (lt_someV g3)).trans g3) (And.intro (g4.of (b3.block _ g4.lt)) ho))))
    refine hK.out _ _ B3 (fun hHeld => ?_)
    clear hK K
    simp only [Act.put, List.getElem_toArray, List.getElem_cons_zero, List.getElem_cons_succ, List.setIfInBounds_toArray, List.set_cons_zero, List.set_cons_succ]
    refine wpAnyH_take (i := 7) (v := ?v7_6) rfl (by kernel_rfl) (by kernel_rfl) (by kernel_rfl) (fun _ _ _ h => h) (Or.inl ⟨by kernel_rfl, ?y7_6⟩) (by assumption) ?r7_6
    case y7_6 => (intro w hSw; (try dsimp only at hSw); go_simp; (try with_reducible rfl))
    try simp only [Act.put, List.getElem_toArray, List.getElem_cons_zero, List.getElem_cons_succ, List.setIfInBounds_toArray, List.set_cons_zero, List.set_cons_succ]
    refine wpAnyH_ready (rs := [8]) (by kernel_rfl) (by simp) ?_
    refine AllReadyH.cons rfl (fun K hK => ?_) AllReadyH.nil
    go_simp
    have B4 : Hid (Below w1.heap.size w1 (w3.alloc (wkO (wx0 m (.slice AC nC cC) (.slice AT nT cT) nm (.slice AU nU cU) r sl (.slice AI n cI) n) (.slice (some ⟨g, 0, none⟩) 1 1) (.slice (some ⟨w2.heap.size, 0, none⟩) n n) (.slice none 0 0)))) := Lib.hid (B3.trans ((below_alloc w3 _).mono B3.size))
    refine hK.out _ _ B4.out (fun hHeld => ?_)
    clear hK K
    refine wpAnyH_take (i := 9) (v := ?v9_7) rfl (by kernel_rfl) (by kernel_rfl) (by kernel_rfl) (fun _ _ _ h => h) (Or.inl ⟨by kernel_rfl, ?y9_7⟩) (by assumption) ?r9_7
    case y9_7 => (intro w hSw; (try dsimp only at hSw); go_simp; (try with_reducible rfl))
    try simp only [Act.put, List.getElem_toArray, List.getElem_cons_zero, List.getElem_cons_succ, List.setIfInBounds_toArray, List.set_cons_zero, List.set_cons_succ]
    refine wpAnyH_done (by kernel_rfl) ?_ _
    go_wp2
    go_ret
    exact ⟨w3.heap.size, m, _, _, rfl, wk_new (by have := B3.size; omega) HF.out.1 HF.out.2.1 HF.out.2.2.1 HF.out.2.2.2.1 HF.out.2.2.2.2, HB.out.trans (B4.out.mono (by omega))⟩
  · refine stepR_make _ rfl _ _ 58 rfl w.heap.size 71 i0 _ 10 Tryd.underlying58 hi hz0 hz1 .i64 .i64 n n n rfl rfl rfl rfl (by rw [hz2]; omega) (by unfold maxLen; omega) (by have := hBd.size; omega) ?_
    intro w2 ho2 hg3
    have b2 : Below wd.heap.size wd w2 := ⟨hg3.os, hg3.tape, hg3.output, hg3.size, fun k hk => hg3.block k hk (by intro e; cases e)⟩
    have B2 : Below w1.heap.size w1 w2 := hBd.trans (b2.mono hBd.size)
    rw [made_places] at ho2
    refine hK.out _ _ B2 (fun hHeld => ?_)
    clear hK K
    simp only [Act.put, List.getElem_toArray, List.getElem_cons_zero, List.getElem_cons_succ, List.setIfInBounds_toArray, List.set_cons_zero, List.set_cons_succ]
    refine wpAnyH_ready (rs := [0]) (by kernel_rfl) (by simp) ?_
    refine AllReadyH.cons rfl (fun K hK => ?_) AllReadyH.nil
    go_simp
    refine (newStC w2).mono ?_
    rintro e w3 ⟨g, m, rfl, g1, g2, g3, g4, g5⟩
    have B3 : Below w1.heap.size w1 w3 := B2.trans (g5.mono B2.size)
    have HF := Lib.hid (And.intro (show w.heap.size ≤ g by have := B2.size; omega) (And.intro (show w.heap.size ≤ m by have := B2.size; omega) (And.intro g3 (And.intro g4 (own_same ho2 fun q cs _ hq => (g5.block _ (lt_someV hq)).trans hq)))))
    refine hK.out _ _ B3 (fun hHeld => ?_)
    clear hK K
    try simp only [Act.put, List.getElem_toArray, List.getElem_cons_zero, List.getElem_cons_succ, List.setIfInBounds_toArray, List.set_cons_zero, List.set_cons_succ]
    refine wpAnyH_take (i := 7) (v := ?v7_8) rfl (by kernel_rfl) (by kernel_rfl) (by kernel_rfl) (fun _ _ _ h => h) (Or.inl ⟨by kernel_rfl, ?y7_8⟩) (by assumption) ?r7_8
    case y7_8 => (intro w hSw; (try dsimp only at hSw); go_simp; (try with_reducible rfl))
    try simp only [Act.put, List.getElem_toArray, List.getElem_cons_zero, List.getElem_cons_succ, List.setIfInBounds_toArray, List.set_cons_zero, List.set_cons_succ]
    refine wpAnyH_ready (rs := [8]) (by kernel_rfl) (by simp) ?_
    refine AllReadyH.cons rfl (fun K hK => ?_) AllReadyH.nil
    go_simp
    have B4 : Hid (Below w1.heap.size w1 (w3.alloc (wkO (wx0 m (.slice AC nC cC) (.slice AT nT cT) nm (.slice AU nU cU) r sl (.slice AI n cI) n) (.slice (some ⟨g, 0, none⟩) 1 1) (.slice (some ⟨wd.heap.size, 0, none⟩) n n) (.slice none 0 0)))) := Lib.hid (B3.trans ((below_alloc w3 _).mono B3.size))
    refine hK.out _ _ B4.out (fun hHeld => ?_)
    clear hK K
    refine wpAnyH_take (i := 9) (v := ?v9_9) rfl (by kernel_rfl) (by kernel_rfl) (by kernel_rfl) (fun _ _ _ h => h) (Or.inl ⟨by kernel_rfl, ?y9_9⟩) (by assumption) ?r9_9
    case y9_9 => (intro w hSw; (try dsimp only at hSw); go_simp; (try with_reducible rfl))
    try simp only [Act.put, List.getElem_toArray, List.getElem_cons_zero, List.getElem_cons_succ, List.setIfInBounds_toArray, List.set_cons_zero, List.set_cons_succ]
    refine wpAnyH_done (by kernel_rfl) ?_ _
    go_wp2
    go_ret
    exact ⟨w3.heap.size, m, _, _, rfl, wk_new (by have := B3.size; omega) HF.out.1 HF.out.2.1 HF.out.2.2.1 HF.out.2.2.2.1 HF.out.2.2.2.2, HB.out.trans (B4.out.mono (by omega))⟩
end Go.Proofs.YtilmidjkjgeoeaaDoor
