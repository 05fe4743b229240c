/- The closure of CodeLimits: a module with one code more is right or not. Conditions: the module's box lies where it says. -/
import Derived.Test.YtecjkmemihmkcaaDoorWb
namespace Go.Proofs.YtecjkmemihmkcaaDoor
set_option maxRecDepth 100000
open Go.RowKit
set_option linter.unusedSimpArgs false
set_option linter.unusedVariables false

theorem own_lit0 (T : TypeId) (n : Nat) {x : World} {g B : Nat} (h : x.heap[g]? = some (.cells #[] T (0, 0))) (hB : B ≤ g) : x.ownsRow B T n (.slice (some ⟨g, 0, none⟩) 0 0) 0 [] := ⟨by simp, .inr ⟨g, 0, #[], rfl, hB, h, Nat.le_refl _, Nat.zero_le _, by simp, by simp⟩⟩
theorem row_lies {x : World} {g T c : Nat} {cs : Array Value} {fr : Nat × Nat} (h : x.heap[g]? = some (.cells cs T fr)) : Lies x x.heap.size (some ⟨g, 0, none⟩) c cs.toList := ⟨fun e => (by cases e), fun j u hu => ⟨_, rfl, lt_of_some h, by
  rw [Addr.add_lit, cell_of_row _ _ _ _ _ _ h, Nat.zero_add]
  simpa using hu⟩⟩
theorem ones5 (s : ByteArray) (A : Option Addr) (n c : Nat) (r t : Int) (B : Option Addr) (k d : Nat) : ∀ u ∈ ([.string s, .slice A n c, .int .i64 r, .int .i64 t, .slice B k d] : List Value), u.oneCell' = true := by
  intro u hu
  simp only [List.mem_cons, List.not_mem_nil, or_false] at hu
  rcases hu with rfl | rfl | rfl | rfl | rfl <;> rfl
theorem cos_ones {w : World} {B : Nat} {l : List Cd} {vs : List Value} (h : CosC (RowL w B) (RowL w B) l vs) : ∀ u ∈ vs, u.oneCell' = true := by
  induction h with
  | nil => intro u hu; cases hu
  | cons h1 h2 _ ih =>
    obtain ⟨A, n, rfl⟩ := h1.is
    obtain ⟨A', n', rfl⟩ := h2.is
    intro u hu
    rcases List.mem_append.1 hu with hu | hu
    · exact ones5 _ _ _ _ _ _ _ _ _ u hu
    · exact ih u hu
/-- the module with one code more -/
theorem more_mod {m : Md} {c : Cd} {w1 x : World} {vs : List Value} {AP AI : Option Addr} {cP cI : Nat} {T v : Value} (hS : CosC (RowL w1 w1.heap.size) (RowL w1 w1.heap.size) m.codes vs) (hP : RowL w1 w1.heap.size c.params.length (tysV c.params) (.slice AP c.params.length cP))
    (hI : RowL w1 w1.heap.size c.instrs.length (insV c.instrs) (.slice AI c.instrs.length cI)) (hT : GridV w1 w1.heap.size m.texts T) (hb : Below w1.heap.size w1 x) {n : Nat} (hn : n = m.codes.length + 1)
    (ho : x.ownsRow w1.heap.size 46 5 v n ([] ++ vs ++ [.string (strOfNums c.name), .slice AP c.params.length cP, .int .i64 c.result, .int .i64 c.slots, .slice AI c.instrs.length cI])) : ModV x x.heap.size ⟨m.codes ++ [c], m.texts⟩ (.agg #[v, T]) := by
  have hr := (RowT.own ho).lies
  obtain ⟨A, cc, rfl, h1, h2, h3⟩ := hr
  refine ⟨_, _, rfl, ⟨A, cc, vs ++ [.string (strOfNums c.name), .slice AP c.params.length cP, .int .i64 c.result, .int .i64 c.slots, .slice AI c.instrs.length cI], ?_, ?_, h2, ?_, ?_⟩, (hT.below hb).more hb.size⟩
  · rw [List.length_append, List.length_cons, List.length_nil, hn]
  · simp only [List.length_append, List.length_cons, List.length_nil]; omega
  · simpa using h3
  · have hF : ∀ n xs V, RowL w1 w1.heap.size n xs V → RowL x x.heap.size n xs V := fun n xs V h => (h.below hb).more hb.size
    exact (hS.mono hF hF).snoc (hF _ _ _ hP) (hF _ _ _ hI)

set_option maxHeartbeats 1600000 in
theorem oneMore (m : Md) (c : Cd) (V C T : Value) (R : Nat) (w : World) (hR : w.heap[R]? = some (.cells #[C, T] 25 (0, 0))) (hC : CodesV w w.heap.size m.codes C) (hT : GridV w w.heap.size m.texts T) (hn : m.codes.length ≤ 40) (hc : CodeV w w.heap.size c V) :
    Calls Tryd.prog 23 #[V, .pointer (some ⟨R, 0, none⟩)] w (Says (okMd ⟨m.codes ++ [c], m.texts⟩) w) := by
  obtain ⟨P, I, rfl, ⟨AP, cP, rfl, r1, r2, r3⟩, ⟨AI, cI, rfl, s1, s2, s3⟩⟩ := hc
  obtain ⟨AC, cC, vs, rfl, p1, p2, p3, p4⟩ := hC
  have HT := Lib.hid hT
  obtain ⟨AT, cT, rfl, q1, q2, q3⟩ := hT
  have HL := Lib.hid p3
  have HS := Lib.hid p4
  have HP := Lib.hid r3
  have HI := Lib.hid s3
  have L0 : Hid (Below w.heap.size w (w.alloc (.cells #[.string (strOfNums c.name), .slice AP c.params.length cP, .int .i64 c.result, .int .i64 c.slots, .slice AI c.instrs.length cI] 46)).drew) := (((Below.refl _ _).alloc (Nat.le_refl _) _).drew)
  have D0 : Hid (Below (w.alloc (.cells #[.string (strOfNums c.name), .slice AP c.params.length cP, .int .i64 c.result, .int .i64 c.slots, .slice AI c.instrs.length cI] 46)).heap.size (w.alloc (.cells #[.string (strOfNums c.name), .slice AP c.params.length cP, .int .i64 c.result, .int .i64 c.slots, .slice AI c.instrs.length cI] 46)) (w.alloc (.cells #[.string (strOfNums c.name), .slice AP c.params.length cP, .int .i64 c.result, .int .i64 c.slots, .slice AI c.instrs.length cI] 46)).drew) := ((Below.refl _ _).drew)
  have HX : Hid ((w.alloc (.cells #[.string (strOfNums c.name), .slice AP c.params.length cP, .int .i64 c.result, .int .i64 c.slots, .slice AI c.instrs.length cI] 46)).heap[w.heap.size]? = some (.cells #[.string (strOfNums c.name), .slice AP c.params.length cP, .int .i64 c.result, .int .i64 c.slots, .slice AI c.instrs.length cI] 46 (0, 0))) := Lib.hid (heap_alloc_new w _)
  have hlt := lt_of_some hR
  have HB : Hid ((w.alloc (.cells #[.string (strOfNums c.name), .slice AP c.params.length cP, .int .i64 c.result, .int .i64 c.slots, .slice AI c.instrs.length cI] 46)).heap[R]? = some (.cells #[.slice AC m.codes.length cC, .slice AT m.texts.length cT] 25 (0, 0))) := Lib.hid (by rw [Below.heap_alloc _ _ _ hlt]; exact hR)
  have SA : Hid (∀ x, Below (w.alloc (.cells #[.string (strOfNums c.name), .slice AP c.params.length cP, .int .i64 c.result, .int .i64 c.slots, .slice AI c.instrs.length cI] 46)).heap.size (w.alloc (.cells #[.string (strOfNums c.name), .slice AP c.params.length cP, .int .i64 c.result, .int .i64 c.slots, .slice AI c.instrs.length cI] 46)) x → x.cell? ⟨R, 0, none⟩ = some (.slice AC m.codes.length cC) ∧ x.cell? ⟨R, 1, none⟩ = some (.slice AT m.texts.length cT) ∧ x.cell? ⟨w.heap.size, 0, none⟩ = some (.string (strOfNums c.name)) ∧ x.cell? ⟨w.heap.size, 1, none⟩ = some (.slice AP c.params.length cP) ∧ x.cell? ⟨w.heap.size, 2, none⟩ = some (.int .i64 c.result) ∧ x.cell? ⟨w.heap.size, 3, none⟩ = some (.int .i64 c.slots) ∧ x.cell? ⟨w.heap.size, 4, none⟩ = some (.slice AI c.instrs.length cI)) := fun x hx => by
    have k1 : x.heap[R]? = some (.cells #[.slice AC m.codes.length cC, .slice AT m.texts.length cT] 25 (0, 0)) := by rw [hx.block _ (lt_of_some HB.out)]; exact HB.out
    have k2 : x.heap[w.heap.size]? = some (.cells #[.string (strOfNums c.name), .slice AP c.params.length cP, .int .i64 c.result, .int .i64 c.slots, .slice AI c.instrs.length cI] 46 (0, 0)) := by rw [hx.block _ (lt_of_some HX.out)]; exact HX.out
    refine ⟨?_, ?_, ?_, ?_, ?_, ?_, ?_⟩
    · rw [cell_of_row _ _ _ _ _ _ k1]; rfl
    · rw [cell_of_row _ _ _ _ _ _ k1]; rfl
    all_goals (rw [cell_of_row _ _ _ _ _ _ k2]; rfl)
  have BW : Hid (Below w.heap.size w (w.alloc (.cells #[.string (strOfNums c.name), .slice AP c.params.length cP, .int .i64 c.result, .int .i64 c.slots, .slice AI c.instrs.length cI] 46))) := Lib.hid ((Below.refl _ _).alloc (Nat.le_refl _) _)
  have HL1 := Lib.hid ((HL.out.below BW.out).more BW.out.size)
  have hF : ∀ n xs V, RowL w w.heap.size n xs V → RowL (w.alloc (.cells #[.string (strOfNums c.name), .slice AP c.params.length cP, .int .i64 c.result, .int .i64 c.slots, .slice AI c.instrs.length cI] 46)) (w.alloc (.cells #[.string (strOfNums c.name), .slice AP c.params.length cP, .int .i64 c.result, .int .i64 c.slots, .slice AI c.instrs.length cI] 46)).heap.size n xs V := fun n xs V h => (h.below BW.out).more BW.out.size
  have HS1 := Lib.hid (HS.out.mono hF hF)
  have HP1 : Hid (RowL (w.alloc (.cells #[.string (strOfNums c.name), .slice AP c.params.length cP, .int .i64 c.result, .int .i64 c.slots, .slice AI c.instrs.length cI] 46)) (w.alloc (.cells #[.string (strOfNums c.name), .slice AP c.params.length cP, .int .i64 c.result, .int .i64 c.slots, .slice AI c.instrs.length cI] 46)).heap.size c.params.length (tysV c.params) (.slice AP c.params.length cP)) := Lib.hid (hF _ _ _ ⟨_, _, rfl, r1, r2, HP.out⟩)
  have HI1 : Hid (RowL (w.alloc (.cells #[.string (strOfNums c.name), .slice AP c.params.length cP, .int .i64 c.result, .int .i64 c.slots, .slice AI c.instrs.length cI] 46)) (w.alloc (.cells #[.string (strOfNums c.name), .slice AP c.params.length cP, .int .i64 c.result, .int .i64 c.slots, .slice AI c.instrs.length cI] 46)).heap.size c.instrs.length (insV c.instrs) (.slice AI c.instrs.length cI)) := Lib.hid (hF _ _ _ ⟨_, _, rfl, s1, s2, HI.out⟩)
  have HT1 := Lib.hid ((HT.out.below BW.out).more BW.out.size)
  have HLN : Hid (vs.length = m.codes.length * 5) := Lib.hid HS.out.len
  have HON := Lib.hid (cos_ones HS.out)
  clear p3 p4 q3 r3 s3 hR hF L0 HL HS HP HI HT
  unfold maxLen at p2 q2 r2 s2
  obtain ⟨i0, hi, hz0, hz1, hz2⟩ := info_parts info46c
  show Calls Tryd.prog 23 #[.agg #[.string (strOfNums c.name), .slice AP c.params.length cP, .int .i64 c.result, .int .i64 c.slots, .slice AI c.instrs.length cI], .pointer (some ⟨R, 0, none⟩)] w _
  go_enter Tryd.func23, Tryd.ntmps23
  go_upto_region 1 with fail
  have hsz : (w.alloc (.cells #[.string (strOfNums c.name), .slice AP c.params.length cP, .int .i64 c.result, .int .i64 c.slots, .slice AI c.instrs.length cI] 46)).heap.size = w.heap.size + 1 := World.size_alloc _ _
  generalize hw1 : (w.alloc (.cells #[.string (strOfNums c.name), .slice AP c.params.length cP, .int .i64 c.result, .int .i64 c.slots, .slice AI c.instrs.length cI] 46)) = w1 at *
  clear hw1
  refine wp_region_noPanic ?_
  refine wp_region_held_drew (S := fun x => x.cell? ⟨R, 0, none⟩ = some (.slice AC m.codes.length cC) ∧ x.cell? ⟨R, 1, none⟩ = some (.slice AT m.texts.length cT) ∧ x.cell? ⟨w.heap.size, 0, none⟩ = some (.string (strOfNums c.name)) ∧ x.cell? ⟨w.heap.size, 1, none⟩ = some (.slice AP c.params.length cP) ∧ x.cell? ⟨w.heap.size, 2, none⟩ = some (.int .i64 c.result) ∧ x.cell? ⟨w.heap.size, 3, none⟩ = some (.int .i64 c.slots) ∧ x.cell? ⟨w.heap.size, 4, none⟩ = some (.slice AI c.instrs.length cI)) (by kernel_rfl) (SA.out _ D0.out) (fun hHeld => ?_)
  have L0 := Lib.hid D0.out
  clear D0
  generalize w1.drew = x0 at *
  refine wpAnyH_take (i := 1) (v := ?v1_7) rfl (by kernel_rfl) (by kernel_rfl) (by kernel_rfl) (fun _ _ _ h => h) (Or.inl ⟨by kernel_rfl, ?y1_7⟩) (by assumption) ?r1_7
  case y1_7 => (intro w hSw; (try dsimp only at hSw); go_simp; (try with_reducible rfl))
  try simp only [Act.put, List.getElem_toArray, List.getElem_cons_zero, List.getElem_cons_succ, List.setIfInBounds_toArray, List.set_cons_zero, List.set_cons_succ]
  refine wpAnyH_take (i := 2) (v := ?v2_8) rfl (by kernel_rfl) (by kernel_rfl) (by kernel_rfl) (fun _ _ _ h => h) (Or.inl ⟨by kernel_rfl, ?y2_8⟩) (by assumption) ?r2_8
  case y2_8 => (intro w hSw; (try dsimp only at hSw); go_simp; (try with_reducible rfl))
  try simp only [Act.put, List.getElem_toArray, List.getElem_cons_zero, List.getElem_cons_succ, List.setIfInBounds_toArray, List.set_cons_zero, List.set_cons_succ]
  refine wpAnyH_take (i := 4) (v := ?v4_9) rfl (by kernel_rfl) (by kernel_rfl) (by kernel_rfl) (fun _ _ _ h => h) (Or.inl ⟨by kernel_rfl, ?y4_9⟩) (by assumption) ?r4_9
  case y4_9 => (intro w hSw; (try dsimp only at hSw); go_simp; (try with_reducible rfl))
  try simp only [Act.put, List.getElem_toArray, List.getElem_cons_zero, List.getElem_cons_succ, List.setIfInBounds_toArray, List.set_cons_zero, List.set_cons_succ]
  refine wpAnyH_take (i := 7) (v := ?v7_10) rfl (by kernel_rfl) (by kernel_rfl) (by kernel_rfl) (fun _ _ _ h => h) (Or.inl ⟨by kernel_rfl, ?y7_10⟩) (by assumption) ?r7_10
  case y7_10 => (intro w hSw; (try dsimp only at hSw); go_simp; (try with_reducible rfl))
  try simp only [Act.put, List.getElem_toArray, List.getElem_cons_zero, List.getElem_cons_succ, List.setIfInBounds_toArray, List.set_cons_zero, List.set_cons_succ]
  refine wpAnyH_take (i := 8) (v := ?v8_11) rfl (by kernel_rfl) (by kernel_rfl) (by kernel_rfl) (fun _ _ _ h => h) (Or.inl ⟨by kernel_rfl, ?y8_11⟩) (by assumption) ?r8_11
  case y8_11 => (intro w hSw; (try dsimp only at hSw); go_simp; (try with_reducible rfl))
  try simp only [Act.put, List.getElem_toArray, List.getElem_cons_zero, List.getElem_cons_succ, List.setIfInBounds_toArray, List.set_cons_zero, List.set_cons_succ]
  refine wpAnyH_ready (rs := [0, 5]) (by kernel_rfl) (by simp) ?_
  refine AllReadyH.cons rfl (fun K hK => ?_) (AllReadyH.cons rfl (fun K hK => ?_) AllReadyH.nil)
  · go_simp
    have hb := (Below.refl x0.heap.size x0).alloc (Nat.le_refl _) (.cells #[] 46)
    have h5 : (x0.alloc (.cells #[] 46)).heap[x0.heap.size]? = some (.cells #[] 46 (0, 0)) := heap_alloc_new x0 _
    have hg4 : w1.heap.size ≤ x0.heap.size := L0.out.size
    have hs4 : (x0.alloc (.cells #[] 46)).heap.size = x0.heap.size + 1 := World.size_alloc _ _
    generalize hy : x0.alloc (.cells #[] 46) = x1 at *
    generalize hgg : x0.heap.size = g4 at *
    have HS4 := Lib.hid hs4
    clear hs4
    have L1 := Lib.hid (L0.out.trans (hb.mono (by omega)))
    have E1 := Lib.hid (own_lit0 46 5 h5 hg4)
    clear h5 hb hy
    refine hK.out _ _ (SA.out _ L1.out) (fun hHeld => ?_)
    clear hK K
    try simp only [Act.put, List.getElem_toArray, List.getElem_cons_zero, List.getElem_cons_succ, List.setIfInBounds_toArray, List.set_cons_zero, List.set_cons_succ]
    refine wpAnyH_ready (rs := [3, 5]) (by kernel_rfl) (by simp) ?_
    refine AllReadyH.cons rfl (fun K hK => ?_) (AllReadyH.cons rfl (fun K hK => ?_) AllReadyH.nil)
    · refine step_append_gro x1 rfl (.tmp 4) (.tmp 6) 22 rfl w1.heap.size 46 i0 _ 5 80 Tryd.underlying22 hi hz0 hz1 hz2 rfl (by omega) _ 0 [] rfl E1.out w1.heap.size AC m.codes.length cC vs rfl HLN.out (HL1.out.below L1.out) HON.out (by unfold maxLen; omega) (by omega) L1.out.size ?_
      intro v2 x2 ho hg
      have L2 := Lib.hid (L1.out.trans (hg.below E1.out L1.out.size))
      have O2 := Lib.hid ho
      clear ho hg
      refine hK.out _ _ (SA.out _ L2.out) (fun hHeld => ?_)
      clear hK K
      try simp only [Act.put, List.getElem_toArray, List.getElem_cons_zero, List.getElem_cons_succ, List.setIfInBounds_toArray, List.set_cons_zero, List.set_cons_succ]
      refine wpAnyH_ready (rs := [5]) (by kernel_rfl) (by simp) ?_
      refine AllReadyH.cons rfl (fun K hK => ?_) AllReadyH.nil
      go_simp
      have hb := (Below.refl x2.heap.size x2).alloc (Nat.le_refl _) (.cells #[.string (strOfNums c.name), .slice AP c.params.length cP, .int .i64 c.result, .int .i64 c.slots, .slice AI c.instrs.length cI] 46)
      have h5 : (x2.alloc (.cells #[.string (strOfNums c.name), .slice AP c.params.length cP, .int .i64 c.result, .int .i64 c.slots, .slice AI c.instrs.length cI] 46)).heap[x2.heap.size]? = some (.cells #[.string (strOfNums c.name), .slice AP c.params.length cP, .int .i64 c.result, .int .i64 c.slots, .slice AI c.instrs.length cI] 46 (0, 0)) := heap_alloc_new x2 _
      have hg9 : w1.heap.size ≤ x2.heap.size := L2.out.size
      have hs9 : (x2.alloc (.cells #[.string (strOfNums c.name), .slice AP c.params.length cP, .int .i64 c.result, .int .i64 c.slots, .slice AI c.instrs.length cI] 46)).heap.size = x2.heap.size + 1 := World.size_alloc _ _
      generalize hy : x2.alloc (.cells #[.string (strOfNums c.name), .slice AP c.params.length cP, .int .i64 c.result, .int .i64 c.slots, .slice AI c.instrs.length cI] 46) = x3 at *
      generalize hgg : x2.heap.size = g9 at *
      have HS9 := Lib.hid hs9
      clear hs9
      have L3 := Lib.hid (L2.out.trans (hb.mono (by omega)))
      have N3 : Hid (Pk w1 w1.heap.size g9 46 #[.string (strOfNums c.name), .slice AP c.params.length cP, .int .i64 c.result, .int .i64 c.slots, .slice AI c.instrs.length cI] v2 x3) := Lib.hid ⟨h5, (own_not O2.out (by omega)), L3.out, L3.out.size⟩
      have O3 := Lib.hid (own_below O2.out hb (by omega))
      clear h5 hb hy
      refine hK.out _ _ (SA.out _ L3.out) (fun hHeld => ?_)
      clear hK K
      try simp only [Act.put, List.getElem_toArray, List.getElem_cons_zero, List.getElem_cons_succ, List.setIfInBounds_toArray, List.set_cons_zero, List.set_cons_succ]
      refine wpAnyH_ready (rs := [6]) (by kernel_rfl) (by simp) ?_
      refine AllReadyH.cons rfl (fun K hK => ?_) AllReadyH.nil
      refine step_append_gro x3 rfl (.tmp 7) (.tmp 9) 22 rfl w1.heap.size 46 i0 _ 5 80 Tryd.underlying22 hi hz0 hz1 hz2 rfl (by omega) _ (0 + m.codes.length) ([] ++ vs) rfl O3.out x3.heap.size (some ⟨g9, 0, none⟩) 1 1 [.string (strOfNums c.name), .slice AP c.params.length cP, .int .i64 c.result, .int .i64 c.slots, .slice AI c.instrs.length cI] rfl rfl (row_lies N3.out.box) (ones5 _ _ _ _ _ _ _ _ _) (by unfold maxLen; omega) (by omega) L3.out.size ?_
      intro vz xz ho hg
      obtain ⟨Nz, hNz⟩ : ∃ n : Nat, n = 0 + m.codes.length + 1 := ⟨_, rfl⟩
      rw [← hNz] at ho
      obtain ⟨Az, cz, rfl⟩ := (RowT.own ho).is
      have Lz := Lib.hid (L3.out.trans (hg.below O3.out L3.out.size))
      have MV := Lib.hid (more_mod HS1.out HP1.out HI1.out HT1.out Lz.out (by omega) ho)
      clear ho hg hNz
      refine hK.out _ _ (SA.out _ Lz.out) (fun hHeld => ?_)
      clear hK K
      try simp only [Act.put, List.getElem_toArray, List.getElem_cons_zero, List.getElem_cons_succ, List.setIfInBounds_toArray, List.set_cons_zero, List.set_cons_succ]
      refine wpAnyH_take (i := 9) (v := ?v9_1) rfl (by kernel_rfl) (by kernel_rfl) (by kernel_rfl) (fun _ _ _ h => h) (Or.inl ⟨by kernel_rfl, ?y9_1⟩) (by assumption) ?r9_1
      case y9_1 => (intro w hSw; (try dsimp only at hSw); go_simp; (try with_reducible rfl))
      try simp only [Act.put, List.getElem_toArray, List.getElem_cons_zero, List.getElem_cons_succ, List.setIfInBounds_toArray, List.set_cons_zero, List.set_cons_succ]
      refine wpAnyH_ready (rs := [10]) (by kernel_rfl) (by simp) ?_
      refine AllReadyH.cons rfl (fun K hK => ?_) AllReadyH.nil
      go_simp
      refine (right _ _ _ (MV.out)).mono ?_
      rintro e xr ⟨rfl, hb⟩
      have Lr := Lib.hid (Lz.out.trans (hb.mono Lz.out.size))
      clear hb
      refine hK.out _ _ (SA.out _ Lr.out) (fun hHeld => ?_)
      clear hK K
      try simp only [Act.put, List.getElem_toArray, List.getElem_cons_zero, List.getElem_cons_succ, List.setIfInBounds_toArray, List.set_cons_zero, List.set_cons_succ]
      refine wpAnyH_take (i := 11) (v := ?v11_2) rfl (by kernel_rfl) (by kernel_rfl) (by kernel_rfl) (fun _ _ _ h => h) (Or.inl ⟨by kernel_rfl, ?y11_2⟩) (by assumption) ?r11_2
      case y11_2 => (intro w hSw; (try dsimp only at hSw); go_simp; (try with_reducible rfl))
      try simp only [Act.put, List.getElem_toArray, List.getElem_cons_zero, List.getElem_cons_succ, List.setIfInBounds_toArray, List.set_cons_zero, List.set_cons_succ]
      refine wpAnyH_done (by kernel_rfl) ?_ _
      refine NoPanic.normal ?_
      have LL := Lib.hid (BW.out.trans (Lr.out.mono (by omega)))
      go_wp2
      go_ret
      exact ⟨rfl, LL.out⟩
    · go_simp
      have hb := (Below.refl x1.heap.size x1).alloc (Nat.le_refl _) (.cells #[.string (strOfNums c.name), .slice AP c.params.length cP, .int .i64 c.result, .int .i64 c.slots, .slice AI c.instrs.length cI] 46)
      have h5 : (x1.alloc (.cells #[.string (strOfNums c.name), .slice AP c.params.length cP, .int .i64 c.result, .int .i64 c.slots, .slice AI c.instrs.length cI] 46)).heap[x1.heap.size]? = some (.cells #[.string (strOfNums c.name), .slice AP c.params.length cP, .int .i64 c.result, .int .i64 c.slots, .slice AI c.instrs.length cI] 46 (0, 0)) := heap_alloc_new x1 _
      have hg9 : w1.heap.size ≤ x1.heap.size := L1.out.size
      have hs9 : (x1.alloc (.cells #[.string (strOfNums c.name), .slice AP c.params.length cP, .int .i64 c.result, .int .i64 c.slots, .slice AI c.instrs.length cI] 46)).heap.size = x1.heap.size + 1 := World.size_alloc _ _
      generalize hy : x1.alloc (.cells #[.string (strOfNums c.name), .slice AP c.params.length cP, .int .i64 c.result, .int .i64 c.slots, .slice AI c.instrs.length cI] 46) = x2 at *
      generalize hgg : x1.heap.size = g9 at *
      have HS9 := Lib.hid hs9
      clear hs9
      have L2 := Lib.hid (L1.out.trans (hb.mono (by omega)))
      have N2 : Hid (Pk w1 w1.heap.size g9 46 #[.string (strOfNums c.name), .slice AP c.params.length cP, .int .i64 c.result, .int .i64 c.slots, .slice AI c.instrs.length cI] (.slice (some ⟨g4, 0, none⟩) 0 0) x2) := Lib.hid ⟨h5, (fun e => by have e2 : g4 = g9 := Option.some.inj e; have := HS4.out; omega), L2.out, L2.out.size⟩
      have E2 := Lib.hid (own_below E1.out hb (by omega))
      clear h5 hb hy
      refine hK.out _ _ (SA.out _ L2.out) (fun hHeld => ?_)
      clear hK K
      try simp only [Act.put, List.getElem_toArray, List.getElem_cons_zero, List.getElem_cons_succ, List.setIfInBounds_toArray, List.set_cons_zero, List.set_cons_succ]
      refine wpAnyH_ready (rs := [3]) (by kernel_rfl) (by simp) ?_
      refine AllReadyH.cons rfl (fun K hK => ?_) AllReadyH.nil
      refine step_append_gro x2 rfl (.tmp 4) (.tmp 6) 22 rfl w1.heap.size 46 i0 _ 5 80 Tryd.underlying22 hi hz0 hz1 hz2 rfl (by omega) _ 0 [] rfl E2.out w1.heap.size AC m.codes.length cC vs rfl HLN.out (HL1.out.below L2.out) HON.out (by unfold maxLen; omega) (by omega) L2.out.size ?_
      intro v3 x3 ho hg
      have L3 := Lib.hid (L2.out.trans (hg.below E2.out L2.out.size))
      have O3 := Lib.hid ho
      have N3 := Lib.hid (N2.out.gro E2.out hg)
      clear ho hg
      refine hK.out _ _ (SA.out _ L3.out) (fun hHeld => ?_)
      clear hK K
      try simp only [Act.put, List.getElem_toArray, List.getElem_cons_zero, List.getElem_cons_succ, List.setIfInBounds_toArray, List.set_cons_zero, List.set_cons_succ]
      refine wpAnyH_ready (rs := [6]) (by kernel_rfl) (by simp) ?_
      refine AllReadyH.cons rfl (fun K hK => ?_) AllReadyH.nil
      refine step_append_gro x3 rfl (.tmp 7) (.tmp 9) 22 rfl w1.heap.size 46 i0 _ 5 80 Tryd.underlying22 hi hz0 hz1 hz2 rfl (by omega) _ (0 + m.codes.length) ([] ++ vs) rfl O3.out x3.heap.size (some ⟨g9, 0, none⟩) 1 1 [.string (strOfNums c.name), .slice AP c.params.length cP, .int .i64 c.result, .int .i64 c.slots, .slice AI c.instrs.length cI] rfl rfl (row_lies N3.out.box) (ones5 _ _ _ _ _ _ _ _ _) (by unfold maxLen; omega) (by omega) L3.out.size ?_
      intro vz xz ho hg
      obtain ⟨Nz, hNz⟩ : ∃ n : Nat, n = 0 + m.codes.length + 1 := ⟨_, rfl⟩
      rw [← hNz] at ho
      obtain ⟨Az, cz, rfl⟩ := (RowT.own ho).is
      have Lz := Lib.hid (L3.out.trans (hg.below O3.out L3.out.size))
      have MV := Lib.hid (more_mod HS1.out HP1.out HI1.out HT1.out Lz.out (by omega) ho)
      clear ho hg hNz
      refine hK.out _ _ (SA.out _ Lz.out) (fun hHeld => ?_)
      clear hK K
      try simp only [Act.put, List.getElem_toArray, List.getElem_cons_zero, List.getElem_cons_succ, List.setIfInBounds_toArray, List.set_cons_zero, List.set_cons_succ]
      refine wpAnyH_take (i := 9) (v := ?v9_3) rfl (by kernel_rfl) (by kernel_rfl) (by kernel_rfl) (fun _ _ _ h => h) (Or.inl ⟨by kernel_rfl, ?y9_3⟩) (by assumption) ?r9_3
      case y9_3 => (intro w hSw; (try dsimp only at hSw); go_simp; (try with_reducible rfl))
      try simp only [Act.put, List.getElem_toArray, List.getElem_cons_zero, List.getElem_cons_succ, List.setIfInBounds_toArray, List.set_cons_zero, List.set_cons_succ]
      refine wpAnyH_ready (rs := [10]) (by kernel_rfl) (by simp) ?_
      refine AllReadyH.cons rfl (fun K hK => ?_) AllReadyH.nil
      go_simp
      refine (right _ _ _ (MV.out)).mono ?_
      rintro e xr ⟨rfl, hb⟩
      have Lr := Lib.hid (Lz.out.trans (hb.mono Lz.out.size))
      clear hb
      refine hK.out _ _ (SA.out _ Lr.out) (fun hHeld => ?_)
      clear hK K
      try simp only [Act.put, List.getElem_toArray, List.getElem_cons_zero, List.getElem_cons_succ, List.setIfInBounds_toArray, List.set_cons_zero, List.set_cons_succ]
      refine wpAnyH_take (i := 11) (v := ?v11_4) rfl (by kernel_rfl) (by kernel_rfl) (by kernel_rfl) (fun _ _ _ h => h) (Or.inl ⟨by kernel_rfl, ?y11_4⟩) (by assumption) ?r11_4
      case y11_4 => (intro w hSw; (try dsimp only at hSw); go_simp; (try with_reducible rfl))
      try simp only [Act.put, List.getElem_toArray, List.getElem_cons_zero, List.getElem_cons_succ, List.setIfInBounds_toArray, List.set_cons_zero, List.set_cons_succ]
      refine wpAnyH_done (by kernel_rfl) ?_ _
      refine NoPanic.normal ?_
      have LL := Lib.hid (BW.out.trans (Lr.out.mono (by omega)))
      go_wp2
      go_ret
      exact ⟨rfl, LL.out⟩
  · go_simp
    have hb := (Below.refl x0.heap.size x0).alloc (Nat.le_refl _) (.cells #[.string (strOfNums c.name), .slice AP c.params.length cP, .int .i64 c.result, .int .i64 c.slots, .slice AI c.instrs.length cI] 46)
    have h5 : (x0.alloc (.cells #[.string (strOfNums c.name), .slice AP c.params.length cP, .int .i64 c.result, .int .i64 c.slots, .slice AI c.instrs.length cI] 46)).heap[x0.heap.size]? = some (.cells #[.string (strOfNums c.name), .slice AP c.params.length cP, .int .i64 c.result, .int .i64 c.slots, .slice AI c.instrs.length cI] 46 (0, 0)) := heap_alloc_new x0 _
    have hg9 : w1.heap.size ≤ x0.heap.size := L0.out.size
    have hs9 : (x0.alloc (.cells #[.string (strOfNums c.name), .slice AP c.params.length cP, .int .i64 c.result, .int .i64 c.slots, .slice AI c.instrs.length cI] 46)).heap.size = x0.heap.size + 1 := World.size_alloc _ _
    generalize hy : x0.alloc (.cells #[.string (strOfNums c.name), .slice AP c.params.length cP, .int .i64 c.result, .int .i64 c.slots, .slice AI c.instrs.length cI] 46) = x1 at *
    generalize hgg : x0.heap.size = g9 at *
    have HS9 := Lib.hid hs9
    clear hs9
    have L1 := Lib.hid (L0.out.trans (hb.mono (by omega)))
    have H9 := Lib.hid h5
    clear h5 hb hy
    refine hK.out _ _ (SA.out _ L1.out) (fun hHeld => ?_)
    clear hK K
    try simp only [Act.put, List.getElem_toArray, List.getElem_cons_zero, List.getElem_cons_succ, List.setIfInBounds_toArray, List.set_cons_zero, List.set_cons_succ]
    refine wpAnyH_ready (rs := [0]) (by kernel_rfl) (by simp) ?_
    refine AllReadyH.cons rfl (fun K hK => ?_) AllReadyH.nil
    go_simp
    have hb := (Below.refl x1.heap.size x1).alloc (Nat.le_refl _) (.cells #[] 46)
    have h5 : (x1.alloc (.cells #[] 46)).heap[x1.heap.size]? = some (.cells #[] 46 (0, 0)) := heap_alloc_new x1 _
    have hg4 : w1.heap.size ≤ x1.heap.size := L1.out.size
    have hs4 : (x1.alloc (.cells #[] 46)).heap.size = x1.heap.size + 1 := World.size_alloc _ _
    generalize hy : x1.alloc (.cells #[] 46) = x2 at *
    generalize hgg : x1.heap.size = g4 at *
    have HS4 := Lib.hid hs4
    clear hs4
    have L2 := Lib.hid (L1.out.trans (hb.mono (by omega)))
    have E2 := Lib.hid (own_lit0 46 5 h5 hg4)
    have h5 := (hb.block _ (by have := HS9.out; omega)).trans H9.out
    have N2 : Hid (Pk w1 w1.heap.size g9 46 #[.string (strOfNums c.name), .slice AP c.params.length cP, .int .i64 c.result, .int .i64 c.slots, .slice AI c.instrs.length cI] (.slice (some ⟨g4, 0, none⟩) 0 0) x2) := Lib.hid ⟨h5, (fun e => by have e2 : g4 = g9 := Option.some.inj e; have := HS9.out; omega), L2.out, L2.out.size⟩
    clear h5 hb hy
    refine hK.out _ _ (SA.out _ L2.out) (fun hHeld => ?_)
    clear hK K
    try simp only [Act.put, List.getElem_toArray, List.getElem_cons_zero, List.getElem_cons_succ, List.setIfInBounds_toArray, List.set_cons_zero, List.set_cons_succ]
    refine wpAnyH_ready (rs := [3]) (by kernel_rfl) (by simp) ?_
    refine AllReadyH.cons rfl (fun K hK => ?_) AllReadyH.nil
    refine step_append_gro x2 rfl (.tmp 4) (.tmp 6) 22 rfl w1.heap.size 46 i0 _ 5 80 Tryd.underlying22 hi hz0 hz1 hz2 rfl (by omega) _ 0 [] rfl E2.out w1.heap.size AC m.codes.length cC vs rfl HLN.out (HL1.out.below L2.out) HON.out (by unfold maxLen; omega) (by omega) L2.out.size ?_
    intro v3 x3 ho hg
    have L3 := Lib.hid (L2.out.trans (hg.below E2.out L2.out.size))
    have O3 := Lib.hid ho
    have N3 := Lib.hid (N2.out.gro E2.out hg)
    clear ho hg
    refine hK.out _ _ (SA.out _ L3.out) (fun hHeld => ?_)
    clear hK K
    try simp only [Act.put, List.getElem_toArray, List.getElem_cons_zero, List.getElem_cons_succ, List.setIfInBounds_toArray, List.set_cons_zero, List.set_cons_succ]
    refine wpAnyH_ready (rs := [6]) (by kernel_rfl) (by simp) ?_
    refine AllReadyH.cons rfl (fun K hK => ?_) AllReadyH.nil
    refine step_append_gro x3 rfl (.tmp 7) (.tmp 9) 22 rfl w1.heap.size 46 i0 _ 5 80 Tryd.underlying22 hi hz0 hz1 hz2 rfl (by omega) _ (0 + m.codes.length) ([] ++ vs) rfl O3.out x3.heap.size (some ⟨g9, 0, none⟩) 1 1 [.string (strOfNums c.name), .slice AP c.params.length cP, .int .i64 c.result, .int .i64 c.slots, .slice AI c.instrs.length cI] rfl rfl (row_lies N3.out.box) (ones5 _ _ _ _ _ _ _ _ _) (by unfold maxLen; omega) (by omega) L3.out.size ?_
    intro vz xz ho hg
    obtain ⟨Nz, hNz⟩ : ∃ n : Nat, n = 0 + m.codes.length + 1 := ⟨_, rfl⟩
    rw [← hNz] at ho
    obtain ⟨Az, cz, rfl⟩ := (RowT.own ho).is
    have Lz := Lib.hid (L3.out.trans (hg.below O3.out L3.out.size))
    have MV := Lib.hid (more_mod HS1.out HP1.out HI1.out HT1.out Lz.out (by omega) ho)
    clear ho hg hNz
    refine hK.out _ _ (SA.out _ Lz.out) (fun hHeld => ?_)
    clear hK K
    try simp only [Act.put, List.getElem_toArray, List.getElem_cons_zero, List.getElem_cons_succ, List.setIfInBounds_toArray, List.set_cons_zero, List.set_cons_succ]
    refine wpAnyH_take (i := 9) (v := ?v9_5) rfl (by kernel_rfl) (by kernel_rfl) (by kernel_rfl) (fun _ _ _ h => h) (Or.inl ⟨by kernel_rfl, ?y9_5⟩) (by assumption) ?r9_5
    case y9_5 => (intro w hSw; (try dsimp only at hSw); go_simp; (try with_reducible rfl))
    try simp only [Act.put, List.getElem_toArray, List.getElem_cons_zero, List.getElem_cons_succ, List.setIfInBounds_toArray, List.set_cons_zero, List.set_cons_succ]
    refine wpAnyH_ready (rs := [10]) (by kernel_rfl) (by simp) ?_
    refine AllReadyH.cons rfl (fun K hK => ?_) AllReadyH.nil
    go_simp
    refine (right _ _ _ (MV.out)).mono ?_
    rintro e xr ⟨rfl, hb⟩
    have Lr := Lib.hid (Lz.out.trans (hb.mono Lz.out.size))
    clear hb
    refine hK.out _ _ (SA.out _ Lr.out) (fun hHeld => ?_)
    clear hK K
    try simp only [Act.put, List.getElem_toArray, List.getElem_cons_zero, List.getElem_cons_succ, List.setIfInBounds_toArray, List.set_cons_zero, List.set_cons_succ]
    refine wpAnyH_take (i := 11) (v := ?v11_6) rfl (by kernel_rfl) (by kernel_rfl) (by kernel_rfl) (fun _ _ _ h => h) (Or.inl ⟨by kernel_rfl, ?y11_6⟩) (by assumption) ?r11_6
    case y11_6 => (intro w hSw; (try dsimp only at hSw); go_simp; (try with_reducible rfl))
    try simp only [Act.put, List.getElem_toArray, List.getElem_cons_zero, List.getElem_cons_succ, List.setIfInBounds_toArray, List.set_cons_zero, List.set_cons_succ]
    refine wpAnyH_done (by kernel_rfl) ?_ _
    refine NoPanic.normal ?_
    have LL := Lib.hid (BW.out.trans (Lr.out.mono (by omega)))
    go_wp2
    go_ret
    exact ⟨rfl, LL.out⟩

end Go.Proofs.YtecjkmemihmkcaaDoor
