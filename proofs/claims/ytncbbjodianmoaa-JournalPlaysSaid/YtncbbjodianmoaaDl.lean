/- The document's journal: back to a mark; made anew. Conditions: what is read lies in memory. -/
import Derived.Test.YtncbbjodianmoaaDk
namespace Go.Proofs.Ytncbbjodianmoaa
open Go.RowKit
set_option linter.unusedSimpArgs false
set_option linter.unusedVariables false

theorem rws_empty (n0 : Nat) (w : World) (hn : n0 ≤ w.heap.size) : Rws n0 (w.alloc (.cells #[] 22)) 22 (.slice (some ⟨w.heap.size, 0, none⟩) 0 0) 0 [] := by
  refine ⟨(World.ownsRow_made (e := 22) (size := 1) w #[] 0 hn (Nat.zero_le _) rfl), fun g hg cs T z h => ?_⟩
  obtain rfl : w.heap.size = g := by injection hg
  rw [heap_alloc_new w _] at h
  injection h with h
  injection h with h _ _
  subst h
  intro x hx
  simp at hx

set_option maxHeartbeats 1600000 in
theorem refUndoC (n0 : Nat) (w : World) (J : Nat) (hs : List (List PR)) (cur : List PR) (h : Dr n0 w J hs cur) (m : Nat) (hm : m ≤ hs.length) (res : List PR) (hres : (hs ++ [cur])[m]? = some res) :
    Calls Try.prog 17 #[.pointer (some ⟨J, 0, none⟩), .int .i64 m] w fun e w' => e = .returned (.int .i64 0) ∧ Dhd n0 J w (hs.take m) res w' := by
  have HJ := Lib.hid h
  have KM := Lib.hid (refMarkC n0 w J hs cur h)
  obtain ⟨i0, hi, hz0, hz1, hz2⟩ := info_parts info22p
  obtain ⟨L, cl, vs, y1, y2, y3⟩ := h.ex
  obtain ⟨x1, x2⟩ := cells1 y1
  obtain ⟨_, _, e, q1, q2, q3⟩ := own_lies y2.1
  injection e with e _ e'
  subst e e'
  have hlen := h.len
  have hlv : vs.length = hs.length + 1 := by have := y2.1.1; omega
  obtain ⟨g, rfl⟩ : ∃ g, L = some ⟨g, 0, none⟩ := by
    rcases y2.1.2 with ⟨e, _⟩ | ⟨g, cap, cr', e, _⟩
    · injection e with _ e _
      omega
    · injection e with e _ _
      exact ⟨g, e⟩
  unfold maxLen at q2
  have f0 : ¬ ((m : Int) < 0) := by omega
  have f1 : ¬ ((hs.length : Int) < (m : Int)) := by omega
  have f2 : IntKind.i64.wrap ((m : Int) + 1) = (m : Int) + 1 := IntWalk.i64_in _ (by omega)
  have f3 : ((m : Int) + 1).toNat = m + 1 := by omega
  have f4 : (0 : Int) ≤ (m : Int) + 1 := by omega
  have f5 : (m : Int) + 1 ≤ (cl : Int) := by omega
  have f6 : m + 1 ≤ cl := by omega
  have hba := below_alloc w (.cells #[] 22)
  have hn0 : n0 ≤ w.heap.size := by have := h.hJ; have := h.sp.lt; omega
  have HE := Lib.hid (rws_empty n0 w hn0)
  have HN : Hid (∀ j u, (vs.take (m + 1))[j]? = some u → (w.alloc (.cells #[] 22)).cell? ((⟨g, 0, none⟩ : Addr).add j) = some u) := fun j u hu => by
    rw [List.getElem?_take] at hu
    split at hu
    · rw [hba.cell (by rw [addr_block]; exact (y2.1.lt g rfl).2)]
      exact y2.1.cells (g := g) rfl j u hu
    · cases hu
  have HONE : Hid (∀ u ∈ vs.take (m + 1), u.oneCell' = true) := fun u hu => by
    obtain ⟨i, hi'⟩ := List.getElem?_of_mem (List.mem_of_mem_take hu)
    obtain ⟨s, hs'⟩ : ∃ s, (hs ++ [cur])[i]? = some s := ⟨_, List.getElem?_eq_getElem (by have := (List.getElem?_eq_some_iff.1 hi').1; simp; omega)⟩
    obtain ⟨A, c, k1, _⟩ := y3 i s hs'
    rw [hi'] at k1
    injection k1 with k1
    rw [k1]
    rfl
  have HNI : Hid (∀ x ∈ vs.take (m + 1), ∀ q y, x ≠ .int q y) := fun u hu q y e => by
    obtain ⟨i, hi'⟩ := List.getElem?_of_mem (List.mem_of_mem_take hu)
    obtain ⟨s, hs'⟩ : ∃ s, (hs ++ [cur])[i]? = some s := ⟨_, List.getElem?_eq_getElem (by have := (List.getElem?_eq_some_iff.1 hi').1; simp; omega)⟩
    obtain ⟨A, c, k1, _⟩ := y3 i s hs'
    rw [hi'] at k1
    injection k1 with k1
    rw [k1] at e
    cases e
  have HY : Hid (w.heap[J]? = some (.cells #[.slice (some ⟨g, 0, none⟩) (hs.length + 1) cl] 57 (0, 0)) ∧ Rws n0 w 22 (.slice (some ⟨g, 0, none⟩) (hs.length + 1) cl) (hs.length + 1) vs ∧ (∀ (i : Nat) (s : List PR), (hs ++ [cur])[i]? = some s → ∃ A c, vs[i]? = some (.slice A s.length c) ∧ s.length ≤ c ∧ c ≤ maxLen ∧ PrsX n0 w A c s) ∧ Below w.heap.size w (w.alloc (.cells #[] 22)) ∧ J < w.heap.size ∧ (hs ++ [cur])[m]? = some res) := ⟨y1, y2, y3, hba, h.sp.lt, hres⟩
  have HL1 : Hid ((vs.take (m + 1)).length = m + 1) := by show _ = _; rw [List.length_take]; omega
  have hJl := h.sp.lt
  have hx1 : (w.alloc (.cells #[] 22)).cell? ⟨J, 0, none⟩ = some (.slice (some ⟨g, 0, none⟩) (hs.length + 1) cl) := by rw [hba.cell (p := ⟨J, 0, none⟩) hJl]; exact x1
  clear h y1 y2 y3 hba hres q3
  go_enter Try.func17, Try.ntmps17
  go_wp2_with fail
  (with_reducible refine KM.out.mono ?_)
  rintro e w1 ⟨rfl, rfl⟩
  go_wp2_with (at_builtin; refine Rws.wpList (n0 := n0) rfl (.tmp 14) (.tmp 21) 55 rfl 22 i0 _ 24 Try.underlying55 hi hz0 hz1 hz2 rfl (NoI.list (l := [.slice none 0 0]) (by simp)) (.inr (.inr (.inr rfl))) rfl HE.out ⟨g, 0, none⟩ (m + 1) cl (vs.take (m + 1)) rfl HL1.out (by omega) HN.out HONE.out HNI.out (by unfold maxLen; omega) (by omega) (by simp; omega) ?_; intro v' w3 ho3 hg3 hoff; refine Hid.out ?_)
  rw [Nat.zero_add, List.nil_append] at ho3
  obtain ⟨L', cl', rfl, z1, z2, z3⟩ := own_lies ho3.1
  have hJ3 : w3.heap[J]? = some (.cells #[.slice (some ⟨g, 0, none⟩) (hs.length + 1) cl] 57 (0, 0)) := by
    rw [hg3.block J (by rw [World.size_alloc]; have := HY.out.2.2.2.2.1; omega) fun e => ?_, HY.out.2.2.2.1.block J HY.out.2.2.2.2.1]
    · exact HY.out.1
    · injection e with e
      have h1 : J = w.heap.size := e
      have := HY.out.2.2.2.2.1
      omega
  obtain ⟨u1, u2⟩ := cells1 hJ3
  have hJ4 := heap_set1 hJ3 (.slice L' (m + 1) cl')
  have hof : Off n0 w (w3.setCell ⟨J, 0, none⟩ (.slice L' (m + 1) cl')) :=
    ((Off.of HY.out.2.2.2.1).trans hoff).trans (Off.set2 ⟨HJ.out.hJ, _, 57, _, hJ3, .inr (.inl rfl), noI_one⟩ ⟨HJ.out.hJ, _, 57, _, hJ4, .inr (.inl rfl), noI_one⟩)
  have hlt : (hs.take m).length = m := by rw [List.length_take]; omega
  have HF : Hid (Dhd n0 J w (hs.take m) res (w3.setCell ⟨J, 0, none⟩ (.slice L' (m + 1) cl'))) := by
    refine ⟨hof, fun b hb hnb => ?_, HJ.out.hJ, by rw [hlt]; omega, fun s hs' => ?_, L', cl', vs.take (m + 1), by rw [hlt]; exact hJ4, ?_, fun i s hi' => ?_⟩
    · have hbJ : b ≠ J := fun e => hnb (.inl e)
      rw [heap_setCell_far _ _ _ _ _ hbJ, hg3.block b (by rw [World.size_alloc]; omega) fun e => by injection e with e; have h1 : b = w.heap.size := e; omega]
      exact HY.out.2.2.2.1.block b hb
    · rcases List.mem_append.1 hs' with e | e
      · exact HJ.out.right s (List.mem_append_left _ (List.mem_of_mem_take e))
      · obtain rfl : s = res := by simpa using e
        exact HJ.out.right s (List.mem_of_getElem? HY.out.2.2.2.2.2)
    · rw [hlt]
      exact ho3.keep fun g' hg' => by
        obtain ⟨cs, ht⟩ := ho3.tag hg'
        exact heap_setCell_far _ _ _ _ _ (tag_ne ht hJ3 (by decide))
    · have hi2 : i ≤ m := by have := (List.getElem?_eq_some_iff.1 hi').1; simp [hlt] at this; omega
      have hi3 : (hs ++ [cur])[i]? = some s := by
        rcases Nat.lt_or_ge i m with hx | hx
        · rw [List.getElem?_append_left (by rw [hlt]; exact hx), List.getElem?_take, if_pos hx] at hi'
          rw [List.getElem?_append_left (by omega)]
          exact hi'
        · obtain rfl : i = m := by omega
          rw [List.getElem?_append_right (by rw [hlt]; exact Nat.le_refl _), hlt] at hi'
          simp at hi'
          rw [← hi']
          exact HY.out.2.2.2.2.2
      obtain ⟨A, c, k1, k2, k3, k4⟩ := HY.out.2.2.1 i s hi3
      refine ⟨A, c, ?_, k2, k3, k4.off hof⟩
      rw [List.getElem?_take, if_pos (by omega)]
      exact k1
  clear ho3 hg3 hoff hJ3 hJ4 hof z3
  refine Lib.hid ?_
  go_wp2
  go_ret
  exact ⟨rfl, HF.out⟩

set_option maxHeartbeats 800000 in
theorem refUndoBad (n0 : Nat) (w : World) (J : Nat) (hs : List (List PR)) (cur : List PR) (h : Dr n0 w J hs cur) (m : Int) (hm : m < 0 ∨ (hs.length : Int) < m) :
    Calls Try.prog 17 #[.pointer (some ⟨J, 0, none⟩), .int .i64 m] w fun e w' => e = .returned (.int .i64 1) ∧ Below w.heap.size w w' := by
  have HM := Lib.hid (refMarkC n0 _ J hs cur h)
  clear h
  by_cases h0 : m < 0
  · clear hm
    go_enter Try.func17, Try.ntmps17
    go_wp2
    go_ret
    exact ⟨rfl, Below.refl _ _⟩
  · have h1 : (hs.length : Int) < m := by omega
    clear hm
    go_enter Try.func17, Try.ntmps17
    go_wp2_with fail
    (with_reducible refine HM.out.mono ?_)
    rintro e w1 ⟨rfl, rfl⟩
    go_wp2
    go_ret
    exact ⟨rfl, Below.refl _ _⟩

set_option maxHeartbeats 1600000 in
theorem refNewC (n0 : Nat) (A : Option Addr) (ls : List PR) (c : Nat) (w : World) (hp : Prs w w.heap.size A c ls) (hc : ls.length ≤ c) (hm : c ≤ maxLen) (hl : ls.length ≤ 2932031007402) (hr : RightM ls) (hn : n0 ≤ w.heap.size) :
    Calls Try.prog 10 #[.slice A ls.length c] w fun e w' => ∃ J, e = .returned (.pointer (some ⟨J, 0, none⟩)) ∧ w.heap.size ≤ J ∧ Dr n0 w' J [] ls ∧ Below w.heap.size w w' := by
  have K1 := Lib.hid (refRightC A ls c w hp hc hm hl)
  rw [decide_eq_true hr] at K1
  have HP := Lib.hid hp
  have HR := Lib.hid hr
  have hsm := (right_sml hr).2
  clear hp hr hl
  unfold maxLen at hm
  go_enter Try.func10, Try.ntmps10
  go_wp2_with fail
  (with_reducible refine K1.out.mono ?_)
  rintro e w1 ⟨rfl, hb⟩
  have B1 := Lib.hid hb
  have hba := below_alloc w1 (.cells #[] 47)
  have HD : Hid (DstF (w1.alloc (.cells #[] 47)) w1.heap.size w1.heap.size (.slice (some ⟨w1.heap.size, 0, none⟩) 0 0) []) := ⟨[], .nil, own_empty42 w1⟩
  have HX : Hid (Src (w1.alloc (.cells #[] 47)) w1.heap.size A c ls) := .of ((HP.out.on hb).below hba)
  have HB1 := Lib.hid hba
  clear hb hba
  go_wp2_with (at_builtin; refine HD.out.wpList (Nat.le_refl _) (by simp) rfl (.tmp 8) (.tmp 9) rfl rfl rfl HX.out rfl (by simp; omega) ?_; intro v2 w2 hD2 hb2; refine Hid.out ?_)
  have hD2' : DstF w2 w1.heap.size w1.heap.size v2 ls := by simpa using hD2
  obtain ⟨A6, c6, rfl, k1, k2, k3, k4⟩ := hD2'.prs (HB1.out.trans hb2).size (by omega)
  have hb3 := below_alloc w2 (.cells #[.slice A6 ls.length c6] 22)
  have hb4 := below_alloc (w2.alloc (.cells #[.slice A6 ls.length c6] 22)) (.cells #[.slice (some ⟨w2.heap.size, 0, none⟩) 1 1] 57)
  have hbw : Below w.heap.size w w2 := B1.out.trans ((HB1.out.trans hb2).mono B1.out.size)
  have HF : Hid (Dr n0 ((w2.alloc (.cells #[.slice A6 ls.length c6] 22)).alloc (.cells #[.slice (some ⟨w2.heap.size, 0, none⟩) 1 1] 57)) (w2.heap.size + 1) [] ls ∧ w.heap.size ≤ w2.heap.size + 1 ∧ Below w.heap.size w ((w2.alloc (.cells #[.slice A6 ls.length c6] 22)).alloc (.cells #[.slice (some ⟨w2.heap.size, 0, none⟩) 1 1] 57))) := by
    have hsz := hbw.size
    have hr1 : (w2.alloc (.cells #[.slice A6 ls.length c6] 22)).heap[w2.heap.size]? = some (.cells #[.slice A6 ls.length c6] 22 (0, 0)) := heap_alloc_new w2 _
    have hr2 : ((w2.alloc (.cells #[.slice A6 ls.length c6] 22)).alloc (.cells #[.slice (some ⟨w2.heap.size, 0, none⟩) 1 1] 57)).heap[w2.heap.size]? = some (.cells #[.slice A6 ls.length c6] 22 (0, 0)) := by rw [hb4.block _ (by simp)]; exact hr1
    have hj := heap_alloc_new (w2.alloc (.cells #[.slice A6 ls.length c6] 22)) (.cells #[.slice (some ⟨w2.heap.size, 0, none⟩) 1 1] 57)
    rw [World.size_alloc] at hj
    refine ⟨⟨by omega, by simp, by simpa using HR.out, some ⟨w2.heap.size, 0, none⟩, 1, [.slice A6 ls.length c6], hj, ⟨⟨rfl, .inr ⟨w2.heap.size, 1, #[.slice A6 ls.length c6], rfl, by omega, hr2, Nat.le_refl _, by unfold maxLen; omega, rfl, rfl⟩⟩, fun g hg cs T z h => ?_⟩, fun i s hs' => ?_⟩, by omega, (hbw.trans (hb3.mono hsz)).trans (hb4.mono (Nat.le_trans hsz hb3.size))⟩
    · obtain rfl : w2.heap.size = g := by injection hg
      rw [hr2] at h
      injection h with h
      injection h with h _ _
      subst h
      exact noI_one
    · have hi' : i = 0 := by have := (List.getElem?_eq_some_iff.1 hs').1; simp at this; omega
      subst hi'
      simp at hs'
      subst hs'
      exact ⟨A6, c6, rfl, k1, k2, PrsX.on (PrsX.on ⟨k3, k4.off⟩ hb3) hb4⟩
  clear hD2 hD2' hb2 k1 k2 k3 k4 hb3 hb4 hbw
  refine Lib.hid ?_
  go_wp2
  go_ret
  exact ⟨_, rfl, HF.out.2.1, HF.out.1, HF.out.2.2⟩
set_option maxHeartbeats 800000 in
theorem refNewC_nil (A : Option Addr) (ls : List PR) (c : Nat) (w : World) (hp : Prs w w.heap.size A c ls) (hc : ls.length ≤ c) (hm : c ≤ maxLen) (hl : ls.length ≤ 2932031007402) (hr : ¬ RightM ls) :
    Calls Try.prog 10 #[.slice A ls.length c] w fun e w' => e = .returned (.pointer none) ∧ Below w.heap.size w w' := by
  have K1 := Lib.hid (refRightC A ls c w hp hc hm hl)
  rw [decide_eq_false hr] at K1
  clear hp hr hl
  unfold maxLen at hm
  go_enter Try.func10, Try.ntmps10
  go_wp2_with fail
  (with_reducible refine K1.out.mono ?_)
  rintro e w1 ⟨rfl, hb1⟩
  have HB := Lib.hid hb1
  clear hb1
  go_wp2
  go_ret
  exact ⟨rfl, HB.out⟩
end Go.Proofs.Ytncbbjodianmoaa
