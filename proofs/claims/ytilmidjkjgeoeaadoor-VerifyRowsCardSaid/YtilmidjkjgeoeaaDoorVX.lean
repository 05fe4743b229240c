/- The first state of a function: its parameters' types in the first slots. Conditions: those in each theorem. -/
import Derived.Test.YtilmidjkjgeoeaaDoorVW
namespace Go.Proofs.YtilmidjkjgeoeaaDoor
open Go.RowKit Go.MapKept
set_option maxRecDepth 100000
set_option linter.unusedVariables false
set_option linter.unusedSimpArgs false
theorem ws0_ok : Ws8 ws0 := ⟨rfl, by unfold ws0; decide⟩
theorem dg_zero (j : Nat) : dg 0 j = 0 := by unfold dg; simp
theorem sl_zero (j : Nat) : slOf ws0 j = 0 := by
  unfold slOf
  have : ws0[j / 32]?.getD 0 = 0 := by
    unfold ws0
    rcases Nat.lt_or_ge (j / 32) 8 with h | h
    · rcases (show j / 32 = 0 ∨ j / 32 = 1 ∨ j / 32 = 2 ∨ j / 32 = 3 ∨ j / 32 = 4 ∨ j / 32 = 5 ∨ j / 32 = 6 ∨ j / 32 = 7 by omega) with h | h | h | h | h | h | h | h <;> rw [h] <;> rfl
    · rw [List.getElem?_eq_none (by simpa using h)]
      rfl
  rw [this]
  exact dg_zero _
theorem SlR.zero : SlR ws0 [] := fun j _ => by rw [sl_zero]; rfl
theorem SlR.next {xs : List Nat} {ps : List Int} {k : Nat} {t : Int} (h : SlR xs (ps.take k)) (hx : Ws8 xs) (hk : ps[k]? = some t) (hk2 : k < 256) (ht : 0 ≤ t ∧ t < 4) : SlR (slSet xs k t.toNat) (ps.take (k + 1)) := by
  intro j hj
  rw [sl_set hx hk2 (by omega) hj]
  by_cases hjk : j = k
  · subst hjk
    rw [if_pos rfl, List.getElem?_take_of_lt (by omega), hk]
    simp
    omega
  · rw [if_neg hjk, h j hj]
    by_cases hlt : j < k
    · rw [List.getElem?_take_of_lt hlt, List.getElem?_take_of_lt (by omega)]
    · rw [List.getElem?_eq_none (by simp; omega), List.getElem?_eq_none (by simp; omega)]
theorem SlR.pad {xs : List Nat} {ps : List Int} (h : SlR xs ps) (m : Nat) : SlR xs (ps ++ List.replicate m 0) := by
  intro j hj
  rw [h j hj]
  by_cases hlt : j < ps.length
  · rw [List.getElem?_append_left hlt]
  · rw [List.getElem?_eq_none (by omega), List.getElem?_append_right (by omega), List.getElem?_replicate]
    split <;> rfl
def FirstQ (ps : List Int) (w : World) (r : Ending) (w' : World) : Prop := ∃ ys, Ws8 ys ∧ SlR ys ps ∧ r = .returned (.agg (stC 0 ys).toArray) ∧ Below w.heap.size w w'
set_option maxHeartbeats 1600000 in
theorem firstC {B W : Nat} {x : Wx} {L V R : Value} (ps : List Int) (w : World) (h : WkAt B W x L V R w) (hU : TyAt w (w.heap.size + 1) x.P ps) (hps : ∀ p ∈ ps, okTy p) (hl : ps.length ≤ 256) :
    Calls Tryd.prog 24 #[.pointer (some ⟨W, 0, none⟩)] w (FirstQ ps w) := by
  obtain ⟨A, c, eP, h1, h2, h3⟩ := hU
  have c5 := (wk_cells h.cell).2.2.2.2.1
  rw [eP] at c5
  have lW := h.lt.1
  have H3 := Lib.hid h3
  have HP := Lib.hid hps
  have B1 := below_alloc w (stO 0 ws0)
  have A1 := heap_alloc_new w (stO 0 ws0)
  have s1 : (w.alloc (stO 0 ws0)).heap.size = w.heap.size + 1 := by simp
  have B2 := below_alloc (w.alloc (stO 0 ws0)) (stO 0 ws0)
  have A2 := heap_alloc_new (w.alloc (stO 0 ws0)) (stO 0 ws0)
  rw [s1] at A2
  have HB : Hid (Below w.heap.size w ((w.alloc (Obj.cells #[Value.int IntKind.i64 0, Value.int IntKind.u64 0, Value.int IntKind.u64 0, Value.int IntKind.u64 0, Value.int IntKind.u64 0, Value.int IntKind.u64 0, Value.int IntKind.u64 0, Value.int IntKind.u64 0, Value.int IntKind.u64 0] 67)).alloc (Obj.cells #[Value.int IntKind.i64 0, Value.int IntKind.u64 0, Value.int IntKind.u64 0, Value.int IntKind.u64 0, Value.int IntKind.u64 0, Value.int IntKind.u64 0, Value.int IntKind.u64 0, Value.int IntKind.u64 0, Value.int IntKind.u64 0] 67))) := B1.trans (B2.mono (by omega))
  have HA1 : Hid (((w.alloc (Obj.cells #[Value.int IntKind.i64 0, Value.int IntKind.u64 0, Value.int IntKind.u64 0, Value.int IntKind.u64 0, Value.int IntKind.u64 0, Value.int IntKind.u64 0, Value.int IntKind.u64 0, Value.int IntKind.u64 0, Value.int IntKind.u64 0] 67)).alloc (Obj.cells #[Value.int IntKind.i64 0, Value.int IntKind.u64 0, Value.int IntKind.u64 0, Value.int IntKind.u64 0, Value.int IntKind.u64 0, Value.int IntKind.u64 0, Value.int IntKind.u64 0, Value.int IntKind.u64 0, Value.int IntKind.u64 0] 67)).heap[w.heap.size]? = some (stO 0 ws0)) := (B2.block _ (by omega)).trans A1
  have HA2 : Hid (((w.alloc (Obj.cells #[Value.int IntKind.i64 0, Value.int IntKind.u64 0, Value.int IntKind.u64 0, Value.int IntKind.u64 0, Value.int IntKind.u64 0, Value.int IntKind.u64 0, Value.int IntKind.u64 0, Value.int IntKind.u64 0, Value.int IntKind.u64 0] 67)).alloc (Obj.cells #[Value.int IntKind.i64 0, Value.int IntKind.u64 0, Value.int IntKind.u64 0, Value.int IntKind.u64 0, Value.int IntKind.u64 0, Value.int IntKind.u64 0, Value.int IntKind.u64 0, Value.int IntKind.u64 0, Value.int IntKind.u64 0] 67)).heap[w.heap.size + 1]? = some (stO 0 ws0)) := A2
  unfold maxLen at h2
  clear h h3 hps B1 A1 s1 B2 A2 eP
  go_enter Tryd.func24, Tryd.ntmps24
  go_upto_region 2 with fail
  generalize ((w.alloc (Obj.cells #[Value.int IntKind.i64 0, Value.int IntKind.u64 0, Value.int IntKind.u64 0, Value.int IntKind.u64 0, Value.int IntKind.u64 0, Value.int IntKind.u64 0, Value.int IntKind.u64 0, Value.int IntKind.u64 0, Value.int IntKind.u64 0] 67)).alloc (Obj.cells #[Value.int IntKind.i64 0, Value.int IntKind.u64 0, Value.int IntKind.u64 0, Value.int IntKind.u64 0, Value.int IntKind.u64 0, Value.int IntKind.u64 0, Value.int IntKind.u64 0, Value.int IntKind.u64 0, Value.int IntKind.u64 0] 67)) = w2 at *
  have c5' : w2.cell? ⟨W, 5, none⟩ = some (.slice A ps.length c) := HB.out.cell_is lW c5
  have lS : w.heap.size + 1 < w2.heap.size := lt_someV HA2.out
  clear c5
  go_wp2_with fail
  go_loopw [4, 5, 13] (fun _ _ i wr => ∃ (k : Nat) (ys : List Nat), k ≤ ps.length ∧ i = .int .i64 k ∧ Hid (Below w.heap.size w wr ∧ wr.heap[w.heap.size]? = some (stO 0 ws0) ∧ wr.heap[w.heap.size + 1]? = some (stO 0 ys) ∧ Ws8 ys ∧ SlR ys (ps.take k))) (fun _ _ i _ => ps.length - (intOf i).toNat)
  case atStart => exact ⟨0, ws0, by omega, rfl, HB.out, HA1.out, HA2.out, ws0_ok, SlR.zero⟩
  case round =>
    obtain ⟨k, ys, hk, rfl, HQ⟩ := hrel
    by_cases hlt : k < ps.length
    · obtain ⟨t, ht⟩ : ∃ t, ps[k]? = some t := ⟨ps[k], List.getElem?_eq_getElem hlt⟩
      obtain ⟨b, o, rfl, hb1, hb2, hb3⟩ := H3.out _ t ht
      have hok := HP.out t (List.mem_of_getElem? ht)
      have hc : wr.cell? ⟨b, o + k, none⟩ = some (.int .i64 t) := HQ.out.1.cell_is hb2 hb3
      have ht4 : 0 ≤ t ∧ t < 4 := by have := hok.1; have := hok.2; omega
      have K := Lib.hid (setC (w.heap.size + 1) 0 ys k t.toNat wr HQ.out.2.2.1 HQ.out.2.2.2.1 (by omega) (by omega))
      rw [show ((t.toNat : Nat) : Int) = t by omega] at K
      have HN := Lib.hid (And.intro (SlR.next HQ.out.2.2.2.2 HQ.out.2.2.2.1 ht (by omega) ht4) (slSet_ok (t := t.toNat) HQ.out.2.2.2.1 (show k < 256 by omega) (by omega)))
      have hlI : (k : Int) < (ps.length : Int) := by omega
      clear hb3 hok ht4
      go_wp2_with fail
      refine K.out.mono ?_
      rintro r w3 ⟨rfl, g1, g2, g3⟩
      have HF : Hid (Below w.heap.size w w3 ∧ w3.heap[w.heap.size]? = some (stO 0 ws0) ∧ w3.heap[w.heap.size + 1]? = some (stO 0 (slSet ys k t.toNat)) ∧ Ws8 (slSet ys k t.toNat) ∧ SlR (slSet ys k t.toNat) (ps.take (k + 1))) := by
        have hne : ∀ i, i ≠ w.heap.size + 1 → i < wr.heap.size → w3.heap[i]? = wr.heap[i]? := fun i hi hl => g2.block i hl fun e => by injection e with e; exact hi e
        refine ⟨HQ.out.1.trans ⟨g2.os, g2.tape, g2.output, g2.size, fun i hi => hne i (by omega) (by have := HQ.out.1.size; omega)⟩, ?_, g1, HN.out.2, HN.out.1⟩
        rw [hne _ (by omega) (lt_someV HQ.out.2.1)]
        exact HQ.out.2.1
      clear g1 g2 g3 hc
      go_wp2
      go_round
      case measure => simp [intOf]; omega
      case rel => exact ⟨k + 1, _, by omega, by go_num, HF⟩
    · obtain rfl : k = ps.length := by omega
      have HR := Lib.hid (rangeV_of (cs := stC 0 ys) HQ.out.2.2.1)
      have hs9 : (stC 0 ys).length = 9 := by rw [stC_len, HQ.out.2.2.2.1.1]
      have HA := Lib.hid HQ.out.2.1
      go_wp2_with (first | (refine wpList_load_mid rfl 67 (.tmp 3) rfl (w.heap.size + 1) 0 rfl (stC 0 ys) _ HR.out Tryd.underlying67 rfl (by rw [hs9]; exact info67s) ?_) | (refine wpList_storeA info67s rfl (.tmp 2) (.tmp 23) rfl rfl w.heap.size rfl (stC 0 ys) (stC 0 ws0) hs9 rfl HA.out rfl (stC_one _ _) ?_; intro w6 g6 o6))
      refine bodyPost_ret (retV_cell Tryd.results24 Tryd.underlying67 rfl (by rw [hs9]; exact info67s) _ _ w.heap.size rfl (rangeV_of g6)) rfl ?_
      refine ⟨ys, HQ.out.2.2.2.1, ?_, rfl, HQ.out.1.trans (o6.below (Nat.le_refl _))⟩
      have := HQ.out.2.2.2.2
      rwa [List.take_length] at this
end Go.Proofs.YtilmidjkjgeoeaaDoor
