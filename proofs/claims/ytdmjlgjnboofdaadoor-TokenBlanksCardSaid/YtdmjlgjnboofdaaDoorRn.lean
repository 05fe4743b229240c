/- What the document's readers of a number and a text return: what the program's do. Conditions: what is read lies in memory. -/
import Derived.Test.YtdmjlgjnboofdaaDoorF
namespace Go.Proofs.YtdmjlgjnboofdaaDoor
open Go.RowKit

/-- the number that the digits at a place are, behind one that was read -/
def valAt (l : List Nat) (k v : Nat) : Option Nat := value ((l.drop k).take (run digitB (l.drop k))) v
theorem valAt_big {l : List Nat} {k b v : Nat} (h : l[k]? = some b) (hd : digitB b = true) (hv : v > (9223372036854775807 - (b - 48)) / 10) : valAt l k v = none := by
  unfold valAt
  rw [run_next h hd]
  obtain ⟨hk, rfl⟩ := List.getElem?_eq_some_iff.1 h
  rw [List.drop_eq_getElem_cons hk, List.take_succ_cons, value, if_pos hv]
theorem valAt_next {l : List Nat} {k b v : Nat} (h : l[k]? = some b) (hd : digitB b = true) (hv : ¬ v > (9223372036854775807 - (b - 48)) / 10) : valAt l k v = valAt l (k + 1) (v * 10 + (b - 48)) := by
  unfold valAt
  rw [run_next h hd]
  obtain ⟨hk, rfl⟩ := List.getElem?_eq_some_iff.1 h
  rw [List.drop_eq_getElem_cons hk, List.take_succ_cons, value, if_neg hv]
theorem valAt_end {l : List Nat} {k v : Nat} (h : run digitB (l.drop k) = 0) : valAt l k v = some v := by
  unfold valAt
  rw [h, List.take_zero]
  rfl

set_option maxRecDepth 100000 in
set_option maxHeartbeats 1600000 in
theorem refNumber (A : Option Addr) (l : List Nat) (c p : Nat) (w : World) (hc : l.length ≤ c) (hcm : c ≤ maxLen) (hl : Lies w w.heap.size A c (bts l)) (hy : Byn l) (hp : p < l.length) :
    Calls Tryd.prog 32 #[.slice A l.length c, .int .i64 p] w fun e w' => e = .returned (readV (numT (l.drop p)) p) ∧ Below w.heap.size w w' := by
  have HL := Lib.hid hl
  have HY := Lib.hid hy
  clear hl hy
  obtain ⟨ad, _, rfl, _, _, _⟩ := HL.out.nat hp
  have b0 := Lib.hid (below_alloc w (.cells #[.int .i64 0, .string ⟨#[]⟩, .int .i64 0, .int .i64 0] 33))
  have hnew := Lib.hid (heap_alloc_new w (.cells #[.int .i64 0, .string ⟨#[]⟩, .int .i64 0, .int .i64 0] 33))
  have HM := Lib.hid ((HL.out.below b0.out).more b0.out.size)
  have HS : Hid (∀ v, valAt l p 0 = some v → numT (l.drop p) = ⟨0, 2, [], v, run digitB (l.drop p)⟩) := fun v h => numT_some h
  have HN : Hid (valAt l p 0 = none → numT (l.drop p) = bad 32) := fun h => numT_none h
  have hth := Lib.hid (there_of hnew.out)
  unfold maxLen at hcm
  go_enter Tryd.func32, Tryd.ntmps32
  go_wp2
  generalize w.alloc (.cells #[.int .i64 0, .string ⟨#[]⟩, .int .i64 0, .int .i64 0] 33) = wn at *
  go_loop [7, 8] (fun x i => ∃ k v : Nat, k ≤ l.length ∧ p ≤ k ∧ v ≤ 9223372036854775807 ∧ i = .int .i64 k ∧ x = .int .i64 v ∧ Hid (k + run digitB (l.drop k) = p + run digitB (l.drop p)) ∧ Hid (valAt l k v = valAt l p 0)) (fun _ i => l.length - (intOf i).toNat)
  case atStart => exact ⟨p, 0, by omega, Nat.le_refl _, Nat.zero_le _, rfl, rfl, rfl, rfl⟩
  case round =>
    obtain ⟨k, v, hk, hpk, hv, rfl, rfl, HR, HV⟩ := hrel
    by_cases hlt : k < l.length
    · obtain ⟨a', b, he, hB, hg, hcell⟩ := HM.out.nat hlt
      injection he with he
      subst he
      have hb := byn_get HY.out hg
      have K1 := Lib.hid (refDigit b wn hb)
      cases hd : digitB b with
      | true =>
        rw [hd] at K1
        have hbr := digit_range hd
        have HH := Lib.hid (run_next hg hd)
        have HG := Lib.hid hg
        have HD := Lib.hid hd
        clear hg hd
        obtain ⟨d, rfl⟩ : ∃ d, b = d + 48 := ⟨b - 48, by omega⟩
        have ecast : ((d + 48 : Nat) : Int) = (d : Int) + 48 := by simp
        rw [ecast] at hcell K1
        by_cases hbig : v > (9223372036854775807 - (d + 48 - 48)) / 10
        · have HX := Lib.hid (valAt_big HG.out HD.out hbig)
          clear ecast
          go_wp2_with (first | (go_at_call 31; refine K1.out.mono ?_; rintro e w' ⟨rfl, rfl⟩) | (refine wpList_store4 rfl (.tmp 4) (.tmp 33) rfl rfl w.heap.size rfl _ _ _ _ rfl hth.out rfl rfl rfl rfl ?_; intro w3 g1 g2 g3 g4))
          refine bodyPost_ret (ret_reader Tryd.results32 _ _ w.heap.size _ rfl g1 rfl) rfl ?_
          refine ⟨ret_eq ?_, b0.out.trans g3⟩
          rw [HN.out (HV.out.symm.trans HX.out), readV_bad 32 p (by omega)]
          rfl
        · have HX := Lib.hid (valAt_next HG.out HD.out hbig)
          clear ecast
          go_wp2_with (go_at_call 31; refine K1.out.mono ?_; rintro e w' ⟨rfl, rfl⟩)
          go_round
          case rel => exact ⟨k + 1, v * 10 + d, by omega, by omega, by omega, by go_num, by go_num, by have h1 := HR.out; have h2 := HH.out; show _ = _; omega, by have h1 := HX.out; rw [Nat.add_sub_cancel] at h1; exact h1.symm.trans HV.out⟩
          case measure => simp [intOf]; omega
      | false =>
        rw [hd] at K1
        have hr0 := run_halt hg hd
        have HX := Lib.hid (HS.out v (HV.out.symm.trans (valAt_end hr0)))
        have HK : Hid (p + run digitB (l.drop p) = k) := by have := HR.out; show _ = _; omega
        clear hg hd hr0
        go_wp2_with (first | (go_at_call 31; refine K1.out.mono ?_; rintro e w' ⟨rfl, rfl⟩) | (refine wpList_store4 rfl (.tmp 4) (.tmp 42) rfl rfl w.heap.size rfl _ _ _ _ rfl hth.out rfl rfl rfl rfl ?_; intro w3 g1 g2 g3 g4))
        refine bodyPost_ret (ret_reader Tryd.results32 _ _ w.heap.size _ rfl g1 rfl) rfl ?_
        refine ⟨ret_eq ?_, b0.out.trans g3⟩
        rw [HX.out, readV_ok, HK.out]
        rfl
    · have hr0 : run digitB (l.drop k) = 0 := by rw [List.drop_of_length_le (by omega)]; rfl
      have HX := Lib.hid (HS.out v (HV.out.symm.trans (valAt_end hr0)))
      have HK : Hid (p + run digitB (l.drop p) = k) := by have := HR.out; show _ = _; omega
      clear hr0
      go_wp2_with (refine wpList_store4 rfl (.tmp 4) (.tmp 42) rfl rfl w.heap.size rfl _ _ _ _ rfl hth.out rfl rfl rfl rfl ?_; intro w3 g1 g2 g3 g4)
      refine bodyPost_ret (ret_reader Tryd.results32 _ _ w.heap.size _ rfl g1 rfl) rfl ?_
      refine ⟨ret_eq ?_, b0.out.trans g3⟩
      rw [HX.out, readV_ok, HK.out]
      rfl
end Go.Proofs.YtdmjlgjnboofdaaDoor
