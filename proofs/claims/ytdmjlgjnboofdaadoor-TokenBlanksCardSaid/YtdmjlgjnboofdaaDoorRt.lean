/- What the document's reader of a text returns: what the program's does. Conditions: what is read lies in memory. -/
import Derived.Test.YtdmjlgjnboofdaaDoorF
namespace Go.Proofs.YtdmjlgjnboofdaaDoor
open Go.RowKit

theorem text_range {b : Nat} (h : textB b = true) : 32 ≤ b ∧ b ≤ 126 ∧ b ≠ 34 ∧ b ≠ 92 := by
  simp only [textB, Bool.and_eq_true, decide_eq_true_eq] at h
  omega
theorem text_ways {b : Nat} (h : textB b = false) : b < 32 ∨ 126 < b ∨ b = 34 ∨ b = 92 := by
  rw [← Bool.not_eq_true] at h
  simp only [textB, Bool.and_eq_true, decide_eq_true_eq] at h
  omega

set_option maxRecDepth 100000 in
set_option maxHeartbeats 3200000 in
theorem refText (A : Option Addr) (l : List Nat) (c p : Nat) (w : World) (hc : l.length ≤ c) (hcm : c ≤ maxLen) (hl : Lies w w.heap.size A c (bts l)) (hy : Byn l) (hp : p < l.length) :
    Calls Tryd.prog 33 #[.slice A l.length c, .int .i64 p] w fun e w' => e = .returned (readV (textT (l.drop p)) p) ∧ Below w.heap.size w w' := by
  have HL := Lib.hid hl
  have HY := Lib.hid hy
  clear hl hy
  obtain ⟨ad, _, rfl, _, _, _⟩ := HL.out.nat hp
  have b0 := Lib.hid (below_alloc w (.cells #[.int .i64 0, .string ⟨#[]⟩, .int .i64 0, .int .i64 0] 33))
  have hnew := Lib.hid (heap_alloc_new w (.cells #[.int .i64 0, .string ⟨#[]⟩, .int .i64 0, .int .i64 0] 33))
  have HM := Lib.hid ((HL.out.below b0.out).more b0.out.size)
  have hth := Lib.hid (there_of hnew.out)
  have H1 : Hid (¬ l[p + 1 + run textB (l.drop (p + 1))]? = some 34 → textT (l.drop p) = bad 31) := textT_open
  have H2 : Hid (l[p + 1 + run textB (l.drop (p + 1))]? = some 34 → run textB (l.drop (p + 1)) > 64 → textT (l.drop p) = bad 32) := textT_long
  have H3 : Hid (l[p + 1 + run textB (l.drop (p + 1))]? = some 34 → ¬ run textB (l.drop (p + 1)) > 64 → textT (l.drop p) = ⟨0, 3, (l.drop (p + 1)).take (run textB (l.drop (p + 1))), 0, run textB (l.drop (p + 1)) + 2⟩) := textT_ok
  unfold maxLen at hcm
  go_enter Tryd.func33, Tryd.ntmps33
  go_wp2
  generalize w.alloc (.cells #[.int .i64 0, .string ⟨#[]⟩, .int .i64 0, .int .i64 0] 33) = wn at *
  go_loop [7] (fun i => ∃ k : Nat, k ≤ l.length ∧ p + 1 ≤ k ∧ i = .int .i64 k ∧ Hid (k + run textB (l.drop k) = p + 1 + run textB (l.drop (p + 1)))) (fun i => l.length - (intOf i).toNat)
  case atStart => exact ⟨p + 1, by omega, Nat.le_refl _, by go_num, rfl⟩
  case round =>
    obtain ⟨k, hk, hpk, rfl, HR⟩ := hrel
    by_cases hlt : k < l.length
    · obtain ⟨a', b, he, hB, hg, hcell⟩ := HM.out.nat hlt
      injection he with he
      subst he
      have hb := byn_get HY.out hg
      cases hd : textB b with
      | true =>
        have HH := Lib.hid (run_next hg hd)
        obtain ⟨r1, r2, r3, r4⟩ := text_range hd
        have e34 : ((b : Int) != 34) = true := by rw [bne_iff_ne]; omega
        have e92 : ((b : Int) != 92) = true := by rw [bne_iff_ne]; omega
        clear hg hd r3 r4
        go_wp2
        go_round
        case rel => exact ⟨k + 1, by omega, by omega, by go_num, by have h1 := HR.out; have h2 := HH.out; show _ = _; omega⟩
        case measure => simp [intOf]; omega
      | false =>
        have hr0 := run_halt hg hd
        have hkn : p + 1 + run textB (l.drop (p + 1)) = k := by have := HR.out; omega
        have hways := text_ways hd
        by_cases h34 : b = 34
        · have hq : l[p + 1 + run textB (l.drop (p + 1))]? = some 34 := by rw [hkn, hg, h34]
          have hrl := run_le textB (l.drop (p + 1))
          rw [List.length_drop] at hrl
          have hcv := run_part HM.out (p := p + 1) (n := run textB (l.drop (p + 1))) hc (by omega)
          rw [if_neg (by omega), Option.map_some, addr_succ] at hcv
          have G2 := Lib.hid (H2.out hq)
          have G3 := Lib.hid (H3.out hq)
          clear H1 H2 H3 hq hr0 hd hways HR hg
          generalize run textB (l.drop (p + 1)) = n at *
          generalize (l.drop (p + 1)).take n = t at *
          subst hkn
          subst h34
          by_cases h64 : n > 64
          · have HX := Lib.hid (G2.out h64)
            clear hcv
            go_wp2_with (refine wpList_store4 rfl (.tmp 4) (.tmp 61) rfl rfl w.heap.size rfl _ _ _ _ rfl hth.out rfl rfl rfl rfl ?_; intro w3 g1 g2 g3 g4)
            refine bodyPost_ret (ret_reader Tryd.results33 _ _ w.heap.size _ rfl g1 rfl) rfl ?_
            refine ⟨ret_eq ?_, b0.out.trans g3⟩
            rw [HX.out, readV_bad 32 p (by omega)]
            rfl
          · have HX := Lib.hid (G3.out h64)
            go_wp2_with (refine wpList_store4 rfl (.tmp 4) (.tmp 69) rfl rfl w.heap.size rfl _ _ _ _ rfl hth.out rfl rfl rfl rfl ?_; intro w3 g1 g2 g3 g4)
            refine bodyPost_ret (ret_reader Tryd.results33 _ _ w.heap.size _ rfl g1 rfl) rfl ?_
            refine ⟨ret_eq ?_, b0.out.trans g3⟩
            rw [HX.out, readV_ok, okV]
            simp
            omega
        · have HX := Lib.hid (H1.out (by rw [hkn, hg]; simpa using h34))
          have e34 : ((b : Int) != 34) = true := by rw [bne_iff_ne]; omega
          have hw3 : b < 32 ∨ 126 < b ∨ (32 ≤ b ∧ b ≤ 126 ∧ ((b : Int) != 92) = false) := by
            rcases hways with h | h | h | h
            · exact .inl h
            · exact .inr (.inl h)
            · exact absurd h h34
            · subst h
              exact .inr (.inr ⟨by omega, by omega, rfl⟩)
          clear hways hg hd hr0 hkn h34 H1 H2 H3
          rcases hw3 with q1 | q1 | ⟨q1, q2, q3⟩
          all_goals
            go_wp2_with (refine wpList_store4 rfl (.tmp 4) (.tmp 55) rfl rfl w.heap.size rfl _ _ _ _ rfl hth.out rfl rfl rfl rfl ?_; intro w3 g1 g2 g3 g4)
            refine bodyPost_ret (ret_reader Tryd.results33 _ _ w.heap.size _ rfl g1 rfl) rfl ?_
            refine ⟨ret_eq ?_, b0.out.trans g3⟩
            rw [HX.out, readV_bad 31 p (by omega)]
            rfl
    · have hr0 : run textB (l.drop k) = 0 := by rw [List.drop_of_length_le (by omega)]; rfl
      have hkn : p + 1 + run textB (l.drop (p + 1)) = k := by have := HR.out; omega
      have HX := Lib.hid (H1.out (by rw [hkn, List.getElem?_eq_none (by omega)]; simp))
      clear hr0 hkn H1 H2 H3
      go_wp2_with (refine wpList_store4 rfl (.tmp 4) (.tmp 55) rfl rfl w.heap.size rfl _ _ _ _ rfl hth.out rfl rfl rfl rfl ?_; intro w3 g1 g2 g3 g4)
      refine bodyPost_ret (ret_reader Tryd.results33 _ _ w.heap.size _ rfl g1 rfl) rfl ?_
      refine ⟨ret_eq ?_, b0.out.trans g3⟩
      rw [HX.out, readV_bad 31 p (by omega)]
      rfl
end Go.Proofs.YtdmjlgjnboofdaaDoor
