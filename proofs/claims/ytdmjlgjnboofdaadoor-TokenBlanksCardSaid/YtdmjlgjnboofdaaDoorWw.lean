/- The walk of TokenWords: it returns true, and nothing that was there has changed. Conditions: none beyond what its argument is, and its reach; the tables lie as the program lays them. -/
import Derived.Test.YtdmjlgjnboofdaaDoorWo
namespace Go.Proofs.YtdmjlgjnboofdaaDoor
open Go.RowKit

theorem add_seven (s : List Nat) : strN s ++ ⟨#[55]⟩ = strN (s ++ [55]) := by
  rw [← strN_append]
  rfl
theorem lexN (A : Option Addr) (l : List Nat) (n c : Nat) (w : World) (hn : l.length = n) (hc : n ≤ c) (hcm : c ≤ maxLen) (hl : Lies w w.heap.size A c (bts l)) (hy : Byn l) (ht : Tab w) :
    Calls Tryd.prog 10 #[.slice A n c] w (LexO w (lexed l)) := by
  subst hn
  exact lex A l c w hc hcm hl hy ht
theorem cell_at {w : World} {g i : Nat} {t : Tok} (h : TokAt w g i t) {k : Nat} (hk : i * 4 = k) : w.cell? ⟨g, k, none⟩ = some (.int .i64 t.kind) ∧ w.cell? ⟨g, k + 1, none⟩ = some (.string (strN t.text)) := by
  subst hk
  exact ⟨h.1, h.2.1⟩

set_option maxHeartbeats 800000 in
theorem words_walk (s : List Nat) (w : World) (hy : Byn s) (hr : s.length ≤ 140737488351232) (ht : Tab w) :
    Calls Tryd.prog 7 #[.string (strN s)] w fun e w' => e = .returned (.bool true) ∧ Below w.heap.size w w' := by
  have HY := Lib.hid hy
  have HT := Lib.hid ht
  have hpos := ht.1
  clear hy ht
  go_enter Tryd.func7, Tryd.ntmps7
  go_wp2_with fail
  refine (head_true _ HT.out).mono ?_
  rintro e w1 ⟨rfl, hb1⟩
  obtain ⟨c, w2, hcv, c1, c2, hb2, hl2⟩ := run_bytes w1 s HY.out (by unfold maxLen; omega)
  have BW2 := Lib.hid (hb1.trans (hb2.mono hb1.size))
  have HL := Lib.hid hl2
  clear hb1 hb2 hl2
  go_wp2_with fail
  clear hcv
  refine (lex _ s c w2 c1 c2 HL.out HY.out (HT.out.below BW2.out hpos)).mono ?_
  rintro e w3 ⟨v3, rfl, ho3, hb3⟩
  have BW3 := Lib.hid (BW2.out.trans (hb3.mono BW2.out.size))
  have s3 := BW3.out.size
  have HO := Lib.hid ho3
  clear hb3 ho3 HL
  go_wp2_with fail
  refine (word s w3 HY.out (HT.out.below BW3.out hpos)).mono ?_
  rintro e w' ⟨rfl, rfl⟩
  cases hw : isWord s with
  | true =>
    obtain ⟨x1, x2, x3⟩ := word_list hw
    rw [x1] at HO ⊢
    obtain ⟨g, cap, rfl, hg1, hg2, hrow⟩ := own_tok HO.out (by simp)
    have T1 := Lib.hid (hrow 0 _ rfl)
    have X2 := Lib.hid x2
    clear HO x1 x2 hrow
    have hadd := add_seven s
    have hsz := strN_size s
    have hy7 : Byn (s ++ [55]) := HY.out.append (by intro b hb; simp at hb; omega)
    have HY7 := Lib.hid hy7
    obtain ⟨c', w4, hcv, c1', c2', hb4, hl4⟩ := run_bytes w3 (s ++ [55]) hy7 (by unfold maxLen; simp; omega)
    rw [List.length_append, List.length_singleton] at hcv c1'
    have BW4 := Lib.hid (BW3.out.trans (hb4.mono s3))
    have HB4 := Lib.hid hb4
    have HL := Lib.hid hl4
    clear hb4 hl4 hy7 hw
    go_wp2_with fail
    clear hcv hadd
    refine (lexN _ (s ++ [55]) (s.length + 1) c' w4 (by simp) c1' c2' HL.out HY7.out (HT.out.below BW4.out hpos)).mono ?_
    rw [X2.out]
    rintro e w5 ⟨v5, rfl, ho5, hb5⟩
    obtain ⟨g', cap', rfl, hg1', hg2', hrow⟩ := own_tok ho5 (by simp)
    have bw5 := HB4.out.trans (hb5.mono HB4.out.size)
    have BW5 := Lib.hid (BW3.out.trans (bw5.mono s3))
    have T1' : w5.cell? ⟨g, 0, none⟩ = some (.int .i64 4) := (T1.out.below bw5 hg2).1
    have T2' : w5.cell? ⟨g, 1, none⟩ = some (.string (strN s)) := (T1.out.below bw5 hg2).2.1
    have T3' : w5.cell? ⟨g', 0, none⟩ = some (.int .i64 1) := (hrow 0 _ rfl).1
    clear ho5 hb5 hrow bw5 T1 HL
    go_wp2
    go_ret
    exact ⟨rfl, BW5.out⟩
  | false =>
    have HN := Lib.hid (lexed_names HY.out)
    have hm := lexed_many s
    generalize lexed s = o at *
    obtain ⟨err, ts, place⟩ := o
    dsimp only at HO HN hm ⊢
    clear hw
    obtain ⟨A, cap, hv⟩ := own_shape HO.out
    subst hv
    go_wp2
    go_loop [10] (fun i => ∃ k : Nat, k ≤ ts.length ∧ i = .int .i64 k) (fun i => ts.length - (intOf i).toNat)
    case atStart => exact ⟨0, Nat.zero_le _, rfl⟩
    case round =>
      obtain ⟨k, hk, rfl⟩ := hrel
      by_cases he0 : err = 0
      · have hk3 : ((err : Int) == 0) = true := by rw [beq_iff_eq]; omega
        clear he0
        by_cases hlt : k < ts.length
        · obtain ⟨t, htk⟩ : ∃ t, ts[k]? = some t := ⟨_, List.getElem?_eq_getElem hlt⟩
          obtain ⟨g, cap', hv, hg1, hg2, hrow⟩ := own_tok HO.out (by omega)
          injection hv with hv1 hv2 hv3
          subst hv1 hv3
          have T1 := hrow k t htk
          have T1a := T1.1
          have T1b := T1.2.1
          have hN := HN.out t (List.mem_of_getElem? htk)
          have K1 := Lib.hid (word t.text w3 hN.1 (HT.out.below BW3.out hpos))
          have HNk := Lib.hid hN.2
          clear hrow T1 htk hN
          obtain ⟨kind, text, num, place'⟩ := t
          dsimp only at T1a T1b K1 HNk
          by_cases hk1 : kind = 1
          · have hwf := HNk.out hk1
            rw [hwf] at K1
            have hk2 : ((kind : Int) == 1) = true := by rw [beq_iff_eq]; omega
            clear hwf hk1
            go_wp2_with (go_at_call 13; refine K1.out.mono ?_; rintro e w' ⟨rfl, rfl⟩)
            go_round
            case rel => exact ⟨k + 1, by omega, by go_num⟩
            case measure => simp [intOf]; omega
          · have hk2 : ((kind : Int) == 1) = false := by rw [beq_eq_false_iff_ne]; omega
            go_wp2
            go_round
            case rel => exact ⟨k + 1, by omega, by go_num⟩
            case measure => simp [intOf]; omega
        · go_wp2
          go_ret
          exact ⟨rfl, BW3.out⟩
      · have hk2 : ((err : Int) == 0) = false := by rw [beq_eq_false_iff_ne]; omega
        go_wp2
        go_ret
        exact ⟨rfl, BW3.out⟩
end Go.Proofs.YtdmjlgjnboofdaaDoor
