/- What the document's readers of a token return: what the program's do. Conditions: what is read lies in memory. -/
import Derived.Test.YtdmjlgjnboofdaaDoorF
namespace Go.Proofs.YtdmjlgjnboofdaaDoor
open Go.RowKit

theorem isWord_short {s : List Nat} (h : isWord s = true) : s.length ≤ 6 := by
  have h1 : s ∈ wordsN := by simpa [isWord] using h
  have h2 : ∀ s ∈ wordsN, s.length ≤ 6 := by decide
  exact h2 s h1
theorem nameT_word {r : List Nat} (h : isWord (r.take (run nameB r)) = true) : nameT r = ⟨0, 4, r.take (run nameB r), 0, run nameB r⟩ := by
  have h1 := isWord_short h
  have h2 := run_le nameB r
  rw [List.length_take] at h1
  unfold nameT
  rw [if_neg (by omega), h]
  rfl
theorem nameT_long {r : List Nat} (hn : run nameB r > 16) : nameT r = bad 32 := by
  unfold nameT
  rw [if_pos hn]
theorem nameT_name {r : List Nat} (h : isWord (r.take (run nameB r)) = false) (hn : ¬ run nameB r > 16) : nameT r = ⟨0, 1, r.take (run nameB r), 0, run nameB r⟩ := by
  unfold nameT
  rw [if_neg hn, h]
  rfl

set_option maxRecDepth 100000 in
set_option maxHeartbeats 1600000 in
theorem refName (A : Option Addr) (l : List Nat) (c p : Nat) (w : World) (hc : l.length ≤ c) (hcm : c ≤ maxLen) (hl : Lies w w.heap.size A c (bts l)) (hy : Byn l) (hp : p < l.length) :
    Calls Tryd.prog 30 #[.slice A l.length c, .int .i64 p] w fun e w' => e = .returned (readV (nameT (l.drop p)) p) ∧ Below w.heap.size w w' := by
  have HL := Lib.hid hl
  have HY := Lib.hid hy
  clear hl hy
  obtain ⟨ad, _, rfl, _, _, _⟩ := HL.out.nat hp
  have hne : ¬ c = p := by omega
  have b0 := Lib.hid (below_alloc w (.cells #[.int .i64 0, .string ⟨#[]⟩, .int .i64 0, .int .i64 0] 33))
  have hnew := Lib.hid (heap_alloc_new w (.cells #[.int .i64 0, .string ⟨#[]⟩, .int .i64 0, .int .i64 0] 33))
  have hrl := run_le nameB (l.drop p)
  rw [List.length_drop] at hrl
  have HM := Lib.hid ((HL.out.below b0.out).more b0.out.size)
  unfold maxLen at hcm
  go_enter Tryd.func30, Tryd.ntmps30
  go_wp2
  generalize w.alloc (.cells #[.int .i64 0, .string ⟨#[]⟩, .int .i64 0, .int .i64 0] 33) = wn at *
  go_loop [7] (fun i => ∃ k : Nat, k ≤ l.length ∧ p ≤ k ∧ i = .int .i64 k ∧ Hid (k + run nameB (l.drop k) = p + run nameB (l.drop p))) (fun i => l.length - (intOf i).toNat)
  case atStart => exact ⟨p, by omega, Nat.le_refl _, rfl, rfl⟩
  case round =>
    obtain ⟨k, hk, hpk, rfl, HR⟩ := hrel
    by_cases hstop : k < l.length ∧ ∃ b, l[k]? = some b ∧ nameB b = true
    · obtain ⟨hlt, b, hg, hnb⟩ := hstop
      obtain ⟨a', b', he, hB, hg', hcell⟩ := HM.out.nat hlt
      injection he with he
      subst he
      obtain rfl : b' = b := by rw [hg] at hg'; simpa using hg'.symm
      have hb := byn_get HY.out hg
      have HH := Lib.hid (run_next hg hnb)
      have K1 := Lib.hid (refLetter b' wn hb)
      have K2 := Lib.hid (refDigit b' wn hb)
      have HNB : Hid ((letterB b' || digitB b' || decide (b' = 95)) = true) := hnb
      clear hg hg' hnb
      generalize letterB b' = x at *
      generalize digitB b' = y at *
      cases x
      · cases y
        · have h95 : ((b' : Int) == 95) = true := by have := HNB.out; simp at this; simp [this]
          go_wp2_with (first | (go_at_call 29; refine K1.out.mono ?_; rintro e w' ⟨rfl, rfl⟩) | (go_at_call 31; refine K2.out.mono ?_; rintro e w' ⟨rfl, rfl⟩))
          go_round
          case rel => exact ⟨k + 1, by omega, by omega, by go_num, by have h1 := HR.out; have h2 := HH.out; show _ = _; omega⟩
          case measure => simp [intOf]; omega
        · go_wp2_with (first | (go_at_call 29; refine K1.out.mono ?_; rintro e w' ⟨rfl, rfl⟩) | (go_at_call 31; refine K2.out.mono ?_; rintro e w' ⟨rfl, rfl⟩))
          go_round
          case rel => exact ⟨k + 1, by omega, by omega, by go_num, by have h1 := HR.out; have h2 := HH.out; show _ = _; omega⟩
          case measure => simp [intOf]; omega
      · go_wp2_with (first | (go_at_call 29; refine K1.out.mono ?_; rintro e w' ⟨rfl, rfl⟩) | (go_at_call 31; refine K2.out.mono ?_; rintro e w' ⟨rfl, rfl⟩))
        go_round
        case rel => exact ⟨k + 1, by omega, by omega, by go_num, by have h1 := HR.out; have h2 := HH.out; show _ = _; omega⟩
        case measure => simp [intOf]; omega
    · have hend : run nameB (l.drop k) = 0 := by
        rcases Nat.lt_or_ge k l.length with h | h
        · obtain ⟨b, hg⟩ : ∃ b, l[k]? = some b := ⟨_, List.getElem?_eq_getElem h⟩
          refine run_halt hg ?_
          cases hnb : nameB b with
          | false => rfl
          | true => exact absurd ⟨h, b, hg, hnb⟩ hstop
        · rw [List.drop_of_length_le h]
          rfl
      have hkn : k = p + run nameB (l.drop p) := by have := HR.out; omega
      have HW1 : Hid (isWord ((l.drop p).take (run nameB (l.drop p))) = true → nameT (l.drop p) = ⟨0, 4, (l.drop p).take (run nameB (l.drop p)), 0, run nameB (l.drop p)⟩) := nameT_word
      have HW2 : Hid (run nameB (l.drop p) > 16 → nameT (l.drop p) = bad 32) := nameT_long
      have HW3 : Hid (isWord ((l.drop p).take (run nameB (l.drop p))) = false → ¬ run nameB (l.drop p) > 16 → nameT (l.drop p) = ⟨0, 1, (l.drop p).take (run nameB (l.drop p)), 0, run nameB (l.drop p)⟩) := nameT_name
      have hcv := run_part HM.out (p := p) (n := run nameB (l.drop p)) hc (by omega)
      rw [if_neg hne, Option.map_some] at hcv
      have htl : ((l.drop p).take (run nameB (l.drop p))).length = run nameB (l.drop p) := by simp; omega
      have hsz := strN_size ((l.drop p).take (run nameB (l.drop p)))
      rw [htl] at hsz
      have K3 := Lib.hid (refWord ((l.drop p).take (run nameB (l.drop p))) wn (HY.out.sub fun x hx => List.mem_of_mem_drop (List.mem_of_mem_take hx)))
      clear HR htl hend
      generalize run nameB (l.drop p) = n at *
      generalize (l.drop p).take n = t at *
      subst hkn
      by_cases hlt : p + n < l.length
      · obtain ⟨a', b, he, hB, hg, hcell⟩ := HM.out.nat hlt
        injection he with he
        subst he
        have hb := byn_get HY.out hg
        have hnb : nameB b = false := by
          cases hnb : nameB b with
          | false => rfl
          | true => exact absurd ⟨hlt, b, hg, hnb⟩ hstop
        have K1 := Lib.hid (refLetter b wn hb)
        have K2 := Lib.hid (refDigit b wn hb)
        have hnb' : (letterB b || digitB b || decide (b = 95)) = false := hnb
        simp only [Bool.or_eq_false_iff, decide_eq_false_iff_not] at hnb'
        rw [hnb'.1.1] at K1
        rw [hnb'.1.2] at K2
        have h95 : ((b : Int) == 95) = false := by rw [beq_eq_false_iff_ne]; have := hnb'.2; omega
        clear hg hnb hnb' hstop
        go_wp2_with (first | (go_at_call 29; refine K1.out.mono ?_; rintro e w' ⟨rfl, rfl⟩) | (go_at_call 31; refine K2.out.mono ?_; rintro e w' ⟨rfl, rfl⟩) | (go_at_call 14; fail))
        refine K3.out.mono ?_
        rintro e w2 ⟨rfl, hb2⟩
        have HP := Lib.hid (reader_post b0.out hnew.out hb2)
        clear hb2 hcv
        cases hw : isWord t with
        | true =>
          have HX := Lib.hid (HW1.out hw)
          clear hw
          go_wp2_with (refine wpList_store4 rfl (.tmp 4) (.tmp 46) rfl rfl w.heap.size rfl _ _ _ _ rfl HP.out.1 rfl rfl rfl rfl ?_; intro w3 g1 g2 g3 g4)
          refine bodyPost_ret (ret_reader Tryd.results30 _ _ w.heap.size _ rfl g1 rfl) rfl ?_
          refine ⟨ret_eq ?_, HP.out.2.trans g3⟩
          rw [HX.out, readV_ok, okV]
          simp
        | false =>
          by_cases hn16 : n > 16
          · have HX := Lib.hid (HW2.out hn16)
            clear hw
            go_wp2_with (refine wpList_store4 rfl (.tmp 4) (.tmp 51) rfl rfl w.heap.size rfl _ _ _ _ rfl HP.out.1 rfl rfl rfl rfl ?_; intro w3 g1 g2 g3 g4)
            refine bodyPost_ret (ret_reader Tryd.results30 _ _ w.heap.size _ rfl g1 rfl) rfl ?_
            refine ⟨ret_eq ?_, HP.out.2.trans g3⟩
            rw [HX.out, readV_bad 32 p (by omega)]
            rfl
          · have HX := Lib.hid (HW3.out hw hn16)
            clear hw
            go_wp2_with (refine wpList_store4 rfl (.tmp 4) (.tmp 54) rfl rfl w.heap.size rfl _ _ _ _ rfl HP.out.1 rfl rfl rfl rfl ?_; intro w3 g1 g2 g3 g4)
            refine bodyPost_ret (ret_reader Tryd.results30 _ _ w.heap.size _ rfl g1 rfl) rfl ?_
            refine ⟨ret_eq ?_, HP.out.2.trans g3⟩
            rw [HX.out, readV_ok, okV]
            simp
      · have hge : l.length ≤ p + n := by omega
        have K1 : Hid True := trivial
        have K2 : Hid True := trivial
        clear hstop
        go_wp2_with (first | (go_at_call 29; refine K1.out.mono ?_; rintro e w' ⟨rfl, rfl⟩) | (go_at_call 31; refine K2.out.mono ?_; rintro e w' ⟨rfl, rfl⟩) | (go_at_call 14; fail))
        refine K3.out.mono ?_
        rintro e w2 ⟨rfl, hb2⟩
        have HP := Lib.hid (reader_post b0.out hnew.out hb2)
        clear hb2 hcv
        cases hw : isWord t with
        | true =>
          have HX := Lib.hid (HW1.out hw)
          clear hw
          go_wp2_with (refine wpList_store4 rfl (.tmp 4) (.tmp 46) rfl rfl w.heap.size rfl _ _ _ _ rfl HP.out.1 rfl rfl rfl rfl ?_; intro w3 g1 g2 g3 g4)
          refine bodyPost_ret (ret_reader Tryd.results30 _ _ w.heap.size _ rfl g1 rfl) rfl ?_
          refine ⟨ret_eq ?_, HP.out.2.trans g3⟩
          rw [HX.out, readV_ok, okV]
          simp
        | false =>
          by_cases hn16 : n > 16
          · have HX := Lib.hid (HW2.out hn16)
            clear hw
            go_wp2_with (refine wpList_store4 rfl (.tmp 4) (.tmp 51) rfl rfl w.heap.size rfl _ _ _ _ rfl HP.out.1 rfl rfl rfl rfl ?_; intro w3 g1 g2 g3 g4)
            refine bodyPost_ret (ret_reader Tryd.results30 _ _ w.heap.size _ rfl g1 rfl) rfl ?_
            refine ⟨ret_eq ?_, HP.out.2.trans g3⟩
            rw [HX.out, readV_bad 32 p (by omega)]
            rfl
          · have HX := Lib.hid (HW3.out hw hn16)
            clear hw
            go_wp2_with (refine wpList_store4 rfl (.tmp 4) (.tmp 54) rfl rfl w.heap.size rfl _ _ _ _ rfl HP.out.1 rfl rfl rfl rfl ?_; intro w3 g1 g2 g3 g4)
            refine bodyPost_ret (ret_reader Tryd.results30 _ _ w.heap.size _ rfl g1 rfl) rfl ?_
            refine ⟨ret_eq ?_, HP.out.2.trans g3⟩
            rw [HX.out, readV_ok, okV]
            simp
end Go.Proofs.YtdmjlgjnboofdaaDoor
