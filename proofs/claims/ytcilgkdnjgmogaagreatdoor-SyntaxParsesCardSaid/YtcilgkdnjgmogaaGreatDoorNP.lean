/- The document's own tests of bytes, its words, its blanks. -/
import Derived.Test.YtcilgkdnjgmogaaGreatDoorMB
namespace Go.Proofs.YtcilgkdnjgmogaaGreatDoor
section
open Go.RowKit
set_option maxRecDepth 100000
set_option linter.unusedSimpArgs false
theorem refDigit : Tells 119 digitB := by
 intro b w hb
 go_enter Tryz.func119, Tryz.ntmps119
 go_wp2
 all_goals
  go_ret
  refine ⟨ret_bool ?_, rfl⟩
  unfold digitB
  rw [Bool.eq_iff_iff]
  simp only [Bool.and_eq_true, decide_eq_true_eq, Bool.false_eq_true, false_iff]
  omega
theorem refLetter : Tells 117 letterB := by
 intro b w hb
 go_enter Tryz.func117, Tryz.ntmps117
 go_wp2
 all_goals
  go_ret
  refine ⟨ret_bool ?_, rfl⟩
  unfold letterB
  rw [Bool.eq_iff_iff]
  simp only [Bool.and_eq_true, decide_eq_true_eq, Bool.false_eq_true, false_iff]
  omega
set_option maxHeartbeats 400000 in
theorem refIn (s : List Nat) (L : List (List Nat)) (ad : Addr) (n c B : Nat) (w : World) (hy : Byn s) (hn : L.length = n) (hm : n ≤ 100) (hr : Row w B ad L) :
  Calls Tryz.prog 149 #[.slice (some ad) n c, .string (strN s)] w fun e w' => e = .returned (.bool (L.contains s)) ∧ w = w' := by
 have HR0 := Lib.hid hr
 have HY := Lib.hid hy
 have HS := Lib.hid hn
 clear hr hy hn
 go_enter Tryz.func149, Tryz.ntmps149
 go_wp2
 go_loop [5] (fun i => ∃ k : Nat, k ≤ n ∧ i = .int .i64 k ∧ Hid (s ∉ L.take k)) (fun i => n - (intOf i).toNat)
 case atStart => exact ⟨0, Nat.zero_le _, rfl, by simp [Hid]⟩
 case round =>
  obtain ⟨k, hk, rfl, HR⟩ := hrel
  by_cases hlt : k < n
  ·obtain ⟨x, h1⟩ : ∃ x, L[k]? = some x := ⟨_, List.getElem?_eq_getElem (by rw [HS.out]; exact hlt)⟩
   obtain ⟨h3, hcell⟩ := HR0.out.2 k x h1
   have H1 := Lib.hid h1
   clear h1
   have heq := strN_eq HY.out h3
   clear h3
   by_cases he : s = x
   ·have heq' := heq
    rw [decide_eq_true he] at heq
    have heq2 : ((strN x).toList == (strN s).toList) = true := by rw [he]; simp
    have HE := Lib.hid he
    clear he heq'
    go_wp2
    go_ret
    refine ⟨ret_bool ?_, rfl⟩
    rw [HE.out]
    simp [List.mem_of_getElem? H1.out]
   ·rw [decide_eq_false he] at heq
    have heq2 : ((strN x).toList == (strN s).toList) = false := by
     rw [beq_eq_false_iff_ne] at heq ⊢
     exact fun h => heq h.symm
    have HE := Lib.hid he
    clear he
    go_wp2
    go_round
    case rel =>
     refine ⟨k + 1, by omega, by go_num, ?_⟩
     have h1 := HR.out
     have h2 := HE.out
     show s ∉ L.take (k + 1)
     rw [List.take_add_one, H1.out]
     simp [h1, h2]
    case measure => simp [intOf]; omega
  ·obtain rfl : k = n := by omega
   go_wp2
   go_ret
   refine ⟨ret_bool ?_, rfl⟩
   have h1 := HR.out
   rw [List.take_of_length_le (by rw [HS.out]; omega)] at h1
   rw [eq_comm]
   simpa using h1
theorem refWords (w : World) : Calls Tryz.prog 185 #[] w fun e w' => e = .returned (.slice (some ⟨w.heap.size, 0, none⟩) 17 17) ∧ w' = w.alloc (.cells (wordsN.map strV).toArray 9) := by
 go_enter Tryz.func185, Tryz.ntmps185
 go_wp2
 go_ret
 exact ⟨rfl, by with_unfolding_all rfl⟩
theorem refWord (s : List Nat) (w : World) (hy : Byn s) :
  Calls Tryz.prog 148 #[.string (strN s)] w fun e w' => e = .returned (.bool (isWord s)) ∧ Below w.heap.size w w' := by
 have HY := Lib.hid hy
 have b0 := Lib.hid ((Below.refl w.heap.size w).alloc (Nat.le_refl _) (.cells (wordsN.map strV).toArray 9))
 have K1 := Lib.hid (refWords w)
 have K2 := Lib.hid (refIn s wordsN ⟨w.heap.size, 0, none⟩ 17 17 _ (w.alloc (.cells (wordsN.map strV).toArray 9)) hy rfl (by omega) (words_row w))
 have HW : Hid (isWord s = wordsN.contains s) := rfl
 generalize w.alloc (.cells (wordsN.map strV).toArray 9) = wn at *
 generalize wordsN.contains s = q at *
 clear hy
 go_enter Tryz.func148, Tryz.ntmps148
 go_wp2_with fail
 refine K1.out.mono ?_
 rintro e w1 ⟨rfl, rfl⟩
 go_wp2_with fail
 refine K2.out.mono ?_
 rintro e w2 ⟨rfl, rfl⟩
 go_wp2
 go_ret
 exact ⟨ret_bool HW.out.symm, b0.out⟩
set_option maxHeartbeats 1600000 in
theorem blanks (A : Option Addr) (l : List Nat) (c at0 B : Nat) (w : World) (hc : l.length ≤ c) (hcm : c ≤ maxLen) (hl : Lies w B A c (bts l)) (hy : Byn l) (ha : at0 ≤ l.length) :
  Calls Tryz.prog 65 #[.slice A l.length c, .int .i64 at0] w fun e w' => e = .returned (.int .i64 (skip l at0 : Nat)) ∧ w = w' := by
 have HL := Lib.hid hl
 have HY := Lib.hid hy
 clear hl hy
 unfold maxLen at hcm
 go_enter Tryz.func65, Tryz.ntmps65
 go_wp2
 go_loop [1] (fun i => ∃ (k : Nat), k ≤ l.length ∧ i = .int .i64 k ∧ Hid (k + white false (l.drop k) = skip l at0)) (fun i => l.length - (intOf i).toNat)
 case atStart => exact ⟨at0, ha, rfl, rfl⟩
 case round =>
  obtain ⟨k, hk, rfl, HR⟩ := hrel
  by_cases hlt : k < l.length
  ·obtain ⟨ad, b, rfl, hB, hg, hcell⟩ := HL.out.nat hlt
   have hb := byn_get HY.out hg
   have HG := Lib.hid hg
   clear hg
   by_cases h35 : b = 35
   ·subst h35
    have H1 := Lib.hid (white_remark HG.out)
    go_wp2
    go_loop [1] (fun i => ∃ (j : Nat), k ≤ j ∧ j ≤ l.length ∧ i = .int .i64 j ∧ Hid (j + white true (l.drop j) = skip l at0)) (fun i => l.length - (intOf i).toNat)
    case atStart => exact ⟨k, Nat.le_refl _, hk, rfl, by have h1 := H1.out; have h2 := HR.out; show _ = _; omega⟩
    case round =>
     obtain ⟨j, hkj, hj, rfl, HJ⟩ := hrel
     by_cases hjl : j < l.length
     ·obtain ⟨ad', x, he, hB', hg, hcellj⟩ := HL.out.nat hjl
      injection he with he
      subst he
      have hx := byn_get HY.out hg
      have HGj := Lib.hid hg
      clear hg
      by_cases h10 : x = 10
      ·subst h10
       have H2 := Lib.hid (white_line HGj.out)
       have hne : k < j := by
        rcases Nat.lt_or_ge k j with h | h
        ·exact h
        ·have : k = j := by omega
         subst this
         have h3 := HG.out.symm.trans HGj.out
         simp at h3
       go_wp2
       go_round
       case rel => exact ⟨j, hj, rfl, by have h1 := H2.out; have h2 := HJ.out; show _ = _; omega⟩
       case measure => simp [intOf]; omega
      ·have H2 := Lib.hid (white_in HGj.out h10)
       go_wp2
       go_round
       case rel => exact ⟨j + 1, by omega, by omega, by go_num, by have h1 := H2.out; have h2 := HJ.out; show _ = _; omega⟩
       case measure => simp [intOf]; omega
     ·obtain rfl : j = l.length := by omega
      go_wp2
      go_round
      case rel => exact ⟨l.length, Nat.le_refl _, rfl, by have h1 := HJ.out; rw [white_end] at h1; show _ = _; rw [white_end]; exact h1⟩
      case measure => simp [intOf]; omega
   ·by_cases hbl : blankB b = true
    ·have H2 := Lib.hid (white_blank HG.out h35 hbl)
     have hcases : b = 9 ∨ b = 10 ∨ b = 13 ∨ b = 32 := by simpa [blankB, or_assoc] using hbl
     clear hbl
     rcases hcases with rfl | rfl | rfl | rfl
     all_goals
      go_wp2
      go_round
      case rel => exact ⟨k + 1, by omega, by go_num, by have h1 := H2.out; have h2 := HR.out; show _ = _; omega⟩
      case measure => simp [intOf]; omega
    ·have H2 := Lib.hid (white_no HG.out h35 (by simpa using hbl))
     have hcases : ¬ b = 9 ∧ ¬ b = 10 ∧ ¬ b = 13 ∧ ¬ b = 32 := by simpa [blankB, not_or, and_assoc] using hbl
     have e0 : ((b : Int) == 35) = false := by rw [beq_eq_false_iff_ne]; omega
     have e1 : ((b : Int) != 9) = true := by rw [bne_iff_ne]; omega
     have e2 : ((b : Int) != 10) = true := by rw [bne_iff_ne]; omega
     have e3 : ((b : Int) != 13) = true := by rw [bne_iff_ne]; omega
     have e4 : ((b : Int) != 32) = true := by rw [bne_iff_ne]; omega
     clear hbl hcases h35
     go_wp2
     go_ret
     exact ⟨ret_int (by have h1 := HR.out; have h2 := H2.out; omega), rfl⟩
  ·obtain rfl : k = l.length := by omega
   go_wp2
   go_ret
   refine ⟨ret_int ?_, rfl⟩
   have h1 := HR.out
   rw [white_end] at h1
   omega
end
section
open Go.RowKit
theorem isWord_short {s : List Nat} (h : isWord s = true) : s.length ≤ 6 := by
 have h1 : s ∈ wordsN := by simpa [isWord] using h
 have h2 : ∀ s ∈ wordsN, s.length ≤ 6 := by decide
 exact h2 s h1
theorem nameT_word {r : List Nat} (h : isWord (r.take (run nameB r)) = true) : nameT r = ⟨0, 4, r.take (run nameB r), 0, run nameB r⟩ := by
 have h1 := isWord_short h
 have h2 := run_le nameB r
 rw [List.length_take] at h1
 unfold nameT
 rw [if_neg (by omega), h]
 rfl
theorem nameT_long {r : List Nat} (hn : run nameB r > 16) : nameT r = bad 32 := by
 unfold nameT
 rw [if_pos hn]
theorem nameT_name {r : List Nat} (h : isWord (r.take (run nameB r)) = false) (hn : ¬ run nameB r > 16) : nameT r = ⟨0, 1, r.take (run nameB r), 0, run nameB r⟩ := by
 unfold nameT
 rw [if_neg hn, h]
 rfl
set_option maxRecDepth 100000 in
set_option maxHeartbeats 1600000 in
theorem refName (A : Option Addr) (l : List Nat) (c p : Nat) (w : World) (hc : l.length ≤ c) (hcm : c ≤ maxLen) (hl : Lies w w.heap.size A c (bts l)) (hy : Byn l) (hp : p < l.length) :
  Calls Tryz.prog 118 #[.slice A l.length c, .int .i64 p] w fun e w' => e = .returned (readV (nameT (l.drop p)) p) ∧ Below w.heap.size w w' := by
 have HL := Lib.hid hl
 have HY := Lib.hid hy
 clear hl hy
 obtain ⟨ad, _, rfl, _, _, _⟩ := HL.out.nat hp
 have hne : ¬ c = p := by omega
 have b0 := Lib.hid (below_alloc w (.cells #[.int .i64 0, .string ⟨#[]⟩, .int .i64 0, .int .i64 0] 134))
 have hnew := Lib.hid (heap_alloc_new w (.cells #[.int .i64 0, .string ⟨#[]⟩, .int .i64 0, .int .i64 0] 134))
 have hrl := run_le nameB (l.drop p)
 rw [List.length_drop] at hrl
 have HM := Lib.hid ((HL.out.below b0.out).more b0.out.size)
 unfold maxLen at hcm
 go_enter Tryz.func118, Tryz.ntmps118
 go_wp2
 generalize w.alloc (.cells #[.int .i64 0, .string ⟨#[]⟩, .int .i64 0, .int .i64 0] 134) = wn at *
 go_loop [7] (fun i => ∃ k : Nat, k ≤ l.length ∧ p ≤ k ∧ i = .int .i64 k ∧ Hid (k + run nameB (l.drop k) = p + run nameB (l.drop p))) (fun i => l.length - (intOf i).toNat)
 case atStart => exact ⟨p, by omega, Nat.le_refl _, rfl, rfl⟩
 case round =>
  obtain ⟨k, hk, hpk, rfl, HR⟩ := hrel
  by_cases hstop : k < l.length ∧ ∃ b, l[k]? = some b ∧ nameB b = true
  ·obtain ⟨hlt, b, hg, hnb⟩ := hstop
   obtain ⟨a', b', he, hB, hg', hcell⟩ := HM.out.nat hlt
   injection he with he
   subst he
   obtain rfl : b' = b := by rw [hg] at hg'; simpa using hg'.symm
   have hb := byn_get HY.out hg
   have HH := Lib.hid (run_next hg hnb)
   have K1 := Lib.hid (refLetter b' wn hb)
   have K2 := Lib.hid (refDigit b' wn hb)
   have HNB : Hid ((letterB b' || digitB b' || decide (b' = 95)) = true) := hnb
   clear hg hg' hnb
   generalize letterB b' = x at *
   generalize digitB b' = y at *
   cases x
   ·cases y
    ·have h95 : ((b' : Int) == 95) = true := by have := HNB.out; simp at this; simp [this]
     go_wp2_with (first | (go_at_call 117; refine K1.out.mono ?_; rintro e w' ⟨rfl, rfl⟩) | (go_at_call 119; refine K2.out.mono ?_; rintro e w' ⟨rfl, rfl⟩))
     go_round
     case rel => exact ⟨k + 1, by omega, by omega, by go_num, by have h1 := HR.out; have h2 := HH.out; show _ = _; omega⟩
     case measure => simp [intOf]; omega
    ·go_wp2_with (first | (go_at_call 117; refine K1.out.mono ?_; rintro e w' ⟨rfl, rfl⟩) | (go_at_call 119; refine K2.out.mono ?_; rintro e w' ⟨rfl, rfl⟩))
     go_round
     case rel => exact ⟨k + 1, by omega, by omega, by go_num, by have h1 := HR.out; have h2 := HH.out; show _ = _; omega⟩
     case measure => simp [intOf]; omega
   ·go_wp2_with (first | (go_at_call 117; refine K1.out.mono ?_; rintro e w' ⟨rfl, rfl⟩) | (go_at_call 119; refine K2.out.mono ?_; rintro e w' ⟨rfl, rfl⟩))
    go_round
    case rel => exact ⟨k + 1, by omega, by omega, by go_num, by have h1 := HR.out; have h2 := HH.out; show _ = _; omega⟩
    case measure => simp [intOf]; omega
  ·have hend : run nameB (l.drop k) = 0 := by
    rcases Nat.lt_or_ge k l.length with h | h
    ·obtain ⟨b, hg⟩ : ∃ b, l[k]? = some b := ⟨_, List.getElem?_eq_getElem h⟩
     refine run_halt hg ?_
     cases hnb : nameB b with
     | false => rfl
     | true => exact absurd ⟨h, b, hg, hnb⟩ hstop
    ·rw [List.drop_of_length_le h]
     rfl
   have hkn : k = p + run nameB (l.drop p) := by have := HR.out; omega
   have HW1 : Hid (isWord ((l.drop p).take (run nameB (l.drop p))) = true → nameT (l.drop p) = ⟨0, 4, (l.drop p).take (run nameB (l.drop p)), 0, run nameB (l.drop p)⟩) := nameT_word
   have HW2 : Hid (run nameB (l.drop p) > 16 → nameT (l.drop p) = bad 32) := nameT_long
   have HW3 : Hid (isWord ((l.drop p).take (run nameB (l.drop p))) = false → ¬ run nameB (l.drop p) > 16 → nameT (l.drop p) = ⟨0, 1, (l.drop p).take (run nameB (l.drop p)), 0, run nameB (l.drop p)⟩) := nameT_name
   have hcv := run_part HM.out (p := p) (n := run nameB (l.drop p)) hc (by omega)
   rw [if_neg hne, Option.map_some] at hcv
   have htl : ((l.drop p).take (run nameB (l.drop p))).length = run nameB (l.drop p) := by simp; omega
   have hsz := strN_size ((l.drop p).take (run nameB (l.drop p)))
   rw [htl] at hsz
   have K3 := Lib.hid (refWord ((l.drop p).take (run nameB (l.drop p))) wn (HY.out.sub fun x hx => List.mem_of_mem_drop (List.mem_of_mem_take hx)))
   clear HR htl hend
   generalize run nameB (l.drop p) = n at *
   generalize (l.drop p).take n = t at *
   subst hkn
   by_cases hlt : p + n < l.length
   ·obtain ⟨a', b, he, hB, hg, hcell⟩ := HM.out.nat hlt
    injection he with he
    subst he
    have hb := byn_get HY.out hg
    have hnb : nameB b = false := by
     cases hnb : nameB b with
     | false => rfl
     | true => exact absurd ⟨hlt, b, hg, hnb⟩ hstop
    have K1 := Lib.hid (refLetter b wn hb)
    have K2 := Lib.hid (refDigit b wn hb)
    have hnb' : (letterB b || digitB b || decide (b = 95)) = false := hnb
    simp only [Bool.or_eq_false_iff, decide_eq_false_iff_not] at hnb'
    rw [hnb'.1.1] at K1
    rw [hnb'.1.2] at K2
    have h95 : ((b : Int) == 95) = false := by rw [beq_eq_false_iff_ne]; have := hnb'.2; omega
    clear hg hnb hnb' hstop
    go_wp2_with (first | (go_at_call 117; refine K1.out.mono ?_; rintro e w' ⟨rfl, rfl⟩) | (go_at_call 119; refine K2.out.mono ?_; rintro e w' ⟨rfl, rfl⟩) | (go_at_call 148; fail))
    refine K3.out.mono ?_
    rintro e w2 ⟨rfl, hb2⟩
    have HP := Lib.hid (reader_post b0.out hnew.out hb2)
    clear hb2 hcv
    cases hw : isWord t with
    | true =>
     have HX := Lib.hid (HW1.out hw)
     clear hw
     go_wp2_with (refine wpList_store4 rfl (.tmp 4) (.tmp 46) rfl rfl w.heap.size rfl _ _ _ _ rfl HP.out.1 rfl rfl rfl rfl ?_; intro w3 g1 g2 g3 g4)
     refine bodyPost_ret (ret_reader Tryz.results118 _ _ w.heap.size _ rfl g1 rfl) rfl ?_
     refine ⟨ret_eq ?_, HP.out.2.trans g3⟩
     rw [HX.out, readV_ok, okV]
     simp
    | false =>
     by_cases hn16 : n > 16
     ·have HX := Lib.hid (HW2.out hn16)
      clear hw
      go_wp2_with (refine wpList_store4 rfl (.tmp 4) (.tmp 51) rfl rfl w.heap.size rfl _ _ _ _ rfl HP.out.1 rfl rfl rfl rfl ?_; intro w3 g1 g2 g3 g4)
      refine bodyPost_ret (ret_reader Tryz.results118 _ _ w.heap.size _ rfl g1 rfl) rfl ?_
      refine ⟨ret_eq ?_, HP.out.2.trans g3⟩
      rw [HX.out, readV_bad 32 p (by omega)]
      rfl
     ·have HX := Lib.hid (HW3.out hw hn16)
      clear hw
      go_wp2_with (refine wpList_store4 rfl (.tmp 4) (.tmp 54) rfl rfl w.heap.size rfl _ _ _ _ rfl HP.out.1 rfl rfl rfl rfl ?_; intro w3 g1 g2 g3 g4)
      refine bodyPost_ret (ret_reader Tryz.results118 _ _ w.heap.size _ rfl g1 rfl) rfl ?_
      refine ⟨ret_eq ?_, HP.out.2.trans g3⟩
      rw [HX.out, readV_ok, okV]
      simp
   ·have hge : l.length ≤ p + n := by omega
    have K1 : Hid True := trivial
    have K2 : Hid True := trivial
    clear hstop
    go_wp2_with (first | (go_at_call 117; refine K1.out.mono ?_; rintro e w' ⟨rfl, rfl⟩) | (go_at_call 119; refine K2.out.mono ?_; rintro e w' ⟨rfl, rfl⟩) | (go_at_call 148; fail))
    refine K3.out.mono ?_
    rintro e w2 ⟨rfl, hb2⟩
    have HP := Lib.hid (reader_post b0.out hnew.out hb2)
    clear hb2 hcv
    cases hw : isWord t with
    | true =>
     have HX := Lib.hid (HW1.out hw)
     clear hw
     go_wp2_with (refine wpList_store4 rfl (.tmp 4) (.tmp 46) rfl rfl w.heap.size rfl _ _ _ _ rfl HP.out.1 rfl rfl rfl rfl ?_; intro w3 g1 g2 g3 g4)
     refine bodyPost_ret (ret_reader Tryz.results118 _ _ w.heap.size _ rfl g1 rfl) rfl ?_
     refine ⟨ret_eq ?_, HP.out.2.trans g3⟩
     rw [HX.out, readV_ok, okV]
     simp
    | false =>
     by_cases hn16 : n > 16
     ·have HX := Lib.hid (HW2.out hn16)
      clear hw
      go_wp2_with (refine wpList_store4 rfl (.tmp 4) (.tmp 51) rfl rfl w.heap.size rfl _ _ _ _ rfl HP.out.1 rfl rfl rfl rfl ?_; intro w3 g1 g2 g3 g4)
      refine bodyPost_ret (ret_reader Tryz.results118 _ _ w.heap.size _ rfl g1 rfl) rfl ?_
      refine ⟨ret_eq ?_, HP.out.2.trans g3⟩
      rw [HX.out, readV_bad 32 p (by omega)]
      rfl
     ·have HX := Lib.hid (HW3.out hw hn16)
      clear hw
      go_wp2_with (refine wpList_store4 rfl (.tmp 4) (.tmp 54) rfl rfl w.heap.size rfl _ _ _ _ rfl HP.out.1 rfl rfl rfl rfl ?_; intro w3 g1 g2 g3 g4)
      refine bodyPost_ret (ret_reader Tryz.results118 _ _ w.heap.size _ rfl g1 rfl) rfl ?_
      refine ⟨ret_eq ?_, HP.out.2.trans g3⟩
      rw [HX.out, readV_ok, okV]
      simp
end
section
open Go.RowKit
def valAt (l : List Nat) (k v : Nat) : Option Nat := value ((l.drop k).take (run digitB (l.drop k))) v
theorem valAt_big {l : List Nat} {k b v : Nat} (h : l[k]? = some b) (hd : digitB b = true) (hv : v > (9223372036854775807 - (b - 48)) / 10) : valAt l k v = none := by
 unfold valAt
 rw [run_next h hd]
 obtain ⟨hk, rfl⟩ := List.getElem?_eq_some_iff.1 h
 rw [List.drop_eq_getElem_cons hk, List.take_succ_cons, value, if_pos hv]
theorem valAt_next {l : List Nat} {k b v : Nat} (h : l[k]? = some b) (hd : digitB b = true) (hv : ¬ v > (9223372036854775807 - (b - 48)) / 10) : valAt l k v = valAt l (k + 1) (v * 10 + (b - 48)) := by
 unfold valAt
 rw [run_next h hd]
 obtain ⟨hk, rfl⟩ := List.getElem?_eq_some_iff.1 h
 rw [List.drop_eq_getElem_cons hk, List.take_succ_cons, value, if_neg hv]
theorem valAt_end {l : List Nat} {k v : Nat} (h : run digitB (l.drop k) = 0) : valAt l k v = some v := by
 unfold valAt
 rw [h, List.take_zero]
 rfl
set_option maxRecDepth 100000 in
set_option maxHeartbeats 1600000 in
theorem refNumber (A : Option Addr) (l : List Nat) (c p : Nat) (w : World) (hc : l.length ≤ c) (hcm : c ≤ maxLen) (hl : Lies w w.heap.size A c (bts l)) (hy : Byn l) (hp : p < l.length) :
  Calls Tryz.prog 120 #[.slice A l.length c, .int .i64 p] w fun e w' => e = .returned (readV (numT (l.drop p)) p) ∧ Below w.heap.size w w' := by
 have HL := Lib.hid hl
 have HY := Lib.hid hy
 clear hl hy
 obtain ⟨ad, _, rfl, _, _, _⟩ := HL.out.nat hp
 have b0 := Lib.hid (below_alloc w (.cells #[.int .i64 0, .string ⟨#[]⟩, .int .i64 0, .int .i64 0] 134))
 have hnew := Lib.hid (heap_alloc_new w (.cells #[.int .i64 0, .string ⟨#[]⟩, .int .i64 0, .int .i64 0] 134))
 have HM := Lib.hid ((HL.out.below b0.out).more b0.out.size)
 have HS : Hid (∀ v, valAt l p 0 = some v → numT (l.drop p) = ⟨0, 2, [], v, run digitB (l.drop p)⟩) := fun v h => numT_some h
 have HN : Hid (valAt l p 0 = none → numT (l.drop p) = bad 32) := fun h => numT_none h
 have hth := Lib.hid (there_of hnew.out)
 unfold maxLen at hcm
 go_enter Tryz.func120, Tryz.ntmps120
 go_wp2
 generalize w.alloc (.cells #[.int .i64 0, .string ⟨#[]⟩, .int .i64 0, .int .i64 0] 134) = wn at *
 go_loop [7, 8] (fun x i => ∃ k v : Nat, k ≤ l.length ∧ p ≤ k ∧ v ≤ 9223372036854775807 ∧ i = .int .i64 k ∧ x = .int .i64 v ∧ Hid (k + run digitB (l.drop k) = p + run digitB (l.drop p)) ∧ Hid (valAt l k v = valAt l p 0)) (fun _ i => l.length - (intOf i).toNat)
 case atStart => exact ⟨p, 0, by omega, Nat.le_refl _, Nat.zero_le _, rfl, rfl, rfl, rfl⟩
 case round =>
  obtain ⟨k, v, hk, hpk, hv, rfl, rfl, HR, HV⟩ := hrel
  by_cases hlt : k < l.length
  ·obtain ⟨a', b, he, hB, hg, hcell⟩ := HM.out.nat hlt
   injection he with he
   subst he
   have hb := byn_get HY.out hg
   have K1 := Lib.hid (refDigit b wn hb)
   cases hd : digitB b with
   | true =>
    rw [hd] at K1
    have hbr := digit_range hd
    have HH := Lib.hid (run_next hg hd)
    have HG := Lib.hid hg
    have HD := Lib.hid hd
    clear hg hd
    obtain ⟨d, rfl⟩ : ∃ d, b = d + 48 := ⟨b - 48, by omega⟩
    have ecast : ((d + 48 : Nat) : Int) = (d : Int) + 48 := by simp
    rw [ecast] at hcell K1
    by_cases hbig : v > (9223372036854775807 - (d + 48 - 48)) / 10
    ·have HX := Lib.hid (valAt_big HG.out HD.out hbig)
     clear ecast
     go_wp2_with (first | (go_at_call 119; refine K1.out.mono ?_; rintro e w' ⟨rfl, rfl⟩) | (refine wpList_store4 rfl (.tmp 4) (.tmp 33) rfl rfl w.heap.size rfl _ _ _ _ rfl hth.out rfl rfl rfl rfl ?_; intro w3 g1 g2 g3 g4))
     refine bodyPost_ret (ret_reader Tryz.results120 _ _ w.heap.size _ rfl g1 rfl) rfl ?_
     refine ⟨ret_eq ?_, b0.out.trans g3⟩
     rw [HN.out (HV.out.symm.trans HX.out), readV_bad 32 p (by omega)]
     rfl
    ·have HX := Lib.hid (valAt_next HG.out HD.out hbig)
     clear ecast
     go_wp2_with (go_at_call 119; refine K1.out.mono ?_; rintro e w' ⟨rfl, rfl⟩)
     go_round
     case rel => exact ⟨k + 1, v * 10 + d, by omega, by omega, by omega, by go_num, by go_num, by have h1 := HR.out; have h2 := HH.out; show _ = _; omega, by have h1 := HX.out; rw [Nat.add_sub_cancel] at h1; exact h1.symm.trans HV.out⟩
     case measure => simp [intOf]; omega
   | false =>
    rw [hd] at K1
    have hr0 := run_halt hg hd
    have HX := Lib.hid (HS.out v (HV.out.symm.trans (valAt_end hr0)))
    have HK : Hid (p + run digitB (l.drop p) = k) := by have := HR.out; show _ = _; omega
    clear hg hd hr0
    go_wp2_with (first | (go_at_call 119; refine K1.out.mono ?_; rintro e w' ⟨rfl, rfl⟩) | (refine wpList_store4 rfl (.tmp 4) (.tmp 42) rfl rfl w.heap.size rfl _ _ _ _ rfl hth.out rfl rfl rfl rfl ?_; intro w3 g1 g2 g3 g4))
    refine bodyPost_ret (ret_reader Tryz.results120 _ _ w.heap.size _ rfl g1 rfl) rfl ?_
    refine ⟨ret_eq ?_, b0.out.trans g3⟩
    rw [HX.out, readV_ok, HK.out]
    rfl
  ·have hr0 : run digitB (l.drop k) = 0 := by rw [List.drop_of_length_le (by omega)]; rfl
   have HX := Lib.hid (HS.out v (HV.out.symm.trans (valAt_end hr0)))
   have HK : Hid (p + run digitB (l.drop p) = k) := by have := HR.out; show _ = _; omega
   clear hr0
   go_wp2_with (refine wpList_store4 rfl (.tmp 4) (.tmp 42) rfl rfl w.heap.size rfl _ _ _ _ rfl hth.out rfl rfl rfl rfl ?_; intro w3 g1 g2 g3 g4)
   refine bodyPost_ret (ret_reader Tryz.results120 _ _ w.heap.size _ rfl g1 rfl) rfl ?_
   refine ⟨ret_eq ?_, b0.out.trans g3⟩
   rw [HX.out, readV_ok, HK.out]
   rfl
end
section
open Go.RowKit
theorem text_range {b : Nat} (h : textB b = true) : 32 ≤ b ∧ b ≤ 126 ∧ b ≠ 34 ∧ b ≠ 92 := by
 simp only [textB, Bool.and_eq_true, decide_eq_true_eq] at h
 omega
theorem text_ways {b : Nat} (h : textB b = false) : b < 32 ∨ 126 < b ∨ b = 34 ∨ b = 92 := by
 rw [← Bool.not_eq_true] at h
 simp only [textB, Bool.and_eq_true, decide_eq_true_eq] at h
 omega
set_option maxRecDepth 100000 in
set_option maxHeartbeats 3200000 in
theorem refText (A : Option Addr) (l : List Nat) (c p : Nat) (w : World) (hc : l.length ≤ c) (hcm : c ≤ maxLen) (hl : Lies w w.heap.size A c (bts l)) (hy : Byn l) (hp : p < l.length) :
  Calls Tryz.prog 121 #[.slice A l.length c, .int .i64 p] w fun e w' => e = .returned (readV (textT (l.drop p)) p) ∧ Below w.heap.size w w' := by
 have HL := Lib.hid hl
 have HY := Lib.hid hy
 clear hl hy
 obtain ⟨ad, _, rfl, _, _, _⟩ := HL.out.nat hp
 have b0 := Lib.hid (below_alloc w (.cells #[.int .i64 0, .string ⟨#[]⟩, .int .i64 0, .int .i64 0] 134))
 have hnew := Lib.hid (heap_alloc_new w (.cells #[.int .i64 0, .string ⟨#[]⟩, .int .i64 0, .int .i64 0] 134))
 have HM := Lib.hid ((HL.out.below b0.out).more b0.out.size)
 have hth := Lib.hid (there_of hnew.out)
 have H1 : Hid (¬ l[p + 1 + run textB (l.drop (p + 1))]? = some 34 → textT (l.drop p) = bad 31) := textT_open
 have H2 : Hid (l[p + 1 + run textB (l.drop (p + 1))]? = some 34 → run textB (l.drop (p + 1)) > 64 → textT (l.drop p) = bad 32) := textT_long
 have H3 : Hid (l[p + 1 + run textB (l.drop (p + 1))]? = some 34 → ¬ run textB (l.drop (p + 1)) > 64 → textT (l.drop p) = ⟨0, 3, (l.drop (p + 1)).take (run textB (l.drop (p + 1))), 0, run textB (l.drop (p + 1)) + 2⟩) := textT_ok
 unfold maxLen at hcm
 go_enter Tryz.func121, Tryz.ntmps121
 go_wp2
 generalize w.alloc (.cells #[.int .i64 0, .string ⟨#[]⟩, .int .i64 0, .int .i64 0] 134) = wn at *
 go_loop [7] (fun i => ∃ k : Nat, k ≤ l.length ∧ p + 1 ≤ k ∧ i = .int .i64 k ∧ Hid (k + run textB (l.drop k) = p + 1 + run textB (l.drop (p + 1)))) (fun i => l.length - (intOf i).toNat)
 case atStart => exact ⟨p + 1, by omega, Nat.le_refl _, by go_num, rfl⟩
 case round =>
  obtain ⟨k, hk, hpk, rfl, HR⟩ := hrel
  by_cases hlt : k < l.length
  ·obtain ⟨a', b, he, hB, hg, hcell⟩ := HM.out.nat hlt
   injection he with he
   subst he
   have hb := byn_get HY.out hg
   cases hd : textB b with
   | true =>
    have HH := Lib.hid (run_next hg hd)
    obtain ⟨r1, r2, r3, r4⟩ := text_range hd
    have e34 : ((b : Int) != 34) = true := by rw [bne_iff_ne]; omega
    have e92 : ((b : Int) != 92) = true := by rw [bne_iff_ne]; omega
    clear hg hd r3 r4
    go_wp2
    go_round
    case rel => exact ⟨k + 1, by omega, by omega, by go_num, by have h1 := HR.out; have h2 := HH.out; show _ = _; omega⟩
    case measure => simp [intOf]; omega
   | false =>
    have hr0 := run_halt hg hd
    have hkn : p + 1 + run textB (l.drop (p + 1)) = k := by have := HR.out; omega
    have hways := text_ways hd
    by_cases h34 : b = 34
    ·have hq : l[p + 1 + run textB (l.drop (p + 1))]? = some 34 := by rw [hkn, hg, h34]
     have hrl := run_le textB (l.drop (p + 1))
     rw [List.length_drop] at hrl
     have hcv := run_part HM.out (p := p + 1) (n := run textB (l.drop (p + 1))) hc (by omega)
     rw [if_neg (by omega), Option.map_some, addr_succ] at hcv
     have G2 := Lib.hid (H2.out hq)
     have G3 := Lib.hid (H3.out hq)
     clear H1 H2 H3 hq hr0 hd hways HR hg
     generalize run textB (l.drop (p + 1)) = n at *
     generalize (l.drop (p + 1)).take n = t at *
     subst hkn
     subst h34
     by_cases h64 : n > 64
     ·have HX := Lib.hid (G2.out h64)
      clear hcv
      go_wp2_with (refine wpList_store4 rfl (.tmp 4) (.tmp 61) rfl rfl w.heap.size rfl _ _ _ _ rfl hth.out rfl rfl rfl rfl ?_; intro w3 g1 g2 g3 g4)
      refine bodyPost_ret (ret_reader Tryz.results121 _ _ w.heap.size _ rfl g1 rfl) rfl ?_
      refine ⟨ret_eq ?_, b0.out.trans g3⟩
      rw [HX.out, readV_bad 32 p (by omega)]
      rfl
     ·have HX := Lib.hid (G3.out h64)
      go_wp2_with (refine wpList_store4 rfl (.tmp 4) (.tmp 69) rfl rfl w.heap.size rfl _ _ _ _ rfl hth.out rfl rfl rfl rfl ?_; intro w3 g1 g2 g3 g4)
      refine bodyPost_ret (ret_reader Tryz.results121 _ _ w.heap.size _ rfl g1 rfl) rfl ?_
      refine ⟨ret_eq ?_, b0.out.trans g3⟩
      rw [HX.out, readV_ok, okV]
      simp
      omega
    ·have HX := Lib.hid (H1.out (by rw [hkn, hg]; simpa using h34))
     have e34 : ((b : Int) != 34) = true := by rw [bne_iff_ne]; omega
     have hw3 : b < 32 ∨ 126 < b ∨ (32 ≤ b ∧ b ≤ 126 ∧ ((b : Int) != 92) = false) := by
      rcases hways with h | h | h | h
      ·exact .inl h
      ·exact .inr (.inl h)
      ·exact absurd h h34
      ·subst h
       exact .inr (.inr ⟨by omega, by omega, rfl⟩)
     clear hways hg hd hr0 hkn h34 H1 H2 H3
     rcases hw3 with q1 | q1 | ⟨q1, q2, q3⟩
     all_goals
      go_wp2_with (refine wpList_store4 rfl (.tmp 4) (.tmp 55) rfl rfl w.heap.size rfl _ _ _ _ rfl hth.out rfl rfl rfl rfl ?_; intro w3 g1 g2 g3 g4)
      refine bodyPost_ret (ret_reader Tryz.results121 _ _ w.heap.size _ rfl g1 rfl) rfl ?_
      refine ⟨ret_eq ?_, b0.out.trans g3⟩
      rw [HX.out, readV_bad 31 p (by omega)]
      rfl
  ·have hr0 : run textB (l.drop k) = 0 := by rw [List.drop_of_length_le (by omega)]; rfl
   have hkn : p + 1 + run textB (l.drop (p + 1)) = k := by have := HR.out; omega
   have HX := Lib.hid (H1.out (by rw [hkn, List.getElem?_eq_none (by omega)]; simp))
   clear hr0 hkn H1 H2 H3
   go_wp2_with (refine wpList_store4 rfl (.tmp 4) (.tmp 55) rfl rfl w.heap.size rfl _ _ _ _ rfl hth.out rfl rfl rfl rfl ?_; intro w3 g1 g2 g3 g4)
   refine bodyPost_ret (ret_reader Tryz.results121 _ _ w.heap.size _ rfl g1 rfl) rfl ?_
   refine ⟨ret_eq ?_, b0.out.trans g3⟩
   rw [HX.out, readV_bad 31 p (by omega)]
   rfl
end
section
open Go.RowKit
theorem twosA : (twos.map strV).toArray = #[.string ⟨#[61, 61]⟩, .string ⟨#[33, 61]⟩, .string ⟨#[60, 61]⟩, .string ⟨#[62, 61]⟩, .string ⟨#[38, 38]⟩, .string ⟨#[124, 124]⟩] := by with_unfolding_all rfl
theorem onesA : (ones.map strV).toArray = #[.string ⟨#[40]⟩, .string ⟨#[41]⟩, .string ⟨#[123]⟩, .string ⟨#[125]⟩, .string ⟨#[44]⟩, .string ⟨#[59]⟩, .string ⟨#[58]⟩, .string ⟨#[61]⟩, .string ⟨#[60]⟩, .string ⟨#[62]⟩, .string ⟨#[43]⟩, .string ⟨#[45]⟩, .string ⟨#[42]⟩, .string ⟨#[47]⟩, .string ⟨#[37]⟩, .string ⟨#[33]⟩] := by with_unfolding_all rfl
theorem byn_of {L : List (List Nat)} (h : ∀ s ∈ L, ∀ b ∈ s, b < 256) {j : Nat} {s : List Nat} (hs : L[j]? = some s) : Byn s := h s (List.mem_of_getElem? hs)
theorem row_new (w : World) (L : List (List Nat)) (h : ∀ s ∈ L, ∀ b ∈ s, b < 256) : Row (w.alloc (.cells (L.map strV).toArray 9)) (w.heap.size + 1) ⟨w.heap.size, 0, none⟩ L := by
 refine ⟨Nat.lt_succ_self _, fun j s hs => ⟨byn_of h hs, ?_⟩⟩
 have e : (Addr.mk w.heap.size 0 none).add j = ⟨w.heap.size, j, none⟩ := by unfold Addr.add; split <;> simp_all
 rw [e]
 exact cell_new w _ 9 (0, 0) j (by rw [List.getElem?_map, hs]; rfl)
theorem Row.below {w w' : World} {B : Nat} {ad : Addr} {L : List (List Nat)} (h : Row w B ad L) (hb : Below B w w') : Row w' B ad L :=
 ⟨h.1, fun j s hs => ⟨(h.2 j s hs).1, by rw [hb.cell (by rw [addr_block]; exact h.1)]; exact (h.2 j s hs).2⟩⟩
theorem below_pair {B : Nat} {w w1 : World} (h : Below B w w1) (hB : B ≤ w1.heap.size) (o o' : Obj) : Below B w ((w1.alloc o).alloc o') := by
 have h1 := h.alloc hB o
 exact h1.alloc (by simp; omega) o'
theorem byn_twos : ∀ s ∈ twos, ∀ b ∈ s, b < 256 := by decide
theorem byn_ones : ∀ s ∈ ones, ∀ b ∈ s, b < 256 := by decide
theorem signs_rows (w : World) : Row ((w.alloc (.cells #[.string ⟨#[61, 61]⟩, .string ⟨#[33, 61]⟩, .string ⟨#[60, 61]⟩, .string ⟨#[62, 61]⟩, .string ⟨#[38, 38]⟩, .string ⟨#[124, 124]⟩] 9)).alloc (.cells #[.string ⟨#[40]⟩, .string ⟨#[41]⟩, .string ⟨#[123]⟩, .string ⟨#[125]⟩, .string ⟨#[44]⟩, .string ⟨#[59]⟩, .string ⟨#[58]⟩, .string ⟨#[61]⟩, .string ⟨#[60]⟩, .string ⟨#[62]⟩, .string ⟨#[43]⟩, .string ⟨#[45]⟩, .string ⟨#[42]⟩, .string ⟨#[47]⟩, .string ⟨#[37]⟩, .string ⟨#[33]⟩] 9)) (w.heap.size + 1) ⟨w.heap.size, 0, none⟩ twos ∧ Row ((w.alloc (.cells #[.string ⟨#[61, 61]⟩, .string ⟨#[33, 61]⟩, .string ⟨#[60, 61]⟩, .string ⟨#[62, 61]⟩, .string ⟨#[38, 38]⟩, .string ⟨#[124, 124]⟩] 9)).alloc (.cells #[.string ⟨#[40]⟩, .string ⟨#[41]⟩, .string ⟨#[123]⟩, .string ⟨#[125]⟩, .string ⟨#[44]⟩, .string ⟨#[59]⟩, .string ⟨#[58]⟩, .string ⟨#[61]⟩, .string ⟨#[60]⟩, .string ⟨#[62]⟩, .string ⟨#[43]⟩, .string ⟨#[45]⟩, .string ⟨#[42]⟩, .string ⟨#[47]⟩, .string ⟨#[37]⟩, .string ⟨#[33]⟩] 9)) (w.heap.size + 2) ⟨w.heap.size + 1, 0, none⟩ ones := by
 rw [← twosA, ← onesA]
 constructor
 ·have h := (row_new w twos byn_twos).below (w' := (w.alloc (.cells (twos.map strV).toArray 9)).alloc (.cells (ones.map strV).toArray 9)) ?_
  ·exact h
  ·have := below_alloc (w.alloc (.cells (twos.map strV).toArray 9)) (.cells (ones.map strV).toArray 9)
   rw [World.size_alloc] at this
   exact this
 ·have h := row_new (w.alloc (.cells (twos.map strV).toArray 9)) ones byn_ones
  rw [World.size_alloc] at h
  exact h
theorem ones_not {s : List Nat} (h : s.length = 2) : ones.contains s = false := by
 have h1 : ∀ x ∈ ones, x.length = 1 := by decide
 cases hc : ones.contains s with
 | false => rfl
 | true =>
  have := h1 s (by simpa using hc)
  omega
theorem twos_not {s : List Nat} (h : s.length ≠ 2) : twos.contains s = false := by
 have h1 : ∀ x ∈ twos, x.length = 2 := by decide
 cases hc : twos.contains s with
 | false => rfl
 | true =>
  have := h1 s (by simpa using hc)
  omega
theorem signT_two {r : List Nat} (h : twos.contains (r.take 2) = true) : signT r = ⟨0, 4, r.take 2, 0, 2⟩ := by
 have hl : (r.take 2).length = 2 := by
  rcases Nat.lt_or_ge 0 0 with h0 | _
  ·omega
  ·cases Nat.decEq (r.take 2).length 2 with
   | isTrue h2 => exact h2
   | isFalse h2 => rw [twos_not h2] at h; cases h
 have hs : signOf r = r.take 2 := by unfold signOf; rw [if_pos h]
 have hne : ¬ signOf r = [] := by rw [hs]; intro h0; rw [h0] at hl; simp at hl
 unfold signT
 rw [if_neg hne, hs, hl]
theorem signT_one {r : List Nat} (h2 : twos.contains (r.take 2) = false) (h : ones.contains (r.take 1) = true) (hr : 1 ≤ r.length) : signT r = ⟨0, 4, r.take 1, 0, 1⟩ := by
 have hs : signOf r = r.take 1 := by unfold signOf; rw [if_neg (by rw [h2]; simp), if_pos h]
 have hl : (r.take 1).length = 1 := by rw [List.length_take]; omega
 have hne : ¬ signOf r = [] := by rw [hs]; intro h0; rw [h0] at hl; simp at hl
 unfold signT
 rw [if_neg hne, hs, hl]
theorem signT_no {r : List Nat} (h2 : twos.contains (r.take 2) = false) (h : ones.contains (r.take 1) = false) : signT r = bad 31 := by
 have hs : signOf r = [] := by unfold signOf; rw [if_neg (by rw [h2]; simp), if_neg (by rw [h]; simp)]
 unfold signT
 rw [if_pos hs]
end
section
open Go.RowKit
theorem sign_yes2 {r : List Nat} {m : Nat} (hm : m ≤ r.length) (h : twos.contains (r.take m) = true) : signT r = ⟨0, 4, r.take m, 0, m⟩ := by
 have hl : (r.take m).length = m := by rw [List.length_take]; omega
 have h2 : m = 2 := by
  cases Nat.decEq m 2 with
  | isTrue h2 => exact h2
  | isFalse h2 => rw [twos_not (by rw [hl]; exact h2)] at h; cases h
 subst h2
 exact signT_two h
theorem sign_yes1 {r : List Nat} {m : Nat} (hm : m ≤ r.length) (h1 : 1 ≤ m) (h2 : m ≤ 2) (hi : m < 2 → twos.contains (r.take 2) = false) (h : ones.contains (r.take m) = true) : signT r = ⟨0, 4, r.take m, 0, m⟩ := by
 have hl : (r.take m).length = m := by rw [List.length_take]; omega
 have h3 : m = 1 := by
  rcases Nat.lt_or_ge m 2 with h4 | h4
  ·omega
  ·rw [ones_not (by rw [hl]; omega)] at h
   cases h
 subst h3
 exact signT_one (hi (by omega)) h (by omega)
theorem sign_no {r : List Nat} {m : Nat} (h1 : 1 ≤ m) (h2 : m ≤ 2) (hi : m < 2 → twos.contains (r.take 2) = false) (q2 : twos.contains (r.take m) = false) (q1 : ones.contains (r.take m) = false) :
  (m - 1 < 2 → twos.contains (r.take 2) = false) ∧ (m - 1 < 1 → ones.contains (r.take 1) = false) := by
 rcases Nat.lt_or_ge m 2 with h4 | h4
 ·obtain rfl : m = 1 := by omega
  exact ⟨fun _ => hi (by omega), fun _ => q1⟩
 ·obtain rfl : m = 2 := by omega
  exact ⟨fun _ => q2, fun h => by omega⟩
set_option maxRecDepth 100000 in
set_option maxHeartbeats 800000 in
theorem refSign (A : Option Addr) (l : List Nat) (c p : Nat) (w : World) (hc : l.length ≤ c) (hl : Lies w w.heap.size A c (bts l)) (hy : Byn l) (hp : p < l.length) (h4 : l.length ≤ 4096) :
  Calls Tryz.prog 122 #[.slice A l.length c, .int .i64 p] w fun e w' => e = .returned (readV (signT (l.drop p)) p) ∧ Below w.heap.size w w' := by
 have HL := Lib.hid hl
 have HY := Lib.hid hy
 clear hl hy
 obtain ⟨ad, _, rfl, _, _, _⟩ := HL.out.nat hp
 have hne : ¬ c = p := by omega
 have b0 := Lib.hid (below_alloc w (.cells #[.int .i64 0, .string ⟨#[]⟩, .int .i64 0, .int .i64 0] 134))
 have hnew := Lib.hid (heap_alloc_new w (.cells #[.int .i64 0, .string ⟨#[]⟩, .int .i64 0, .int .i64 0] 134))
 have hth := Lib.hid (there_of hnew.out)
 have hdl : (l.drop p).length = l.length - p := by simp
 have HDL := Lib.hid hdl
 clear hdl
 go_enter Tryz.func122, Tryz.ntmps122
 go_wp2
 generalize w.alloc (.cells #[.int .i64 0, .string ⟨#[]⟩, .int .i64 0, .int .i64 0] 134) = wn at *
 go_loopw [7] (fun i wr => ∃ m : Nat, m ≤ 2 ∧ i = .int .i64 m ∧ wr.there w.heap.size 0 4 ∧ Below w.heap.size w wr ∧ Hid (m < 2 → twos.contains ((l.drop p).take 2) = false) ∧ Hid (m < 1 → ones.contains ((l.drop p).take 1) = false)) (fun i _ => (intOf i).toNat)
 case atStart => exact ⟨2, Nat.le_refl _, rfl, hth.out, b0.out, (fun h => by omega : 2 < 2 → twos.contains ((l.drop p).take 2) = false), (fun h => by omega : 2 < 1 → ones.contains ((l.drop p).take 1) = false)⟩
 case round =>
  obtain ⟨m, hm, rfl, hthr, hbel, HI2, HI1⟩ := hrel
  have HTH := Lib.hid hthr
  have HB := Lib.hid hbel
  clear hthr hbel hnew hth b0
  by_cases h1 : 1 ≤ m
  ·by_cases hfit : p + m ≤ l.length
   ·have hcv := run_part (HL.out.below HB.out) (p := p) (n := m) hc hfit
    rw [if_neg hne, Option.map_some] at hcv
    have G2 : Hid (twos.contains ((l.drop p).take m) = true → signT (l.drop p) = ⟨0, 4, (l.drop p).take m, 0, m⟩) := sign_yes2 (by rw [HDL.out]; omega)
    have G1 : Hid (ones.contains ((l.drop p).take m) = true → signT (l.drop p) = ⟨0, 4, (l.drop p).take m, 0, m⟩) := sign_yes1 (by rw [HDL.out]; omega) h1 hm HI2.out
    have G0 : Hid (twos.contains ((l.drop p).take m) = false → ones.contains ((l.drop p).take m) = false → (m - 1 < 2 → twos.contains ((l.drop p).take 2) = false) ∧ (m - 1 < 1 → ones.contains ((l.drop p).take 1) = false)) := sign_no h1 hm HI2.out
    have hys : Byn ((l.drop p).take m) := HY.out.sub fun x hx => List.mem_of_mem_drop (List.mem_of_mem_take hx)
    have hrows := signs_rows wr
    have K2 := Lib.hid (refIn _ twos ⟨wr.heap.size, 0, none⟩ 6 6 _ _ hys rfl (by omega) hrows.1)
    have K1 := Lib.hid (refIn _ ones ⟨wr.heap.size + 1, 0, none⟩ 16 16 _ _ hys rfl (by omega) hrows.2)
    have TH2 := Lib.hid (World.there_alloc (World.there_alloc HTH.out (.cells #[.string ⟨#[61, 61]⟩, .string ⟨#[33, 61]⟩, .string ⟨#[60, 61]⟩, .string ⟨#[62, 61]⟩, .string ⟨#[38, 38]⟩, .string ⟨#[124, 124]⟩] 9)) (.cells #[.string ⟨#[40]⟩, .string ⟨#[41]⟩, .string ⟨#[123]⟩, .string ⟨#[125]⟩, .string ⟨#[44]⟩, .string ⟨#[59]⟩, .string ⟨#[58]⟩, .string ⟨#[61]⟩, .string ⟨#[60]⟩, .string ⟨#[62]⟩, .string ⟨#[43]⟩, .string ⟨#[45]⟩, .string ⟨#[42]⟩, .string ⟨#[47]⟩, .string ⟨#[37]⟩, .string ⟨#[33]⟩] 9))
    have HB2 := Lib.hid (below_pair HB.out HB.out.size (.cells #[.string ⟨#[61, 61]⟩, .string ⟨#[33, 61]⟩, .string ⟨#[60, 61]⟩, .string ⟨#[62, 61]⟩, .string ⟨#[38, 38]⟩, .string ⟨#[124, 124]⟩] 9) (.cells #[.string ⟨#[40]⟩, .string ⟨#[41]⟩, .string ⟨#[123]⟩, .string ⟨#[125]⟩, .string ⟨#[44]⟩, .string ⟨#[59]⟩, .string ⟨#[58]⟩, .string ⟨#[61]⟩, .string ⟨#[60]⟩, .string ⟨#[62]⟩, .string ⟨#[43]⟩, .string ⟨#[45]⟩, .string ⟨#[42]⟩, .string ⟨#[47]⟩, .string ⟨#[37]⟩, .string ⟨#[33]⟩] 9))
    clear hrows hys HI1 HI2
    generalize twos.contains ((l.drop p).take m) = q2 at *
    generalize ones.contains ((l.drop p).take m) = q1 at *
    generalize (l.drop p).take m = s at *
    go_wp2_with fail
    generalize (wr.alloc (.cells #[.string ⟨#[61, 61]⟩, .string ⟨#[33, 61]⟩, .string ⟨#[60, 61]⟩, .string ⟨#[62, 61]⟩, .string ⟨#[38, 38]⟩, .string ⟨#[124, 124]⟩] 9)).alloc (.cells #[.string ⟨#[40]⟩, .string ⟨#[41]⟩, .string ⟨#[123]⟩, .string ⟨#[125]⟩, .string ⟨#[44]⟩, .string ⟨#[59]⟩, .string ⟨#[58]⟩, .string ⟨#[61]⟩, .string ⟨#[60]⟩, .string ⟨#[62]⟩, .string ⟨#[43]⟩, .string ⟨#[45]⟩, .string ⟨#[42]⟩, .string ⟨#[47]⟩, .string ⟨#[37]⟩, .string ⟨#[33]⟩] 9) = wz at *
    clear hcv
    refine K2.out.mono ?_
    rintro e w' ⟨rfl, rfl⟩
    cases q2
    ·go_wp2_with fail
     refine K1.out.mono ?_
     rintro e w' ⟨rfl, rfl⟩
     cases q1
     ·have hG := G0.out trivial rfl
      have HG := Lib.hid hG
      clear hG
      go_wp2
      go_roundw
      case rel => exact ⟨m - 1, by omega, by go_num, TH2.out, HB2.out, HG.out.1, HG.out.2⟩
      case measure => simp [intOf]; omega
     ·have HX := Lib.hid (G1.out rfl)
      go_wp2_with (refine wpList_store4 rfl (.tmp 4) (.tmp 40) rfl rfl w.heap.size rfl _ _ _ _ rfl TH2.out rfl rfl rfl rfl ?_; intro w3 g1 g2 g3 g4)
      refine bodyPost_ret (ret_reader Tryz.results122 _ _ w.heap.size _ rfl g1 rfl) rfl ?_
      refine ⟨ret_eq ?_, HB2.out.trans g3⟩
      rw [HX.out, readV_ok, okV]
      simp
    ·have HX := Lib.hid (G2.out rfl)
     go_wp2_with (refine wpList_store4 rfl (.tmp 4) (.tmp 40) rfl rfl w.heap.size rfl _ _ _ _ rfl TH2.out rfl rfl rfl rfl ?_; intro w3 g1 g2 g3 g4)
     refine bodyPost_ret (ret_reader Tryz.results122 _ _ w.heap.size _ rfl g1 rfl) rfl ?_
     refine ⟨ret_eq ?_, HB2.out.trans g3⟩
     rw [HX.out, readV_ok, okV]
     simp
   ·have H2 : Hid (twos.contains ((l.drop p).take 2) = false) := twos_not (by rw [List.length_take, HDL.out]; omega)
    go_wp2
    go_roundw
    case rel => exact ⟨m - 1, by omega, by go_num, HTH.out, HB.out, (fun _ => H2.out : m - 1 < 2 → twos.contains ((l.drop p).take 2) = false), (fun h => by omega : m - 1 < 1 → ones.contains ((l.drop p).take 1) = false)⟩
    case measure => simp [intOf]; omega
  ·have HX := Lib.hid (signT_no (HI2.out (by omega)) (HI1.out (by omega)))
   clear HI1 HI2
   go_wp2_with (refine wpList_store4 rfl (.tmp 4) (.tmp 44) rfl rfl w.heap.size rfl _ _ _ _ rfl HTH.out rfl rfl rfl rfl ?_; intro w3 g1 g2 g3 g4)
   refine bodyPost_ret (ret_reader Tryz.results122 _ _ w.heap.size _ rfl g1 rfl) rfl ?_
   refine ⟨ret_eq ?_, HB.out.trans g3⟩
   rw [HX.out, readV_bad 31 p (by omega)]
   rfl
end
section
open Go.RowKit
set_option maxRecDepth 100000 in
set_option maxHeartbeats 1600000 in
theorem refNext (A : Option Addr) (l : List Nat) (c p : Nat) (w : World) (hc : l.length ≤ c) (hcm : c ≤ maxLen) (hl : Lies w w.heap.size A c (bts l)) (hy : Byn l) (hp : p < l.length) (h4 : l.length ≤ 4096) :
  Calls Tryz.prog 66 #[.slice A l.length c, .int .i64 p] w fun e w' => e = .returned (readV (readT (l.drop p)) p) ∧ Below w.heap.size w w' := by
 have HL := Lib.hid hl
 have HY := Lib.hid hy
 clear hl hy
 obtain ⟨ad, b, rfl, hB, hg, hcell⟩ := HL.out.nat hp
 have hb := byn_get HY.out hg
 have HR := Lib.hid (readT_at hg)
 clear hg
 have b0 := Lib.hid (below_alloc w (.cells #[.int .i64 0, .string ⟨#[]⟩, .int .i64 0, .int .i64 0] 134))
 have hnew := Lib.hid (heap_alloc_new w (.cells #[.int .i64 0, .string ⟨#[]⟩, .int .i64 0, .int .i64 0] 134))
 have hcell0 := b0.out.cell (p := ad.add p) (by rw [addr_block]; exact hB)
 rw [hcell] at hcell0
 have HLn := Lib.hid ((HL.out.below b0.out).more b0.out.size)
 clear hcell
 have K1 := Lib.hid (refLetter b (w.alloc (.cells #[.int .i64 0, .string ⟨#[]⟩, .int .i64 0, .int .i64 0] 134)) hb)
 have K2 := Lib.hid (refDigit b (w.alloc (.cells #[.int .i64 0, .string ⟨#[]⟩, .int .i64 0, .int .i64 0] 134)) hb)
 go_enter Tryz.func66, Tryz.ntmps66
 go_wp2_with fail
 generalize w.alloc (.cells #[.int .i64 0, .string ⟨#[]⟩, .int .i64 0, .int .i64 0] 134) = wn at *
 clear hcell0
 refine K1.out.mono ?_
 rintro e w1 ⟨rfl, rfl⟩
 by_cases h1 : letterB b = true
 ·rw [if_pos h1] at HR
  rw [h1]
  obtain ⟨c0, c1, c2, c3, q, er, hV, o0, o1, o2, o3⟩ := readV_form (nameT (l.drop p)) p
  have HV := Lib.hid hV
  have K3 := Lib.hid (refName (some ad) l c p wn hc hcm HLn.out HY.out hp)
  rw [hV] at K3
  clear hV K1 K2
  go_wp2_with fail
  refine K3.out.mono ?_
  rintro e w2 ⟨rfl, hb2⟩
  have HP := Lib.hid (reader_post b0.out hnew.out hb2)
  clear hb2 K3
  go_wp2_with (refine wpList_store4 rfl (.tmp 4) (.tmp 17) rfl rfl w.heap.size rfl _ _ _ _ rfl HP.out.1 o0 o1 o2 o3 ?_; intro w3 g1 g2 g3 g4)
  refine bodyPost_ret (ret_reader Tryz.results66 _ _ w.heap.size _ rfl g1 rfl) rfl ?_
  exact ⟨ret_eq (by rw [HR.out, HV.out]; rfl), HP.out.2.trans g3⟩
 ·rw [if_neg h1] at HR
  rw [show letterB b = false by simpa using h1]
  clear K1
  go_wp2_with fail
  refine K2.out.mono ?_
  rintro e w1 ⟨rfl, rfl⟩
  by_cases h2 : digitB b = true
  ·rw [if_pos h2] at HR
   rw [h2]
   obtain ⟨c0, c1, c2, c3, q, er, hV, o0, o1, o2, o3⟩ := readV_form (numT (l.drop p)) p
   have HV := Lib.hid hV
   have K3 := Lib.hid (refNumber (some ad) l c p wn hc hcm HLn.out HY.out hp)
   rw [hV] at K3
   clear hV K2
   go_wp2_with fail
   refine K3.out.mono ?_
   rintro e w2 ⟨rfl, hb2⟩
   have HP := Lib.hid (reader_post b0.out hnew.out hb2)
   clear hb2 K3
   go_wp2_with (refine wpList_store4 rfl (.tmp 4) (.tmp 25) rfl rfl w.heap.size rfl _ _ _ _ rfl HP.out.1 o0 o1 o2 o3 ?_; intro w3 g1 g2 g3 g4)
   refine bodyPost_ret (ret_reader Tryz.results66 _ _ w.heap.size _ rfl g1 rfl) rfl ?_
   exact ⟨ret_eq (by rw [HR.out, HV.out]; rfl), HP.out.2.trans g3⟩
  ·rw [if_neg h2] at HR
   rw [show digitB b = false by simpa using h2]
   clear K2
   by_cases h3 : b = 34
   ·rw [if_pos h3] at HR
    subst h3
    obtain ⟨c0, c1, c2, c3, q, er, hV, o0, o1, o2, o3⟩ := readV_form (textT (l.drop p)) p
    have HV := Lib.hid hV
    have K3 := Lib.hid (refText (some ad) l c p wn hc hcm HLn.out HY.out hp)
    rw [hV] at K3
    clear hV
    go_wp2_with fail
    refine K3.out.mono ?_
    rintro e w2 ⟨rfl, hb2⟩
    have HP := Lib.hid (reader_post b0.out hnew.out hb2)
    clear hb2 K3
    go_wp2_with (refine wpList_store4 rfl (.tmp 4) (.tmp 33) rfl rfl w.heap.size rfl _ _ _ _ rfl HP.out.1 o0 o1 o2 o3 ?_; intro w3 g1 g2 g3 g4)
    refine bodyPost_ret (ret_reader Tryz.results66 _ _ w.heap.size _ rfl g1 rfl) rfl ?_
    exact ⟨ret_eq (by rw [HR.out, HV.out]; rfl), HP.out.2.trans g3⟩
   ·rw [if_neg h3] at HR
    have h34 : ((b : Int) == 34) = false := by rw [beq_eq_false_iff_ne]; omega
    obtain ⟨c0, c1, c2, c3, q, er, hV, o0, o1, o2, o3⟩ := readV_form (signT (l.drop p)) p
    have HV := Lib.hid hV
    have K3 := Lib.hid (refSign (some ad) l c p wn hc HLn.out HY.out hp h4)
    rw [hV] at K3
    clear hV
    go_wp2_with fail
    refine K3.out.mono ?_
    rintro e w2 ⟨rfl, hb2⟩
    have HP := Lib.hid (reader_post b0.out hnew.out hb2)
    clear hb2 K3
    go_wp2_with (refine wpList_store4 rfl (.tmp 4) (.tmp 39) rfl rfl w.heap.size rfl _ _ _ _ rfl HP.out.1 o0 o1 o2 o3 ?_; intro w3 g1 g2 g3 g4)
    refine bodyPost_ret (ret_reader Tryz.results66 _ _ w.heap.size _ rfl g1 rfl) rfl ?_
    exact ⟨ret_eq (by rw [HR.out, HV.out]; rfl), HP.out.2.trans g3⟩
set_option maxRecDepth 100000 in
set_option maxHeartbeats 1600000 in
theorem refLex (A : Option Addr) (l : List Nat) (c : Nat) (w : World) (hc : l.length ≤ c) (hcm : c ≤ maxLen) (hl : Lies w w.heap.size A c (bts l)) (hy : Byn l) :
  Calls Tryz.prog 36 #[.slice A l.length c] w (LexO w (lexed l)) := by
 have HL := Lib.hid hl
 have HY := Lib.hid hy
 clear hl hy
 have hcm' := hcm
 unfold maxLen at hcm'
 obtain ⟨i0, hi, hz0, hz1, hz2⟩ := info_parts info77
 by_cases hbig : l.length > 4096
 ·have HE : Hid (lexed l = ⟨2, [], 0⟩) := by show _ = _; unfold lexed; rw [if_pos hbig]
  clear hi hz0 hz1 hz2
  go_enter Tryz.func36, Tryz.ntmps36
  go_wp2
  go_ret3
  rw [HE.out]
  exact ⟨_, rfl, World.ownsRow_nil _ _ _ _, Below.refl _ _⟩
 ·have HE := Lib.hid (lexed_rest (l := l) (by omega))
  go_enter Tryz.func36, Tryz.ntmps36
  go_wp2_with fail
  refine (blanks A l c 0 _ w hc hcm HL.out HY.out (by omega)).mono ?_
  rintro e w0 ⟨rfl, rfl⟩
  have hb0 := Below.refl w.heap.size w
  have hs0 := skip_le l 0 (Nat.zero_le _)
  generalize skip l 0 = p0 at *
  have HB0 := Lib.hid hb0
  clear hb0
  go_wp2
  go_loopw [5, 6] (fun v i wr => ∃ (p : Nat) (ts : List Tok), p ≤ l.length ∧ ts.length ≤ 2048 ∧ i = .int .i64 p ∧ wr.ownsRow w.heap.size 134 4 v ts.length (toksC ts) ∧ Below w.heap.size w wr ∧ Hid (lexed l = rest l p ts)) (fun _ i _ => l.length - (intOf i).toNat)
  case atStart => exact ⟨p0, [], hs0, Nat.zero_le _, rfl, World.ownsRow_nil _ _ _ _, HB0.out, HE.out⟩
  case round =>
   clear HE HB0
   obtain ⟨p, ts, hp, hts, rfl, hown, hbel, HR⟩ := hrel
   have HO := Lib.hid hown
   have HB := Lib.hid hbel
   have hsz := hbel.size
   clear hown hbel
   by_cases hlt : p < l.length
   ·go_wp2_with fail
    refine (refNext A l c p wr hc hcm ((HL.out.below HB.out).more hsz) HY.out hlt (by omega)).mono ?_
    rintro e w1 ⟨rfl, hb1⟩
    have HB1 := Lib.hid (HB.out.trans (hb1.mono hsz))
    have HO1 := Lib.hid (own_below HO.out hb1 (Nat.le_refl _))
    have hsz1 := Nat.le_trans hsz hb1.size
    clear hb1
    have HN0 : Hid ((readT (l.drop p)).err ≠ 0 → rest l p ts = ⟨(readT (l.drop p)).err, [], p⟩) := fun h => rest_bad ts hlt h
    have HN1 : Hid ((readT (l.drop p)).err = 0 → ts.length = 2048 → rest l p ts = ⟨2, [], p⟩) := fun h h2 => rest_many hlt h h2
    have HN2 : Hid ((readT (l.drop p)).err = 0 → ts.length ≠ 2048 → rest l p ts = rest l (skip l (p + (readT (l.drop p)).len)) (ts ++ [⟨(readT (l.drop p)).kind, (readT (l.drop p)).text, (readT (l.drop p)).num, p⟩])) := fun h h2 => rest_next hlt h h2
    have HLn : Hid ((readT (l.drop p)).err = 0 → 1 ≤ (readT (l.drop p)).len ∧ (readT (l.drop p)).len ≤ (l.drop p).length) := read_len (l.drop p)
    generalize readT (l.drop p) = r at *
    obtain ⟨er, kind, text, num, len⟩ := r
    dsimp only at HN0 HN1 HN2 HLn
    by_cases her : er = 0
    ·subst her
     rw [readV_ok, okV]
     have hlen := HLn.out rfl
     rw [List.length_drop] at hlen
     by_cases hfull : ts.length = 2048
     ·have HX := Lib.hid (HN1.out rfl hfull)
      clear HN0 HN1 HN2 HLn hi hz0 hz1 hz2
      obtain ⟨A1, c1, hv⟩ := own_shape HO1.out
      subst hv
      go_wp2
      go_ret3
      rw [HR.out, HX.out]
      exact ⟨_, rfl, World.ownsRow_nil _ _ _ _, HB1.out.alloc hsz1 _⟩
     ·have HX := Lib.hid (HN2.out rfl hfull)
      have hfull' : ts.length < 2048 := by omega
      clear HN0 HN1 HN2 HLn
      obtain ⟨A1, c1, hv⟩ := own_shape HO1.out
      subst hv
      have ho2 := Lib.hid ((HO1.out.alloc (.cells #[.int .i64 kind, .string (strN text), .int .i64 num, .int .i64 p] 134)).alloc (.cells #[.int .i64 kind, .string (strN text), .int .i64 num, .int .i64 p] 134))
      have hb2 := Lib.hid (below_two HB1.out hsz1 (.cells #[.int .i64 kind, .string (strN text), .int .i64 num, .int .i64 p] 134) (.cells #[.int .i64 kind, .string (strN text), .int .i64 num, .int .i64 p] 134))
      have hr2 := row_cells (w1.alloc (.cells #[.int .i64 kind, .string (strN text), .int .i64 num, .int .i64 p] 134)) (.int .i64 kind) (.string (strN text)) (.int .i64 num) (.int .i64 p)
      rw [World.size_alloc] at hr2
      replace hr2 := Lib.hid hr2
      have hbig2 : w.heap.size ≤ ((w1.alloc (.cells #[.int .i64 kind, .string (strN text), .int .i64 num, .int .i64 p] 134)).alloc (.cells #[.int .i64 kind, .string (strN text), .int .i64 num, .int .i64 p] 134)).heap.size := by simp; omega
      have HZ2 := Lib.hid hbig2
      clear hbig2
      go_wp2_with (at_builtin; refine wpList_append_own _ rfl (.tmp 34) (.tmp 36) 71 rfl w.heap.size 134 i0 _ 4 40 Tryz.underlying71 hi hz0 hz1 hz2 rfl (by omega) _ _ _ rfl ho2.out ⟨w1.heap.size + 1, 0, none⟩ 1 1 [.int .i64 kind, .string (strN text), .int .i64 num, .int .i64 p] rfl rfl hr2.out one4 (by unfold maxLen; omega) (by omega) HZ2.out ?_; intro v3 w3 ho3 hg3 hn3)
      have hb3 : Below w.heap.size w w3 := hb2.out.grown hg3 HZ2.out (fun k hk => (ho2.out.lt k hk).1)
      have hs3 := hb3.size
      have HO3 := Lib.hid (own_toks ho3)
      have HB3 := Lib.hid hb3
      clear ho3 hg3 hn3 hb3 ho2 hb2 hr2 HZ2 hi hz0 hz1 hz2
      rw [show ((p : Int) + (len : Int)) = ((p + len : Nat) : Int) by simp]
      refine (blanks A l c (p + len) _ w3 hc hcm ((HL.out.below HB3.out).more hs3) HY.out (by omega)).mono ?_
      rintro e w4 ⟨rfl, rfl⟩
      have hb4 := Below.refl w3.heap.size w3
      have hsk1 := skip_le l (p + len) (by omega)
      have hsk2 := skip_ge l (p + len)
      have HB4 := Lib.hid (HB3.out.trans (hb4.mono hs3))
      have HO4 := Lib.hid (own_below HO3.out hb4 (Nat.le_refl _))
      clear hb4
      generalize skip l (p + len) = p2 at *
      go_wp2
      go_roundw
      case rel => exact ⟨p2, _, hsk1, by simp; omega, rfl, HO4.out, HB4.out, HR.out.trans HX.out⟩
      case measure => simp [intOf]; omega
    ·have HX := Lib.hid (HN0.out her)
     rw [readV, show (er == 0) = false by simpa using her]
     clear HN0 HN1 HN2 HLn hi hz0 hz1 hz2
     have he1 : ((er : Int) == 0) = false := by rw [beq_eq_false_iff_ne]; omega
     have he2 : ((er : Int) != 0) = true := by rw [bne_iff_ne]; omega
     unfold badV
     go_wp2
     go_ret3
     rw [HR.out, HX.out]
     exact ⟨_, rfl, World.ownsRow_nil _ _ _ _, HB1.out.alloc hsz1 _⟩
   ·obtain rfl : p = l.length := by omega
    have HX := Lib.hid (rest_end (l := l) (p := l.length) ts (Nat.le_refl _))
    go_wp2
    go_ret3
    rw [HR.out, HX.out]
    exact ⟨_, rfl, HO.out, HB.out⟩
end
end Go.Proofs.YtcilgkdnjgmogaaGreatDoor
