/- The walk of TokenPlaces: it returns true, and nothing that was there has changed. Conditions: none beyond what its argument is; the tables lie as the program lays them. -/
import Derived.Test.YtdmjlgjnboofdaaDoorPl
namespace Go.Proofs.YtdmjlgjnboofdaaDoor
open Go.RowKit

theorem quote1 (s : List Nat) : (⟨#[34]⟩ : ByteArray) ++ strN s = strN (34 :: s) := by
  show _ = strN ([34] ++ s)
  rw [← strN_append]
  rfl
theorem quote2 (s : List Nat) : strN (34 :: s) ++ ⟨#[34]⟩ = strN (34 :: (s ++ [34])) := by
  show _ = strN ((34 :: s) ++ [34])
  rw [← strN_append]
  rfl
theorem size1 (s : List Nat) : (strN (34 :: s)).size = s.length + 1 := by rw [strN_size]; simp
theorem size2 (s : List Nat) : (strN (34 :: (s ++ [34]))).size = s.length + 2 := by rw [strN_size]; simp
theorem end_eq {a n m : Nat} (h : a + max n 1 = m) : Value.int .i64 ((a : Int) + if (n : Int) < 1 then 1 else (n : Int)) = .int .i64 (m : Nat) := by
  subst h
  split
  · rw [show max n 1 = 1 by omega]; simp
  · rw [show max n 1 = n by omega]; simp
theorem int_val {k : IntKind} {a b : Int} (h : a = b) : Value.int k a = .int k b := by rw [h]
theorem tok_range {w : World} {g i : Nat} {t : Tok} (h : TokAt w g i t) : w.rangeAt g (i * 4) (tokC t) := by
  intro j v hv
  rcases j with _ | _ | _ | _ | j
  · simp [tokC] at hv; subst hv; exact h.1
  · simp [tokC] at hv; subst hv; exact h.2.1
  · simp [tokC] at hv; subst hv; exact h.2.2.1
  · simp [tokC] at hv; subst hv; exact h.2.2.2
  · simp [tokC] at hv

set_option maxRecDepth 100000 in
set_option maxHeartbeats 1600000 in
theorem places_walk (A : Option Addr) (l : List Nat) (c : Nat) (w : World) (hc : l.length ≤ c) (hcm : c ≤ maxLen) (hl : Lies w w.heap.size A c (bts l)) (hy : Byn l) (ht : Tab w) :
    Calls Tryd.prog 4 #[.slice A l.length c] w fun e w' => e = .returned (.bool true) ∧ Below w.heap.size w w' := by
  have HL := Lib.hid hl
  have HY := Lib.hid hy
  have HT := Lib.hid ht
  have hpos := ht.1
  have hcm' := hcm
  unfold maxLen at hcm'
  clear hl hy ht
  go_enter Tryd.func4, Tryd.ntmps4
  go_wp2_with fail
  refine (head_true _ HT.out).mono ?_
  rintro e w1 ⟨rfl, hb1⟩
  have BW1 := Lib.hid hb1
  have s1 := hb1.size
  clear hb1
  go_wp2_with fail
  refine (lex _ l c w1 hc hcm ((HL.out.below BW1.out).more s1) HY.out (HT.out.below BW1.out hpos)).mono ?_
  rintro e w2 ⟨v2, rfl, ho2, hb2⟩
  have BW2 := Lib.hid (BW1.out.trans (hb2.mono s1))
  have s2 := BW2.out.size
  have HO := Lib.hid ho2
  clear hb2 ho2 BW1 s1
  have HF := Lib.hid (lexed_fit l)
  have HN := Lib.hid (lexed_none l)
  have HB := Lib.hid (lexed_names HY.out)
  have hm := lexed_many l
  have hpl := lexed_place l
  have H64 : Hid (l.length ≤ 4096 ∨ (lexed l).err ≠ 0) := by
    show _ ∨ _
    rcases Nat.lt_or_ge 4096 l.length with h | h
    · right; unfold lexed; rw [if_pos h]; simp
    · left; exact h
  generalize lexed l = o at *
  obtain ⟨err, ts, place⟩ := o
  dsimp only at HO HN hm hpl HF HB H64 ⊢
  by_cases he : err = 0
  · have hk3 : ((err : Int) != 0) = false := by simp [he]
    have h4096 : l.length ≤ 4096 := by
      rcases H64.out with h | h
      · exact h
      · exact absurd he h
    clear HN H64
    obtain ⟨A2, cap2, hv⟩ := own_shape HO.out
    subst hv
    go_wp2
    clear hk3 he
    go_loopw [7, 8] (fun e i wr => ∃ k : Nat, k ≤ ts.length ∧ i = .int .i64 k ∧ e = .int .i64 (endAt ts k : Nat) ∧ Below w2.heap.size w2 wr) (fun _ i _ => ts.length - (intOf i).toNat)
    case atStart => exact ⟨0, Nat.zero_le _, rfl, rfl, Below.refl _ _⟩
    case round =>
      obtain ⟨k, hk, rfl, rfl, hbel⟩ := hrel
      by_cases hlt : k < ts.length
      · obtain ⟨t, htk⟩ : ∃ t, ts[k]? = some t := ⟨_, List.getElem?_eq_getElem hlt⟩
        obtain ⟨g, cap', hv, hg1, hg2, hrow⟩ := own_tok HO.out (by omega)
        injection hv with hv1 hv2 hv3
        subst hv1 hv3
        obtain ⟨f1, f2, f3, f4⟩ := HF.out k t htk
        have HE : Hid (endAt ts (k + 1) = tokEnd t) := by show _ = _; rw [endAt_succ, htk]
        obtain ⟨T1, T2, T3, T4⟩ := (hrow k t htk).below hbel hg2
        have hyt := (HB.out t (List.mem_of_getElem? htk)).1
        clear hrow htk hv2
        obtain ⟨kind, text, num, pl⟩ := t
        dsimp only at T1 T2 T3 T4 f1 f2 f3 f4 HE hyt
        generalize endAt ts k = E at *
        have LR := Lib.hid (((HL.out.below BW2.out).more s2).below hbel)
        obtain ⟨ad, b, rfl, hBa, _, _⟩ := LR.out.nat f2
        have hne : ¬ c = pl := by omega
        have HBE := Lib.hid hbel
        have sr := hbel.size
        have hal := Lib.hid (below_alloc wr (.cells #[.int .i64 kind, .string (strN text), .int .i64 num, .int .i64 pl] 33))
        have LN := Lib.hid (((LR.out).more sr).below hal.out)
        have hsz := strN_size text
        clear hbel
        by_cases h3 : kind = 3
        · have hk2 : ((kind : Int) == 3) = true := by rw [beq_iff_eq]; omega
          have hk4 : ((kind : Int) != 2) = true := by rw [bne_iff_ne]; omega
          have hsh : shown ⟨kind, text, num, pl⟩ = 34 :: (text ++ [34]) := by unfold shown; rw [if_pos h3]; rfl
          have hlen : (34 :: (text ++ [34])).length = text.length + 2 := by simp
          unfold tokEnd at f3 HE
          rw [hsh, hlen] at f3 f4 HE
          dsimp only at f3 f4 HE
          have hcv := run_part LN.out (p := pl) (n := text.length + 2) hc (by omega)
          rw [if_neg hne, Option.map_some, f4 (by omega)] at hcv
          have q1 := quote1 text
          have q2 := quote2 text
          have q3 := size1 text
          have q4 := size2 text
          clear f4 hsh hlen h3
          go_wp2
          go_roundw
          case rel => exact ⟨k + 1, by omega, by go_num, int_val (by rw [HE.out]; omega), HBE.out.trans ((below_alloc _ _).mono sr)⟩
          case measure => simp [intOf]; omega
        · have hk2 : ((kind : Int) == 3) = false := by rw [beq_eq_false_iff_ne]; omega
          have hsh : shown ⟨kind, text, num, pl⟩ = text := by unfold shown; rw [if_neg h3]
          unfold tokEnd at f3 HE
          rw [hsh] at f3 f4 HE
          dsimp only at f3 f4 HE
          by_cases h2 : kind = 2
          · have hk4 : ((kind : Int) != 2) = false := by simp [h2]
            clear f4
            go_wp2
            go_roundw
            case rel => exact ⟨k + 1, by omega, by go_num, end_eq HE.out.symm, HBE.out.trans ((below_alloc _ _).mono sr)⟩
            case measure => simp [intOf]; omega
          · have hk4 : ((kind : Int) != 2) = true := by rw [bne_iff_ne]; omega
            have hcv := run_part LN.out (p := pl) (n := text.length) hc (by omega)
            rw [if_neg hne, Option.map_some, f4 h2] at hcv
            clear f4
            go_wp2
            go_roundw
            case rel => exact ⟨k + 1, by omega, by go_num, end_eq HE.out.symm, HBE.out.trans ((below_alloc _ _).mono sr)⟩
            case measure => simp [intOf]; omega
      · obtain rfl : k = ts.length := by omega
        have hfin := BW2.out.trans (hbel.mono s2)
        clear hbel
        go_wp2
        go_ret
        exact ⟨ret_bool (by simp; omega), hfin⟩
  · have hk3 : ((err : Int) != 0) = true := by rw [bne_iff_ne]; omega
    have h0 := HN.out he
    subst h0
    obtain ⟨A2, cap2, hv⟩ := own_shape HO.out
    subst hv
    go_wp2
    go_ret
    exact ⟨rfl, BW2.out⟩
end Go.Proofs.YtdmjlgjnboofdaaDoor
