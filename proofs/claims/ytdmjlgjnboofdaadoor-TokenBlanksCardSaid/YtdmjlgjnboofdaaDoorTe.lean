/- The walk of TokenTexts: it returns true, and nothing that was there has changed. Conditions: none beyond what its arguments are; the tables lie as the program lays them. -/
import Derived.Test.YtdmjlgjnboofdaaDoorNu
import Derived.Test.YtdmjlgjnboofdaaDoorWw
namespace Go.Proofs.YtdmjlgjnboofdaaDoor
open Go.RowKit

theorem text_first {r : List Nat} : skip (34 :: r) 0 = 0 ∧ readT ((34 :: r).drop 0) = textT (34 :: r) := by
  constructor
  · unfold skip
    rw [List.drop_zero, white, if_neg (by decide)]
  · rw [List.drop_zero, readT_cons, if_neg (by decide), if_neg (by decide), if_pos rfl]
theorem lexed_open {r : List Nat} (hl : r.length ≤ 4000) (h : ¬ r[run textB r]? = some 34) : lexed (34 :: r) = ⟨31, [], 0⟩ := by
  obtain ⟨h1, h2⟩ := text_first (r := r)
  have h3 : textT (34 :: r) = bad 31 := by
    unfold textT
    rw [List.drop_succ_cons, List.drop_zero, if_neg h]
  rw [lexed_rest (by simp; omega), h1, rest_bad _ (by simp) (by rw [h2, h3]; simp [bad]), h2, h3]
  rfl
theorem lexed_long {r : List Nat} (hl : r.length ≤ 4000) (h : r[run textB r]? = some 34) (hn : run textB r > 64) : lexed (34 :: r) = ⟨32, [], 0⟩ := by
  obtain ⟨h1, h2⟩ := text_first (r := r)
  have h3 : textT (34 :: r) = bad 32 := by
    unfold textT
    rw [List.drop_succ_cons, List.drop_zero, if_pos h, if_pos hn]
  rw [lexed_rest (by simp; omega), h1, rest_bad _ (by simp) (by rw [h2, h3]; simp [bad]), h2, h3]
  rfl
theorem letters_text {ls : List Nat} (h : ∀ b ∈ ls, letterB b = true) : ∀ b ∈ ls, textB b = true := by
  intro b hb
  have := h b hb
  simp only [letterB, Bool.and_eq_true, decide_eq_true_eq] at this
  simp [textB]
  omega
theorem text_open {ls : List Nat} (hl : ls.length ≤ 1000) (h : ∀ b ∈ ls, letterB b = true) : lexed (34 :: ls) = ⟨31, [], 0⟩ := by
  refine lexed_open (by omega) ?_
  rw [run_every textB _ (letters_text h)]
  simp
theorem text_run {ls : List Nat} (h : ∀ b ∈ ls, letterB b = true) (x : Nat) (hx : textB x = false) (r : List Nat) : run textB (ls ++ x :: r) = ls.length ∧ (ls ++ x :: r)[ls.length]? = some x := by
  rw [run_append textB x hx, run_every textB _ (letters_text h)]
  simp
theorem text_long {ls : List Nat} (hl : ls.length ≤ 1000) (h : ∀ b ∈ ls, letterB b = true) (hn : ls.length > 64) : lexed (34 :: (ls ++ [34])) = ⟨32, [], 0⟩ := by
  obtain ⟨h1, h2⟩ := text_run h 34 (by decide) []
  exact lexed_long (by simp; omega) (by rw [h1]; exact h2) (by rw [h1]; exact hn)
theorem text_bad {ls : List Nat} (hl : ls.length ≤ 1000) (h : ∀ b ∈ ls, letterB b = true) {x : Nat} (hx : textB x = false) (h34 : x ≠ 34) : lexed (34 :: (ls ++ [x, 34])) = ⟨31, [], 0⟩ := by
  obtain ⟨h1, h2⟩ := text_run h x hx [34]
  refine lexed_open (by simp; omega) ?_
  rw [h1, h2]
  simpa using h34
theorem text_ok {ls : List Nat} (h : ∀ b ∈ ls, letterB b = true) (hn : ¬ ls.length > 64) : lexed (34 :: (ls ++ [34])) = ⟨0, [⟨3, ls, 0, 0⟩], 0⟩ := by
  obtain ⟨h1, h2⟩ := text_run h 34 (by decide) []
  obtain ⟨g1, g2⟩ := text_first (r := ls ++ [34])
  have h3 : textT (34 :: (ls ++ [34])) = ⟨0, 3, ls, 0, ls.length + 2⟩ := by
    unfold textT
    rw [List.drop_succ_cons, List.drop_zero, h1, if_pos h2, if_neg hn]
    simp
  rw [lexed_rest (by simp; omega), g1, rest_next (by simp) (by rw [g2, h3]) (by simp), g2, h3]
  dsimp only
  have hs := skip_ge (34 :: (ls ++ [34])) (0 + (ls.length + 2))
  have hl : (34 :: (ls ++ [34])).length = ls.length + 2 := by simp
  rw [rest_end _ (by omega)]
  rfl
/-- a letter for any byte -/
def toLetter (x : Nat) : Nat := 97 + x % 26
theorem toLetter_letter (l : List Nat) : ∀ b ∈ l.map toLetter, letterB b = true := by
  intro b hb
  obtain ⟨x, _, rfl⟩ := List.mem_map.1 hb
  unfold letterB toLetter
  simp only [Bool.and_eq_true, decide_eq_true_eq]
  omega
theorem byn_letters {ls : List Nat} (h : ∀ b ∈ ls, letterB b = true) : Byn ls := by
  intro b hb
  have := h b hb
  simp only [letterB, Bool.and_eq_true, decide_eq_true_eq] at this
  omega
theorem own_snoc {w : World} {base : Nat} {v : Value} {n : Nat} {l : List Nat} {x : Int} {d : Nat} (h : w.ownsRow base 5 1 v n (bts l ++ [.int .u8 x])) (hn : n = l.length + 1) (hx : x = (d : Nat)) : w.ownsRow base 5 1 v (l ++ [d]).length (bts (l ++ [d])) := by
  subst hn hx
  rw [bts_append, List.length_append]
  exact h
theorem letter_next {l : List Nat} {k b : Nat} (h : l[k]? = some b) : (l.take (k + 1)).map toLetter = (l.take k).map toLetter ++ [toLetter b] := by
  rw [List.take_add_one, h]
  simp

/-- the contract of 'Lex' where what is read is the call's own -/
theorem lex_own (l : List Nat) (n base : Nat) (v : Value) (w : World) (hn : l.length = n) (ho : w.ownsRow base 5 1 v n (bts l)) (hy : Byn l) (ht : Tab w) : Calls Tryd.prog 10 #[v] w (LexO w (lexed l)) := by
  obtain ⟨A, c, rfl, h1, h2, h3⟩ := own_lies ho
  exact lexN A l n c w hn h1 h2 h3 hy ht
theorem bad_byte {x : Nat} (h : ¬ (32 ≤ x ∧ x ≤ 126 ∧ x ≠ 92)) : textB x = false ∧ x ≠ 34 := by
  refine ⟨?_, by omega⟩
  rw [← Bool.not_eq_true]
  simp [textB]
  omega

theorem bad_ways {x : Nat} (h : ¬ (32 ≤ x ∧ x ≤ 126 ∧ x ≠ 92)) : x < 32 ∨ 126 < x ∨ (32 ≤ x ∧ x ≤ 126 ∧ ((x : Int) != 92) = false) := by
  rcases Nat.lt_or_ge x 32 with h1 | h1
  · exact .inl h1
  · rcases Nat.lt_or_ge 126 x with h2 | h2
    · exact .inr (.inl h2)
    · refine .inr (.inr ⟨h1, h2, ?_⟩)
      have : x = 92 := by omega
      subst this
      rfl

set_option maxRecDepth 100000 in
set_option maxHeartbeats 3200000 in
theorem texts_walk (A : Option Addr) (l : List Nat) (c x : Nat) (w : World) (hc : l.length ≤ c) (hl : Lies w w.heap.size A c (bts l)) (hy : Byn l) (hx : x < 256) (ht : Tab w) :
    Calls Tryd.prog 8 #[.slice A l.length c, .int .u8 x] w fun e w' => e = .returned (.bool true) ∧ Below w.heap.size w w' := by
  have HL := Lib.hid hl
  have HY := Lib.hid hy
  have HT := Lib.hid ht
  have hpos := ht.1
  clear hl hy ht
  obtain ⟨i0, hi, hz0, hz1, hz2⟩ := info_parts info5
  go_enter Tryd.func8, Tryd.ntmps8
  go_wp2_with fail
  refine (head_true _ HT.out).mono ?_
  rintro e w1 ⟨rfl, hb1⟩
  have BW1 := Lib.hid hb1
  have s1 := hb1.size
  clear hb1
  by_cases hbig : l.length > 1000
  · clear hi hz0 hz1 hz2
    go_wp2
    go_ret
    exact ⟨rfl, BW1.out⟩
  have ho0 := Lib.hid (own_new w1 [.int .u8 34] 1 rfl (by unfold maxLen; omega))
  have hb0 := Lib.hid (below_alloc w1 (.cells #[.int .u8 34] 5))
  go_wp2
  go_loopw [6, 7] (fun v i wr => ∃ (k : Nat), k ≤ l.length ∧ i = .int .i64 k ∧ wr.ownsRow w1.heap.size 5 1 v (34 :: (l.take k).map toLetter).length (bts (34 :: (l.take k).map toLetter)) ∧ Below w1.heap.size w1 wr) (fun _ i _ => l.length - (intOf i).toNat)
  case atStart => exact ⟨0, Nat.zero_le _, rfl, ho0.out, hb0.out⟩
  case round =>
    clear ho0 hb0
    obtain ⟨k, hk, rfl, hown, hbel⟩ := hrel
    have HO := Lib.hid hown
    have HB := Lib.hid hbel
    have sr := hbel.size
    have BW2 := Lib.hid (BW1.out.trans (HB.out.mono s1))
    clear hown hbel
    by_cases hlt : k < l.length
    · obtain ⟨ad, b, rfl, hBa, hg, hcell⟩ := (HL.out.below BW2.out).nat hlt
      have hb := byn_get HY.out hg
      have HK := Lib.hid (letter_next hg)
      have hlen : (34 :: (l.take k).map toLetter).length = k + 1 := by simp; omega
      rw [hlen] at HO
      clear hg
      generalize (l.take k).map toLetter = ms at *
      have ho2 := Lib.hid (HO.out.alloc (.cells #[.int .u8 (97 + (b : Int) % 26)] 5))
      have bnew := Lib.hid (HB.out.alloc sr (.cells #[.int .u8 (97 + (b : Int) % 26)] 5))
      have lnew : Hid (Lies (wr.alloc (.cells #[.int .u8 (97 + (b : Int) % 26)] 5)) (wr.heap.size + 1) (some ⟨wr.heap.size, 0, none⟩) 1 [.int .u8 (97 + (b : Int) % 26)]) :=
        ⟨(fun e => by cases e), fun j u hu => ⟨_, rfl, by simp, by rw [Addr.add_lit, Nat.zero_add]; exact cell_new wr [.int .u8 (97 + (b : Int) % 26)] 5 (0, 0) j hu⟩⟩
      have snew : w1.heap.size ≤ (wr.alloc (.cells #[.int .u8 (97 + (b : Int) % 26)] 5)).heap.size := by simp; omega
      go_wp2_with (at_builtin; refine wpList_append_lies rfl (.tmp 29) (.tmp 36) 22 rfl w1.heap.size 5 i0 (.int .u8 0) 1 Tryd.underlying22 hi hz0 hz1 hz2 rfl _ _ _ rfl ho2.out _ _ 1 1 [.int .u8 (97 + (b : Int) % 26)] rfl rfl lnew.out (by intro u hu; simp at hu; subst hu; rfl) (by unfold maxLen; omega) (by omega) snew ?_; intro v3 w3 ho3 hg3)
      have hb3 : Below w1.heap.size w1 w3 := bnew.out.grown hg3 snew (fun g hg => (ho2.out.lt g hg).1)
      have ho4 := own_snoc ho3 (l := 34 :: ms) (d := toLetter b) (by simp at hlen ⊢; omega) (by unfold toLetter; omega)
      go_roundw
      case rel => exact ⟨k + 1, by omega, by go_num, by rw [HK.out]; exact ho4, hb3⟩
      case measure => simp [intOf]; omega
    · obtain rfl : k = l.length := by omega
      rw [List.take_length] at HO
      have HLT := Lib.hid (toLetter_letter l)
      have hml : (l.map toLetter).length = l.length := by simp
      have HML := Lib.hid hml
      clear hml
      generalize l.map toLetter = ms at *
      have HOb := Lib.hid (own_eq HO.out (m := l.length + 1) (ys := bts (34 :: ms)) (by simp [HML.out]) rfl)
      obtain ⟨Ab, cb, rfl, k1, k2, k3⟩ := own_lies HOb.out
      have HLb := Lib.hid k3
      have hybm : Byn (34 :: ms) := by
        intro b hb
        rcases List.mem_cons.1 hb with rfl | hb
        · omega
        · exact byn_letters HLT.out b hb
      have HYm := Lib.hid hybm
      have HL31 := Lib.hid (text_open (ls := ms) (by rw [HML.out]; omega) HLT.out)
      have s2 := BW2.out.size
      clear k3 hybm HO
      go_wp2_with fail
      refine (lexN Ab (34 :: ms) (l.length + 1) cb _ (by simp [HML.out]) k1 k2 HLb.out HYm.out (HT.out.below BW2.out hpos)).mono ?_
      rw [HL31.out]
      rintro e w2 ⟨v2, rfl, _, hb2⟩
      have BW3 := Lib.hid (BW2.out.trans (hb2.mono s2))
      have s3 := BW3.out.size
      have HLc := Lib.hid ((HLb.out.below hb2).more hb2.size)
      clear hb2
      have ho0 := Lib.hid (own_new w2 [] 0 rfl (Nat.zero_le _))
      have hb0 := Lib.hid (below_alloc w2 (.cells #[] 5))
      have hz0' : w2.heap.size ≤ (w2.alloc (.cells #[] 5)).heap.size := by simp
      have HZ0 := Lib.hid hz0'
      clear hz0'
      go_wp2_with (first
        | (at_builtin; refine wpList_append_lies rfl (.tmp 45) (.tmp 46) 22 rfl w2.heap.size 5 i0 (.int .u8 0) 1 Tryd.underlying22 hi hz0 hz1 hz2 rfl _ _ _ rfl ho0.out w2.heap.size Ab (l.length + 1) cb (bts (34 :: ms)) rfl (by simp [bts, HML.out]) (HLc.out.below hb0.out) (bts_one _) (by unfold maxLen; omega) (by omega) HZ0.out ?_; intro v3 w3 ho3 hg3
           have hb3 : Below w2.heap.size w2 w3 := hb0.out.grown hg3 HZ0.out (fun k hk => (ho0.out.lt k hk).1)
           have hs3 := hb3.size
           have ho4 := Lib.hid (ho3.alloc (.cells #[.int .u8 34] 5))
           have hb4 := Lib.hid (hb3.alloc hs3 (.cells #[.int .u8 34] 5))
           have lnew : Hid (Lies (w3.alloc (.cells #[.int .u8 34] 5)) (w3.heap.size + 1) (some ⟨w3.heap.size, 0, none⟩) 1 [.int .u8 34]) := ⟨(fun e => by cases e), fun j u hu => ⟨_, rfl, by simp, by rw [Addr.add_lit, Nat.zero_add]; exact cell_new w3 [.int .u8 34] 5 (0, 0) j hu⟩⟩
           have HZ4 := Lib.hid hb4.out.size
           clear ho3 hg3 hb3)
        | (at_builtin; refine wpList_append_lies rfl (.tmp 47) (.tmp 48) 22 rfl w2.heap.size 5 i0 (.int .u8 0) 1 Tryd.underlying22 hi hz0 hz1 hz2 rfl _ _ _ rfl ho4.out _ _ 1 1 [.int .u8 34] rfl rfl lnew.out (by intro u hu; simp at hu; subst hu; rfl) (by unfold maxLen; omega) (by omega) HZ4.out ?_; intro v5 w5 ho5 hg5
           have hb5 : Below w2.heap.size w2 w5 := hb4.out.grown hg5 HZ4.out (fun k hk => (ho4.out.lt k hk).1)))
      have hm34 : ([] ++ bts (34 :: ms)) ++ [.int .u8 34] = bts (34 :: (ms ++ [34])) := by
        rw [show (34 :: (ms ++ [34])) = (34 :: ms) ++ [34] from rfl, bts_append]
        rfl
      have HO5 := Lib.hid (own_eq ho5 (m := l.length + 2) (ys := bts (34 :: (ms ++ [34]))) (by omega) hm34)
      have BW5 := Lib.hid (BW3.out.trans (hb5.mono s3))
      have hb5' := Lib.hid hb5
      have s5 := BW5.out.size
      clear ho5 hg5 hm34 ho4 hb4 lnew HZ4 ho0 hb0 HZ0 hb5
      have HYn : Hid (Byn (34 :: (ms ++ [34]))) := by
        show Byn ((34 :: ms) ++ [34])
        exact HYm.out.append (by intro b hb; simp at hb; omega)
      by_cases h64 : l.length > 64
      · have HLX := Lib.hid (text_long (ls := ms) (by rw [HML.out]; omega) HLT.out (by rw [HML.out]; exact h64))
        clear hi hz0 hz1 hz2
        refine (lex_own _ (l.length + 2) _ v5 w5 (by simp [HML.out]) HO5.out HYn.out (HT.out.below BW5.out hpos)).mono ?_
        rw [HLX.out]
        rintro e w6 ⟨v6, rfl, _, hb6⟩
        have hfin := BW5.out.trans (hb6.mono s5)
        clear hb6
        go_wp2
        go_ret
        exact ⟨rfl, hfin⟩
      have HLX := Lib.hid (text_ok (ls := ms) HLT.out (by rw [HML.out]; exact h64))
      refine (lex_own _ (l.length + 2) _ v5 w5 (by simp [HML.out]) HO5.out HYn.out (HT.out.below BW5.out hpos)).mono ?_
      rw [HLX.out]
      rintro e w6 ⟨v6, rfl, ho6, hb6⟩
      obtain ⟨g, cap, rfl, hg1, hg2, hrow⟩ := own_tok ho6 (by simp)
      have T1 : w6.cell? ⟨g, 0, none⟩ = some (.int .i64 3) := (hrow 0 _ rfl).1
      have T2 : w6.cell? ⟨g, 1, none⟩ = some (.string (strN ms)) := (hrow 0 _ rfl).2.1
      have BW6 := Lib.hid (BW5.out.trans (hb6.mono s5))
      have s6 := BW6.out.size
      have hb26 := Lib.hid (hb5'.out.trans (hb6.mono hb5'.out.size))
      have HLd := Lib.hid (HLc.out.below hb26.out)
      clear ho6 hb6 hrow HO5 hb5'
      have hdr : ((34 :: ms).drop 1).take l.length = ms := by rw [List.drop_succ_cons, List.drop_zero, ← HML.out, List.take_length]
      have HCV : Hid (∀ n, (convert 22 9 (.slice (if cb = 1 then Ab else Ab.map (fun x => x.add 1)) l.length (cb - 1))).run Tryd.prog (w6.drewN n) = .ok (.string (strN ms)) (w6.drewN n)) := by
        intro n
        have h := run_part (HLd.out.below (below_drewN (Below.refl w2.heap.size w6) n)) (p := 1) (n := l.length) (by simp [HML.out]; omega) (by simp [HML.out]; omega)
        rw [hdr] at h
        exact h
      clear hdr
      have hle1 : (1 : Int) ≤ (l.length : Int) + 1 := by omega
      obtain ⟨gb, rfl, hgb⟩ := own_addr HOb.out (by omega)
      have hcv := HCV.out
      by_cases hc1 : cb = 1
      · rw [if_pos hc1] at hcv
        subst hc1
        obtain rfl : l = [] := List.eq_nil_of_length_eq_zero (by omega)
        obtain rfl : ms = [] := List.eq_nil_of_length_eq_zero HML.out
        simp only [List.length_nil, Nat.sub_self] at hcv
        go_wp2
        go_quiet (fail)
        have HM0 : Hid (([] : List Nat).length = 0) := rfl
        have BW7 := Lib.hid (below_drewN BW6.out nq)
        have HLe := Lib.hid (HLd.out.below (below_drewN (Below.refl w2.heap.size w6) nq))
        have hs7 : w2.heap.size ≤ (w6.drewN nq).heap.size := hb26.out.size
        clear hcv T1 T2 HLd BW6
        generalize w6.drewN nq = w7 at *
        by_cases hok : 32 ≤ x ∧ x ≤ 126 ∧ x ≠ 92
        · obtain ⟨o1, o2, o3⟩ := hok
          have e92 : ((x : Int) != 92) = true := by rw [bne_iff_ne]; omega
          go_wp2
          go_ret
          exact ⟨rfl, BW7.out⟩
        have hbb := bad_byte hok
        have HLY := Lib.hid (text_bad (ls := ([] : List Nat)) (by rw [HM0.out]; omega) HLT.out hbb.1 hbb.2)
        have HYx : Hid (Byn (34 :: (([] : List Nat) ++ [x, 34]))) := by
          show Byn ((34 :: ([] : List Nat)) ++ [x, 34])
          exact HYm.out.append (by intro b hb; simp at hb; omega)
        clear hbb
        have s7 := BW7.out.size
        have ho0 := Lib.hid (own_new w7 [] 0 rfl (Nat.zero_le _))
        have hb0 := Lib.hid (below_alloc w7 (.cells #[] 5))
        have HZ0 : Hid (w7.heap.size ≤ (w7.alloc (.cells #[] 5)).heap.size) := by show _ ≤ _; simp
        have HM2 : Hid (([] ++ bts (34 :: ([] : List Nat))) ++ [.int .u8 (x : Nat), .int .u8 34] = bts (34 :: (([] : List Nat) ++ [x, 34]))) := by
          show _ = _
          rw [show (34 :: (([] : List Nat) ++ [x, 34])) = (34 :: ([] : List Nat)) ++ [x, 34] from rfl, bts_append]
          rfl
        rcases bad_ways hok with hx1 | hx1 | ⟨hx1, hx2, hx3⟩
        all_goals
          clear hok
          go_wp2_with (first
            | (at_builtin; refine wpList_append_lies rfl (.tmp 104) (.tmp 105) 22 rfl w7.heap.size 5 i0 (.int .u8 0) 1 Tryd.underlying22 hi hz0 hz1 hz2 rfl _ _ _ rfl ho0.out w7.heap.size (some ⟨gb, 0, none⟩) (0 + 1) 1 (bts (34 :: ([] : List Nat))) rfl (by rw [bts_length, List.length_cons, HM0.out]) ((HLe.out.more hs7).below hb0.out) (bts_one _) (by unfold maxLen; omega) (by omega) HZ0.out ?_; intro v8 w8 ho8 hg8
               have hb8 : Below w7.heap.size w7 w8 := hb0.out.grown hg8 HZ0.out (fun k hk => (ho0.out.lt k hk).1)
               have hs8 := hb8.size
               have ho9 := Lib.hid (ho8.alloc (.cells #[.int .u8 (x : Nat), .int .u8 34] 5))
               have hb9 := Lib.hid (hb8.alloc hs8 (.cells #[.int .u8 (x : Nat), .int .u8 34] 5))
               have lnew : Hid (Lies (w8.alloc (.cells #[.int .u8 (x : Nat), .int .u8 34] 5)) (w8.heap.size + 1) (some ⟨w8.heap.size, 0, none⟩) 2 [.int .u8 (x : Nat), .int .u8 34]) := ⟨(fun e => by cases e), fun j u hu => ⟨_, rfl, by simp, by rw [Addr.add_lit, Nat.zero_add]; exact cell_new w8 [.int .u8 (x : Nat), .int .u8 34] 5 (0, 0) j hu⟩⟩
               have HZ9 := Lib.hid hb9.out.size
               clear ho8 hg8 hb8)
            | (at_builtin; refine wpList_append_lies rfl (.tmp 106) (.tmp 108) 22 rfl w7.heap.size 5 i0 (.int .u8 0) 1 Tryd.underlying22 hi hz0 hz1 hz2 rfl _ _ _ rfl ho9.out _ _ 2 2 [.int .u8 (x : Nat), .int .u8 34] rfl rfl lnew.out (by intro u hu; simp at hu; rcases hu with rfl | rfl <;> rfl) (by unfold maxLen; omega) (by omega) HZ9.out ?_; intro va wa hoa hga
               have hba : Below w7.heap.size w7 wa := hb9.out.grown hga HZ9.out (fun k hk => (ho9.out.lt k hk).1)))
          have BWa := Lib.hid (BW7.out.trans (hba.mono s7))
          have sa := BWa.out.size
          have HOa := Lib.hid (own_eq hoa (m := 0 + 3) (ys := bts (34 :: (([] : List Nat) ++ [x, 34]))) (by omega) HM2.out)
          clear hoa hga hba ho9 hb9 lnew HZ9 hi hz0 hz1 hz2
          refine (lex_own _ (0 + 3) _ va wa (by rw [List.length_cons, List.length_append, HM0.out]; rfl) HOa.out HYx.out (HT.out.below BWa.out hpos)).mono ?_
          rw [HLY.out]
          rintro e wb ⟨vb, rfl, _, hbb⟩
          have hfin := BWa.out.trans (hbb.mono sa)
          clear hbb
          go_wp2
          go_ret
          exact ⟨rfl, hfin⟩
      · rw [if_neg hc1, Option.map_some, Addr.add_lit, Nat.zero_add] at hcv
        go_wp2
        go_quiet (fail)
        have HM0 := HML
        have BW7 := Lib.hid (below_drewN BW6.out nq)
        have HLe := Lib.hid (HLd.out.below (below_drewN (Below.refl w2.heap.size w6) nq))
        have hs7 : w2.heap.size ≤ (w6.drewN nq).heap.size := hb26.out.size
        clear hcv T1 T2 HLd BW6
        generalize w6.drewN nq = w7 at *
        by_cases hok : 32 ≤ x ∧ x ≤ 126 ∧ x ≠ 92
        · obtain ⟨o1, o2, o3⟩ := hok
          have e92 : ((x : Int) != 92) = true := by rw [bne_iff_ne]; omega
          go_wp2
          go_ret
          exact ⟨rfl, BW7.out⟩
        have hbb := bad_byte hok
        have HLY := Lib.hid (text_bad (ls := ms) (by rw [HM0.out]; omega) HLT.out hbb.1 hbb.2)
        have HYx : Hid (Byn (34 :: (ms ++ [x, 34]))) := by
          show Byn ((34 :: ms) ++ [x, 34])
          exact HYm.out.append (by intro b hb; simp at hb; omega)
        clear hbb
        have s7 := BW7.out.size
        have ho0 := Lib.hid (own_new w7 [] 0 rfl (Nat.zero_le _))
        have hb0 := Lib.hid (below_alloc w7 (.cells #[] 5))
        have HZ0 : Hid (w7.heap.size ≤ (w7.alloc (.cells #[] 5)).heap.size) := by show _ ≤ _; simp
        have HM2 : Hid (([] ++ bts (34 :: ms)) ++ [.int .u8 (x : Nat), .int .u8 34] = bts (34 :: (ms ++ [x, 34]))) := by
          show _ = _
          rw [show (34 :: (ms ++ [x, 34])) = (34 :: ms) ++ [x, 34] from rfl, bts_append]
          rfl
        rcases bad_ways hok with hx1 | hx1 | ⟨hx1, hx2, hx3⟩
        all_goals
          clear hok
          go_wp2_with (first
            | (at_builtin; refine wpList_append_lies rfl (.tmp 104) (.tmp 105) 22 rfl w7.heap.size 5 i0 (.int .u8 0) 1 Tryd.underlying22 hi hz0 hz1 hz2 rfl _ _ _ rfl ho0.out w7.heap.size (some ⟨gb, 0, none⟩) (l.length + 1) cb (bts (34 :: ms)) rfl (by rw [bts_length, List.length_cons, HM0.out]) ((HLe.out.more hs7).below hb0.out) (bts_one _) (by unfold maxLen; omega) (by omega) HZ0.out ?_; intro v8 w8 ho8 hg8
               have hb8 : Below w7.heap.size w7 w8 := hb0.out.grown hg8 HZ0.out (fun k hk => (ho0.out.lt k hk).1)
               have hs8 := hb8.size
               have ho9 := Lib.hid (ho8.alloc (.cells #[.int .u8 (x : Nat), .int .u8 34] 5))
               have hb9 := Lib.hid (hb8.alloc hs8 (.cells #[.int .u8 (x : Nat), .int .u8 34] 5))
               have lnew : Hid (Lies (w8.alloc (.cells #[.int .u8 (x : Nat), .int .u8 34] 5)) (w8.heap.size + 1) (some ⟨w8.heap.size, 0, none⟩) 2 [.int .u8 (x : Nat), .int .u8 34]) := ⟨(fun e => by cases e), fun j u hu => ⟨_, rfl, by simp, by rw [Addr.add_lit, Nat.zero_add]; exact cell_new w8 [.int .u8 (x : Nat), .int .u8 34] 5 (0, 0) j hu⟩⟩
               have HZ9 := Lib.hid hb9.out.size
               clear ho8 hg8 hb8)
            | (at_builtin; refine wpList_append_lies rfl (.tmp 106) (.tmp 108) 22 rfl w7.heap.size 5 i0 (.int .u8 0) 1 Tryd.underlying22 hi hz0 hz1 hz2 rfl _ _ _ rfl ho9.out _ _ 2 2 [.int .u8 (x : Nat), .int .u8 34] rfl rfl lnew.out (by intro u hu; simp at hu; rcases hu with rfl | rfl <;> rfl) (by unfold maxLen; omega) (by omega) HZ9.out ?_; intro va wa hoa hga
               have hba : Below w7.heap.size w7 wa := hb9.out.grown hga HZ9.out (fun k hk => (ho9.out.lt k hk).1)))
          have BWa := Lib.hid (BW7.out.trans (hba.mono s7))
          have sa := BWa.out.size
          have HOa := Lib.hid (own_eq hoa (m := l.length + 3) (ys := bts (34 :: (ms ++ [x, 34]))) (by omega) HM2.out)
          clear hoa hga hba ho9 hb9 lnew HZ9 hi hz0 hz1 hz2
          refine (lex_own _ (l.length + 3) _ va wa (by rw [List.length_cons, List.length_append, HM0.out]; rfl) HOa.out HYx.out (HT.out.below BWa.out hpos)).mono ?_
          rw [HLY.out]
          rintro e wb ⟨vb, rfl, _, hbb⟩
          have hfin := BWa.out.trans (hbb.mono sa)
          clear hbb
          go_wp2
          go_ret
          exact ⟨rfl, hfin⟩
end Go.Proofs.YtdmjlgjnboofdaaDoor
