/- The live question ahead of every statement: it is answered yes. Conditions: the table of signs lies as the program lays it. -/
import Derived.Test.YtecjkmemihmkcaaDoorZn
namespace Go.Proofs.YtecjkmemihmkcaaDoor
set_option maxRecDepth 100000
open Go.RowKit
set_option linter.unusedSimpArgs false
set_option linter.unusedVariables false

theorem get_n (A : Option Addr) (l : List Int) (n c : Nat) (w : World) (hn : l.length = n) (hc : n ≤ c) (hcm : c ≤ maxLen) (hl : Lies w w.heap.size A c (cellsOf l)) (hby : Byt l) :
    Calls Tryd.prog 14 #[.slice A n c] w (GetGot l w) := by
  subst hn
  exact get A l c w hc hcm hl hby
theorem sign_one (w : World) (ht : Tab w) : Calls Tryd.prog 19 #[.int .i64 1] w fun e w' => e = .returned (.string ⟨#[43]⟩) ∧ w = w' :=
  (sign 1 w (by omega) (by omega) ht).mono fun e w' h => ⟨by rw [h.1]; rfl, h.2⟩
theorem number_last (w : World) (ht : Tab w) : Calls Tryd.prog 21 #[.string ⟨#[33]⟩] w fun e w' => e = .returned (.int .i64 12) ∧ w = w' :=
  (number [33] w (by unfold Byt; decide) ht).mono fun e w' h => ⟨by rw [h.1]; rfl, h.2⟩
abbrev emptyM : Md := ⟨[], []⟩
theorem empty_fit : MdFit emptyM := ⟨fun c hc => (by cases hc), fun s hs => (by cases hs)⟩
theorem get_empty : getR (mdB emptyM) = .ok emptyM 12 := get_put empty_fit rfl
theorem wr_parts_r {m : Md} (hm : MdFit m) (ok : okMd m = true) (r : List Int) : partsR (mdB m ++ r) = .ok m (mdB m).length := by
  obtain ⟨h1, h2, h3, h4⟩ := okMd_is ok
  have := wr_bind (f := fun l p => rowOf l 64 (codeR l) p) (g := fun cs l p => (rowR l p).bind fun ts p => .ok (⟨cs, ts⟩ : Md) p) (wr_rowOf (b := cdB) (xs := m.codes) (by omega) (by omega) fun c hc => wr_code (hm.codes c hc) (List.all_eq_true.1 h3 c hc)) <|
    wr_bind (f := rowR) (g := fun ts _ p => .ok (⟨m.codes, ts⟩ : Md) p) (wr_row (ls := m.texts) (by omega) fun s hs => by have := okTexts ok s hs; omega) (wr_pure (⟨m.codes, m.texts⟩ : Md))
  simp only [List.append_nil, List.append_assoc] at this
  have := this (mdB m ++ r) 0 r (by simp [mdB])
  simp only [Int.natCast_zero, Int.zero_add] at this
  unfold partsR
  rw [this]
  rfl
theorem get_one : getR (mdB emptyM ++ [0]) = .bad 111 := by
  unfold getR
  rw [wr_parts_r empty_fit rfl [0], Rd.bind_ok, if_neg]
  intro h
  have := h.1
  simp only [List.length_append, List.length_singleton, Int.natCast_add] at this
  omega

set_option maxHeartbeats 1600000 in
theorem head_true (w : World) (ht : Tab w) : Calls Tryd.prog 10 #[] w (Says true w) := by
  obtain ⟨i0, hi, hz0, hz1, hz2⟩ := info_parts info5
  have HT := Lib.hid ht
  have HL : Hid ((mdB emptyM).length = 12) := Lib.hid rfl
  have HY : Hid (Byt (mdB emptyM)) := Lib.hid (mdB_byt empty_fit)
  have HG := Lib.hid get_empty
  have HG1 := Lib.hid get_one
  have K := Lib.hid (put emptyM (.agg #[.slice none 0 0, .slice none 0 0]) w ⟨_, _, rfl, CodesV.nothing _ _, GridV.nothing _ _⟩ (fun c hc => by cases hc))
  have HOK : Hid (okMd emptyM = true) := Lib.hid rfl
  have h0 := ht.1
  clear ht
  generalize mdB emptyM = l at *
  generalize hb0 : okMd emptyM = b0 at *
  clear hb0
  go_enter Tryd.func10, Tryd.ntmps10
  go_wp2_with fail
  refine K.out.mono ?_
  clear K
  rintro e w1 ⟨hb1, ⟨_, A, c, rfl, h1, h2, h3, h4⟩ | ⟨hno, _⟩⟩
  · rw [HL.out] at h1 h4 ⊢
    have HB1 := Lib.hid hb1
    have K := Lib.hid (get_n A l 12 c w1 HL.out h1 h2 h3 HY.out)
    have HO1 := Lib.hid h4
    have hs1 := hb1.size
    clear h3 h4 hb1
    go_wp2_with fail
    refine K.out.mono ?_
    clear K
    rintro e w2 ⟨hb2, ⟨m, q, V, hm, rfl, hV, _⟩ | ⟨E, hE, _⟩⟩
    · rw [HG.out] at hm
      injection hm with hm _
      subst hm
      obtain ⟨C, T, rfl, ⟨AC, cC, vs, rfl, _⟩, ⟨AT, cT, rfl, _⟩⟩ := hV
      have hs2 := hb2.size
      have HB2 := Lib.hid (HB1.out.trans (hb2.mono hs1))
      have HO2 := Lib.hid (own_below HO1.out hb2 (Nat.le_refl _))
      clear hb2
      simp only [List.length_nil]
      go_upto_region 3 with fail
      have HB3 := Lib.hid (HB2.out.alloc HB2.out.size (.cells #[.slice AC 0 cC, .slice AT 0 cT] 25))
      have HO3 := Lib.hid (own_below HO2.out ((Below.refl w2.heap.size w2).alloc (Nat.le_refl _) (.cells #[.slice AC 0 cC, .slice AT 0 cT] 25)) (Nat.le_refl _))
      have hq0 : (w2.alloc (.cells #[.slice AC 0 cC, .slice AT 0 cT] 25)).heap[w2.heap.size]? = some (.cells #[.slice AC 0 cC, .slice AT 0 cT] 25) := heap_alloc_new w2 _
      have HQ := Lib.hid hq0
      have hlt3 : w2.heap.size < (w2.alloc (.cells #[.slice AC 0 cC, .slice AT 0 cT] 25)).heap.size := by simp
      have hne3 : (Value.slice A 12 c).ownBlock ≠ some w2.heap.size := own_not HO2.out (Nat.le_refl _)
      clear hq0
      have hs3 : w.heap.size ≤ w2.heap.size + 1 := by have := HB2.out.size; omega
      generalize hw3 : w2.alloc (.cells #[.slice AC 0 cC, .slice AT 0 cT] 25) = w3 at *
      have hsz3 : w3.heap.size = w2.heap.size + 1 := by rw [← hw3]; simp
      clear hw3
      have hs4 : w.heap.size ≤ w3.heap.size := by omega
      have HB4 := Lib.hid (HB3.out.alloc hs4 (.cells #[.int .u8 0] 5))
      have HO4 := Lib.hid (own_below HO3.out ((Below.refl w3.heap.size w3).alloc (Nat.le_refl _) (.cells #[.int .u8 0] 5)) (Nat.le_refl _))
      have HA : Hid (Lies (w3.alloc (.cells #[.int .u8 0] 5)) (w3.heap.size + 1) (some ⟨w3.heap.size, 0, none⟩) 1 [.int .u8 0]) := Lib.hid ⟨(fun e => by cases e), fun j u hu => ⟨_, rfl, by simp, by rw [Addr.add_mid]; exact range_of (cs := [.int .u8 0]) (heap_alloc_new w3 _) j u hu⟩⟩
      have HS4 := Lib.hid hs4
      have HQ4 : Hid ((w3.alloc (.cells #[.int .u8 0] 5)).heap[w2.heap.size]? = some (.cells #[.slice AC 0 cC, .slice AT 0 cT] 25)) := Lib.hid (by rw [Below.heap_alloc _ _ _ hlt3]; exact HQ.out)
      clear hsz3 hs3 hs4
      go_wp2_with (at_builtin; refine wpList_append_gro _ rfl (.tmp 18) (.tmp 19) 26 rfl w.heap.size 5 i0 (.int .u8 0) 1 1 Tryd.underlying26 hi hz0 hz1 hz2 rfl (by omega) _ 12 _ rfl HO4.out (w3.heap.size + 1) (some ⟨w3.heap.size, 0, none⟩) 1 1 [.int .u8 0] rfl rfl HA.out (by simp [Value.oneCell']) (by unfold maxLen; omega) (by omega) HB4.out.size ?_; intro v5 w5 ho5 hg5)
      have HB5 := Lib.hid (HB4.out.trans (hg5.below HO4.out HB4.out.size))
      have HQ5 : Hid (w5.heap[w2.heap.size]? = some (.cells #[.slice AC 0 cC, .slice AT 0 cT] 25)) := Lib.hid (by rw [(hg5.kept (by simp; omega) hne3).1]; exact HQ4.out)
      have ho6 : w5.ownsRow w.heap.size 5 1 v5 13 (cellsOf (l ++ [0])) := own_eq ho5 rfl (by simp [cellsOf])
      obtain ⟨A5, c5, rfl, k1, k2, k3⟩ := own_lies ho6
      have K := Lib.hid (get_n A5 (l ++ [0]) 13 c5 w5 (by rw [List.length_append, HL.out]; rfl) k1 k2 k3 (HY.out.append (by unfold Byt; decide)))
      clear ho5 hg5 ho6 k3 hne3 hlt3
      refine K.out.mono ?_
      clear K
      rintro e w6 ⟨hb6, ⟨m, q, V, hm, _⟩ | ⟨E, hE, hne, rfl⟩⟩
      · rw [HG1.out] at hm
        cases hm
      · rw [HG1.out] at hE
        injection hE with hE
        subst hE
        have HB6 := Lib.hid (HB5.out.trans (hb6.mono HB5.out.size))
        have HQ6 : Hid (w6.heap[w2.heap.size]? = some (.cells #[.slice AC 0 cC, .slice AT 0 cT] 25)) := Lib.hid (by rw [hb6.block _ (lt_of_some HQ5.out)]; exact HQ5.out)
        clear hb6
        go_upto_region 4 with fail
        have HB7 := Lib.hid (HB6.out.alloc HB6.out.size (.cells #[.slice none 0 0, .slice none 0 0] 25))
        have HQ7 : Hid ((w6.alloc (.cells #[.slice none 0 0, .slice none 0 0] 25)).heap[w2.heap.size]? = some (.cells #[.slice AC 0 cC, .slice AT 0 cT] 25)) := Lib.hid (by rw [Below.heap_alloc _ _ _ (lt_of_some HQ6.out)]; exact HQ6.out)
        generalize w6.alloc (.cells #[.slice none 0 0, .slice none 0 0] 25) = w7 at *
        have hc0 : w7.cell? ⟨w2.heap.size, 0, none⟩ = some (.slice AC 0 cC) := by rw [cell_of_row _ _ _ _ _ _ HQ7.out]; rfl
        have hT7 : Tab w7 := HT.out.below HB7.out h0
        have K1 := Lib.hid (sign_one w7 hT7)
        have K2 := Lib.hid (number_last w7 hT7)
        go_wp2_with fail
        refine K1.out.mono ?_
        rintro e w8 ⟨rfl, rfl⟩
        go_wp2_with fail
        refine K2.out.mono ?_
        rintro e w8 ⟨rfl, rfl⟩
        go_wp2
        go_ret
        exact ⟨rfl, HB7.out⟩
    · rw [HG.out] at hE
      cases hE
  · rw [HOK.out] at hno
    cases hno

end Go.Proofs.YtecjkmemihmkcaaDoor
