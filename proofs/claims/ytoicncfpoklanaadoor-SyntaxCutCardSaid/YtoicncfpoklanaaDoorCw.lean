/- The walk of SyntaxCut: it returns true, and nothing that was there has changed. Conditions: none beyond what its arguments are; the tables lie as the program lays them. -/
import Derived.Test.YtoicncfpoklanaaDoorWj
import Derived.Test.YtoicncfpoklanaaDoorLq
import Derived.Deep.DeepCutAuto
namespace Go.Proofs.YtoicncfpoklanaaDoor
open Go.RowKit
set_option maxRecDepth 100000
set_option linter.unusedSimpArgs false
set_option linter.unusedVariables false

theorem Lies.preN {w : World} {B : Nat} {A : Option Addr} {c : Nat} {l : List Nat} (h : Lies w B A c (bts l)) (t : Nat) : Lies w B A c (bts (l.take t)) := by
  have := Lies.pre (l := ints l) h t
  simpa [bts, ints, List.map_take] using this
theorem byn_take {l : List Nat} (h : Byn l) (n : Nat) : Byn (l.take n) := h.sub fun x hx => List.mem_of_mem_take hx
theorem int_back (q : Nat) : (((q + 1 : Nat) : Int) - 1) = (q : Int) := by omega

set_option maxHeartbeats 3200000 in
theorem cut_walk (A : Option Addr) (l : List Nat) (c cut : Nat) (w : World) (hc : l.length ≤ c) (hcm : c ≤ maxLen) (hl : Lies w w.heap.size A c (bts l)) (hy : Byn l) (ht : Tab w) :
    Calls Tryd.prog 5 #[.slice A l.length c, .int .u16 cut] w fun e w' => e = .returned (.bool true) ∧ Below w.heap.size w w' := by
  have HT := Lib.hid ht
  have hpos := ht.1
  have K := Lib.hid (head_true w ht)
  have HL := Lib.hid hl
  have HY := Lib.hid hy
  have HCm := Lib.hid hcm
  unfold maxLen at hcm
  clear ht hl hy
  go_enter Tryd.func5, Tryd.ntmps5
  go_wp2_with fail
  (with_reducible refine K.out.mono ?_)
  clear K
  rintro e w1 ⟨rfl, hb1⟩
  have BW1 := Lib.hid hb1
  have s1 := hb1.size
  clear hb1
  cases hp : parsed l with
  | mk err fs place =>
    have K := Lib.hid (parseZ A l l.length c w1 rfl hc HCm.out ((HL.out.below BW1.out).more s1) HY.out (HT.out.below BW1.out hpos) err place fs hp err place rfl rfl)
    have HP := Lib.hid hp
    clear hp
    go_wp2_with fail
    (with_reducible refine K.out.mono ?_)
    clear K
    rintro e w2 ⟨V, rfl, hf2, hb2⟩
    obtain ⟨A2, c2, rfl⟩ : ∃ A c, V = .slice A fs.length c := by
      obtain ⟨_, _, h, _⟩ := hf2
      exact row_slice h
    have s2 := hb2.size
    have b2a := below_alloc w2 (.cells #[.slice A2 fs.length c2] 26)
    have s2a := b2a.size
    have BW2 := Lib.hid ((BW1.out.trans (hb2.mono s1)).trans (b2a.mono (by omega)))
    clear hf2 hb2 b2a
    by_cases he : err = 0
    · have q1 : (((err : Nat) : Int) != 0) = false := by rw [he]; rfl
      by_cases hfs : fs = []
      · have q2 : (((fs.length : Nat) : Int) == 0) = true := by rw [hfs]; rfl
        clear hfs he
        go_wp2
        go_ret
        exact ⟨rfl, BW2.out⟩
      · have q2 : (((fs.length : Nat) : Int) == 0) = false := by
          rw [beq_eq_false_iff_ne]
          have := List.length_pos_iff.2 hfs
          omega
        obtain ⟨p, hp1, hp2, hp3, hp4⟩ := cut_model (by have := HP.out; rw [he] at this; exact this) hfs
        have HM : Hid (l[p]? = some 125 ∧ white false (l.drop (p + 1)) = (l.drop (p + 1)).length ∧ parsed (l.take p) = ⟨41, [], p⟩) := ⟨hp2, hp3, hp4⟩
        clear hp2 hp3 hp4 he hfs HP
        go_upto_region 5 with fail
        have HL2 := Lib.hid (HL.out.below BW2.out)
        generalize w2.alloc (.cells #[.slice A2 fs.length c2] 26) = w3 at *
        obtain ⟨ad, b0, rfl, _⟩ := HL2.out.nat hp1
        obtain ⟨n, hn⟩ : ∃ n, l.length = n + 1 := ⟨l.length - 1, by omega⟩
        have HN := Lib.hid hn
        rw [hn]
        have hcn : n + 1 ≤ c := by omega
        have hpn : p ≤ n := by omega
        clear hc hp1 hn
        go_wp2
        go_loop [9] (fun i => ∃ j : Nat, p ≤ j ∧ j ≤ n ∧ i = .int .i64 ((j : Int) + 1) ∧ Hid (∀ i, j < i → l[i]? ≠ some 125)) (fun i => (intOf i).toNat)
        case atStart => exact ⟨n, hpn, Nat.le_refl _, by go_num, fun i hi => by rw [List.getElem?_eq_none (by have := HN.out; omega)]; simp⟩
        case round =>
          obtain ⟨j, hj1, hj2, rfl, HJ⟩ := hrel
          obtain ⟨ad', b, e1, _, hg, hcell⟩ := HL2.out.nat (k := j) (by have := HN.out; omega)
          injection e1 with e1
          subst e1
          have HG := Lib.hid hg
          have hb := byn_get HY.out hg
          clear hg
          by_cases hb125 : b = 125
          · have qb : (((b : Nat) : Int) != 125) = false := by rw [hb125]; rfl
            have HE : Hid (l[j]? = some 125) := by show _ = _; rw [HG.out, hb125]
            clear hb125
            go_wp2
            clear hcell hb qb
            go_loop [10] (fun i => ∃ k : Nat, j + 1 ≤ k ∧ k ≤ n + 1 ∧ i = .int .i64 k) (fun i => (n + 1) - (intOf i).toNat)
            case atStart => exact ⟨j + 1, Nat.le_refl _, by omega, by go_num⟩
            case round =>
              obtain ⟨k, hk1, hk2, rfl⟩ := hrel
              by_cases hkn : k < n + 1
              · obtain ⟨ad', b2, e1, _, hg2, hcell⟩ := HL2.out.nat (k := k) (by have := HN.out; omega)
                injection e1 with e1
                subst e1
                have hb2 := byn_get HY.out hg2
                clear hg2
                by_cases hb35 : b2 = 35
                · have qb : (((b2 : Nat) : Int) == 35) = true := by rw [hb35]; rfl
                  clear hb35
                  go_wp2
                  go_ret
                  exact ⟨rfl, BW2.out⟩
                · have qb : (((b2 : Nat) : Int) == 35) = false := by rw [beq_eq_false_iff_ne]; omega
                  clear hb35
                  go_wp2
                  go_round
                  case rel => exact ⟨k + 1, by omega, by omega, by go_num⟩
                  case measure => simp [intOf]; omega
              · go_wp2
                go_loop [11] (fun i => ∃ q : Nat, q ≤ j + 1 ∧ i = .int .i64 ((q : Int) - 1) ∧ Hid (∀ x, q ≤ x → x ≤ j → l[x]? ≠ some 35)) (fun i => (intOf i + 1).toNat)
                case atStart => exact ⟨j + 1, Nat.le_refl _, by rw [int_back], fun x h1 h2 => by omega⟩
                case round =>
                  obtain ⟨q, hq1, rfl, HQ⟩ := hrel
                  have fin : ∀ j0, j0 = p → l[j0]? = some 125 → j0 ≤ n → Calls Tryd.prog 9 #[.slice (some ad) j0 c] w3 (ParseZ w3 [] 41 j0) := fun j0 e0 _ hjn => by
                    subst e0
                    exact parseZ (some ad) (l.take j0) j0 c w3 (by rw [List.length_take]; have := HN.out; omega) (by omega) HCm.out ((HL2.out.preN j0).more BW2.out.size) (byn_take HY.out j0) (HT.out.below BW2.out hpos) 41 j0 [] HM.out.2.2 41 j0 rfl rfl
                  have hj0 : (((j : Int) + 1) == 0) = false := by rw [beq_eq_false_iff_ne]; omega
                  cases q with
                  | zero =>
                    rw [show (((0 : Nat) : Int) - 1) = -1 by rfl]
                    have hjp : j = p := last_at HM.out.1 HM.out.2.1 HE.out (fun i hi => HJ.out i hi) (fun i hi _ => HQ.out i (Nat.zero_le _) hi)
                    have K := Lib.hid (fin j hjp HE.out hj2)
                    clear fin hjp
                    go_wp2_with fail
                    (with_reducible refine K.out.mono ?_)
                    clear K
                    rintro e w5 ⟨V, rfl, hf5, hb5⟩
                    obtain ⟨A5, c5, rfl⟩ : ∃ A c, V = .slice A 0 c := by
                      obtain ⟨_, _, h, _⟩ := hf5
                      exact row_slice h
                    have b5a := below_alloc w5 (.cells #[.slice A5 0 c5] 26)
                    have BW5 := Lib.hid ((BW2.out.trans (hb5.mono BW2.out.size)).trans (b5a.mono (Nat.le_trans BW2.out.size hb5.size)))
                    clear hf5 hb5 b5a
                    go_wp2
                    go_ret
                    exact ⟨rfl, BW5.out⟩
                  | succ q =>
                    rw [int_back]
                    obtain ⟨ad', b3, e1, _, hg3, hcell⟩ := HL2.out.nat (k := q) (by have := HN.out; omega)
                    injection e1 with e1
                    subst e1
                    have hb3 := byn_get HY.out hg3
                    have HG3 := Lib.hid hg3
                    clear hg3
                    by_cases hb10 : b3 = 10
                    · have qb : (((b3 : Nat) : Int) != 10) = false := by rw [hb10]; rfl
                      have hjp : j = p := last_at HM.out.1 HM.out.2.1 HE.out (fun i hi => HJ.out i hi) (fun i hi hnl => by
                        refine HQ.out i ?_ hi
                        rcases Nat.lt_or_ge q i with h1 | h1
                        · exact h1
                        · exfalso
                          exact hnl q h1 (by omega) (by rw [HG3.out, hb10]))
                      have K := Lib.hid (fin j hjp HE.out hj2)
                      clear fin hjp hb10
                      go_wp2_with fail
                      (with_reducible refine K.out.mono ?_)
                      clear K
                      rintro e w5 ⟨V, rfl, hf5, hb5⟩
                      obtain ⟨A5, c5, rfl⟩ : ∃ A c, V = .slice A 0 c := by
                        obtain ⟨_, _, h, _⟩ := hf5
                        exact row_slice h
                      have b5a := below_alloc w5 (.cells #[.slice A5 0 c5] 26)
                      have BW5 := Lib.hid ((BW2.out.trans (hb5.mono BW2.out.size)).trans (b5a.mono (Nat.le_trans BW2.out.size hb5.size)))
                      clear hf5 hb5 b5a
                      go_wp2
                      go_ret
                      exact ⟨rfl, BW5.out⟩
                    · have qb : (((b3 : Nat) : Int) != 10) = true := by rw [bne_iff_ne]; omega
                      clear hb10 fin
                      by_cases hb35 : b3 = 35
                      · have qc : (((b3 : Nat) : Int) == 35) = true := by rw [hb35]; rfl
                        clear hb35
                        go_wp2
                        go_ret
                        exact ⟨rfl, BW2.out⟩
                      · have qc : (((b3 : Nat) : Int) == 35) = false := by rw [beq_eq_false_iff_ne]; omega
                        have HQ2 : Hid (∀ x, q ≤ x → x ≤ j → l[x]? ≠ some 35) := fun x h1 h2 => by
                          rcases Nat.lt_or_ge q x with h3 | h3
                          · exact HQ.out x h3 h2
                          · obtain rfl : x = q := by omega
                            rw [HG3.out]
                            simp
                            exact hb35
                        clear hb35
                        go_wp2
                        go_round
                        case rel => exact ⟨q, by omega, rfl, HQ2.out⟩
                        case measure => simp [intOf]
          · have qb : (((b : Nat) : Int) != 125) = true := by rw [bne_iff_ne]; omega
            have hjp : j ≠ p := by
              intro e0
              have := HG.out
              rw [e0, HM.out.1] at this
              injection this with this
              omega
            have HJ2 : Hid (∀ i, j ≤ i → l[i]? ≠ some 125) := fun i hi => by
              rcases Nat.lt_or_ge j i with h1 | h1
              · exact HJ.out i h1
              · obtain rfl : i = j := by omega
                rw [HG.out]
                simp
                exact hb125
            clear hb125
            go_wp2
            go_round
            case rel =>
              obtain ⟨j', rfl⟩ : ∃ q, j = q + 1 := ⟨j - 1, by omega⟩
              exact ⟨j', by omega, by omega, by go_num, fun i hi => HJ2.out i hi⟩
            case measure => simp [intOf]
    · have q1 : (((err : Nat) : Int) != 0) = true := by rw [bne_iff_ne]; omega
      clear he
      go_wp2
      go_ret
      exact ⟨rfl, BW2.out⟩
end Go.Proofs.YtoicncfpoklanaaDoor
