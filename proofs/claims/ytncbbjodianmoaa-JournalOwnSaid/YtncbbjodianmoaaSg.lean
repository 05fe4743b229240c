/- The document's search; the size of a row of pairs, and whether it is right, of the program and of the document. Conditions: what is read lies in memory; a size is of 64 bits. -/
import Derived.Test.YtncbbjodianmoaaSf
namespace Go.Proofs.Ytncbbjodianmoaa
open Go.RowKit

theorem SB.drewN {w : World} {B : Nat} {u : Value} {l : List Int} (h : SB w B u l) (n : Nat) : SB (w.drewN n) B u l := h.below (below_drewN (Below.refl _ _) n)
/-- a pair of a row, as the walk wants it -/
theorem Prs.at {w : World} {A : Option Addr} {c : Nat} {ls : List PR} (h : Prs w w.heap.size A c ls) {i : Nat} {p : PR} (hp : ls[i]? = some p) :
    ∃ b o Au cu Av cv, A = some ⟨b, o, none⟩ ∧ w.cell? ⟨b, o + i * 2, none⟩ = some (.slice Au p.1.length cu) ∧ w.cell? ⟨b, o + i * 2 + 1, none⟩ = some (.slice Av p.2.length cv) ∧ SB w w.heap.size (.slice Au p.1.length cu) p.1 ∧ SB w w.heap.size (.slice Av p.2.length cv) p.2 ∧
      p.1.length ≤ cu ∧ cu ≤ maxLen ∧ p.2.length ≤ cv ∧ cv ≤ maxLen := by
  obtain ⟨b, o, u, v, h1, h2, h3, h4, h5, h6⟩ := h.get hp
  obtain ⟨Au, cu, rfl, g1, g2, _⟩ := id h5
  obtain ⟨Av, cv, rfl, k1, k2, _⟩ := id h6
  exact ⟨b, o, Au, cu, Av, cv, h1, h3, h4, h5, h6, g1, g2, k1, k2⟩

set_option maxHeartbeats 800000 in
theorem findC (A : Option Addr) (ls : List PR) (c : Nat) (Ak : Option Addr) (key : List Int) (ck : Nat) (w : World) (hp : Prs w w.heap.size A c ls) (hc : ls.length ≤ c) (hm : c ≤ maxLen) (hk : SB w w.heap.size (.slice Ak key.length ck) key) :
    Calls Try.prog 52 #[.slice A ls.length c, .slice Ak key.length ck] w fun e w' => e = .returned (.int .i64 (idxV (fun p => p.1 == key) ls)) ∧ Below w.heap.size w w' := by
  have HP := Lib.hid hp
  have HK := Lib.hid hk
  clear hp hk
  unfold maxLen at hm
  go_enter Try.func52, Try.ntmps52
  go_wp2
  go_loopw [5] (fun i wr => ∃ k : Nat, k ≤ ls.length ∧ i = .int .i64 k ∧ Hid (k ≤ ls.findIdx (fun p => p.1 == key) ∧ Below w.heap.size w wr)) (fun i _ => ls.length - (intOf i).toNat)
  case atStart => exact ⟨0, Nat.zero_le _, rfl, Nat.zero_le _, Below.refl _ _⟩
  case round =>
    obtain ⟨k, hk, rfl, HR⟩ := hrel
    by_cases hlt : k < ls.length
    · have hg : ls[k]? = some ls[k] := List.getElem?_eq_getElem hlt
      generalize ls[k] = p at hg
      obtain ⟨b, o, Au, cu, Av, cv, rfl, c1, c2, s1, s2, _⟩ := (HP.out.on HR.out.2).at hg
      have d1 := fun n => (s1.drewN n).str
      have d2 := fun n => ((HK.out.on HR.out.2).drewN n).str
      have hse := str_eq s1.byt HK.out.byt
      have HG := Lib.hid hg
      clear c2 s1 s2 hg
      generalize strOfNums key = t at *
      cases hf : (p.1 == key) with
      | true =>
        have HE := Lib.hid (findIdx_yes (f := fun p => p.1 == key) HR.out.1 HG.out hf)
        have he : p.1 = key := by simpa using hf
        have hd : ((strOfNums p.1).toList == t.toList) = true := by rw [hse]; simpa using he
        generalize strOfNums p.1 = s at *
        clear hf hse he HG
        go_wp2_with fail
        go_quiet (fail)
        go_wp2
        go_ret
        refine ⟨ret_int ?_, below_drewN HR.out.2 _⟩
        unfold idxV
        rw [HE.out, if_pos hlt]
      | false =>
        have HE := Lib.hid (findIdx_no (f := fun p => p.1 == key) HR.out.1 HG.out hf)
        have he : ¬ p.1 = key := by simpa using hf
        have hd : ((strOfNums p.1).toList == t.toList) = false := by rw [hse]; simpa using he
        generalize strOfNums p.1 = s at *
        clear hf hse he HG
        go_wp2_with fail
        go_quiet (fail)
        go_wp2
        go_roundw
        case rel => exact ⟨k + 1, by omega, by go_num, HE.out, below_drewN HR.out.2 _⟩
        case measure => simp [intOf]; omega
    · obtain rfl : k = ls.length := by omega
      go_wp2
      go_ret
      refine ⟨ret_int ?_, HR.out.2⟩
      unfold idxV
      rw [if_neg (by have := HR.out.1; omega)]

set_option maxHeartbeats 800000 in
theorem sizeC (A : Option Addr) (ls : List PR) (c : Nat) (w : World) (hp : Prs w w.heap.size A c ls) (hc : ls.length ≤ c) (hm : c ≤ maxLen) (hs : szM ls ≤ 4611686018427387904) :
    Calls Try.prog 43 #[.slice A ls.length c] w fun e w' => e = .returned (.int .i64 (szM ls)) ∧ Below w.heap.size w w' := by
  have HP := Lib.hid hp
  clear hp
  unfold maxLen at hm
  go_enter Try.func43, Try.ntmps43
  go_wp2
  go_loopw [3, 5, 8] (fun n _ i wr => ∃ k : Nat, k ≤ ls.length ∧ i = .int .i64 k ∧ n = .int .i64 (szM (ls.take k)) ∧ Hid (Below w.heap.size w wr)) (fun _ _ i _ => ls.length - (intOf i).toNat)
  case atStart => exact ⟨0, Nat.zero_le _, rfl, rfl, Below.refl _ _⟩
  case round =>
    obtain ⟨k, hk, rfl, rfl, HR⟩ := hrel
    by_cases hlt : k < ls.length
    · have hg : ls[k]? = some ls[k] := List.getElem?_eq_getElem hlt
      generalize ls[k] = p at hg
      obtain ⟨b, o, Au, cu, Av, cv, rfl, c1, c2, s1, s2, q1, q2, q3, q4⟩ := (HP.out.on HR.out).at hg
      have HC := Lib.hid (range2 c1 c2)
      have hn := szM_next hg
      have hl := szM_take ls (k + 1)
      have hle : szM (ls.take k) + (8 + p.1.length + p.2.length) ≤ 4611686018427387904 := by omega
      have HN := Lib.hid hn
      have HB := Lib.hid (HR.out.trans ((below_alloc wr (.cells #[.slice Au p.1.length cu, .slice Av p.2.length cv] 47)).mono HR.out.size))
      unfold maxLen at q2 q4
      clear c1 c2 s1 s2 hg hn hl
      go_wp2_with (first | (refine wpList_load_mid rfl 47 (.tmp 10) rfl b (o + k * 2) rfl [.slice Au p.1.length cu, .slice Av p.2.length cv] _ HC.out Try.underlying47 rfl info42s ?_; refine Hid.out ?_) | fail)
      refine Lib.hid ?_
      go_wp2
      go_roundw
      case rel => exact ⟨k + 1, by omega, by go_num, by rw [HN.out]; go_num, HB.out⟩
      case measure => simp [intOf]; omega
    · obtain rfl : k = ls.length := by omega
      have HT : Hid (ls.take ls.length = ls) := List.take_length
      go_wp2
      go_ret
      exact ⟨ret_int (by rw [HT.out]), HR.out⟩

set_option maxHeartbeats 800000 in
theorem refSizeC (A : Option Addr) (ls : List PR) (c : Nat) (w : World) (hp : Prs w w.heap.size A c ls) (hc : ls.length ≤ c) (hm : c ≤ maxLen) (hs : szM ls ≤ 4611686018427387904) :
    Calls Try.prog 41 #[.slice A ls.length c] w fun e w' => e = .returned (.int .i64 (szM ls)) ∧ Below w.heap.size w w' := by
  have HP := Lib.hid hp
  clear hp
  unfold maxLen at hm
  go_enter Try.func41, Try.ntmps41
  go_wp2
  go_loopw [3, 4] (fun n i wr => ∃ k : Nat, k ≤ ls.length ∧ i = .int .i64 k ∧ n = .int .i64 (szM (ls.take k)) ∧ Hid (Below w.heap.size w wr)) (fun _ i _ => ls.length - (intOf i).toNat)
  case atStart => exact ⟨0, Nat.zero_le _, rfl, rfl, Below.refl _ _⟩
  case round =>
    obtain ⟨k, hk, rfl, rfl, HR⟩ := hrel
    by_cases hlt : k < ls.length
    · have hg : ls[k]? = some ls[k] := List.getElem?_eq_getElem hlt
      generalize ls[k] = p at hg
      obtain ⟨b, o, Au, cu, Av, cv, rfl, c1, c2, s1, s2, q1, q2, q3, q4⟩ := (HP.out.on HR.out).at hg
      have hn := szM_next hg
      have hl := szM_take ls (k + 1)
      have hle : szM (ls.take k) + (8 + p.1.length + p.2.length) ≤ 4611686018427387904 := by omega
      have HN := Lib.hid hn
      unfold maxLen at q2 q4
      clear s1 s2 hg hn hl
      generalize szM (ls.take k) = z at *
      have e1 : IntKind.i64.wrap ((z : Int) + 8) = (z : Int) + 8 := IntWalk.i64_in _ (by omega)
      have e2 : IntKind.i64.wrap ((z : Int) + 8 + (p.1.length : Int)) = (z : Int) + 8 + (p.1.length : Int) := IntWalk.i64_in _ (by omega)
      have e3 : IntKind.i64.wrap ((z : Int) + 8 + (p.1.length : Int) + (p.2.length : Int)) = (z : Int) + 8 + (p.1.length : Int) + (p.2.length : Int) := IntWalk.i64_in _ (by omega)
      go_wp2_with fail
      go_quiet (fail)
      clear e1 e2 e3
      go_wp2
      go_roundw
      case rel => exact ⟨k + 1, by omega, by go_num, by rw [HN.out]; go_num, below_drewN HR.out _⟩
      case measure => simp [intOf]; omega
    · obtain rfl : k = ls.length := by omega
      have HT : Hid (ls.take ls.length = ls) := List.take_length
      go_wp2
      go_ret
      exact ⟨ret_int (by rw [HT.out]), HR.out⟩
end Go.Proofs.Ytncbbjodianmoaa
