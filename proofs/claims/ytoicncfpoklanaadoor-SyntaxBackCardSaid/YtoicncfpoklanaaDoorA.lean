/- What the program's tests of a byte return (a letter, a digit, a byte of a name, of a text), and how far bytes of a kind extend. Conditions: what is read lies in memory. -/
import Derived.Test.YtoicncfpoklanaaDoorRows
import Derived.Test.YtoicncfpoklanaaDoorModel
import Derived.WalkKit
import Derived.WalkSpells
import Derived.WalkLawsBesides
import Derived.Lib.Hide
import Derived.Outline
namespace Go.Proofs.YtoicncfpoklanaaDoor
open Go.RowKit
set_option maxRecDepth 100000

theorem ret_bool {a b : Bool} (h : a = b) : Ending.returned (.bool a) = .returned (.bool b) := by rw [h]
theorem ret_int {k : IntKind} {a b : Int} (h : a = b) : Ending.returned (.int k a) = .returned (.int k b) := by rw [h]

/-- a function of a byte that tells p and changes nothing -/
def Tells (fn : Nat) (p : Nat → Bool) : Prop := ∀ (b : Nat) (w : World), b < 256 → Calls Tryd.prog fn #[.int .u8 b] w fun e w' => e = .returned (.bool (p b)) ∧ w = w'

theorem letter : Tells 30 letterB := by
  intro b w hb
  go_enter Tryd.func30, Tryd.ntmps30
  go_wp2
  all_goals
    go_ret
    refine ⟨ret_bool ?_, rfl⟩
    unfold letterB
    rw [Bool.eq_iff_iff]
    simp only [Bool.and_eq_true, decide_eq_true_eq, Bool.false_eq_true, false_iff]
    omega
theorem digit : Tells 32 digitB := by
  intro b w hb
  go_enter Tryd.func32, Tryd.ntmps32
  go_wp2
  all_goals
    go_ret
    refine ⟨ret_bool ?_, rfl⟩
    unfold digitB
    rw [Bool.eq_iff_iff]
    simp only [Bool.and_eq_true, decide_eq_true_eq, Bool.false_eq_true, false_iff]
    omega
theorem nameByte : Tells 47 nameB := by
  intro b w hb
  have K1 := Lib.hid (letter b w hb)
  have K2 := Lib.hid (digit b w hb)
  have HN : Hid (nameB b = (letterB b || digitB b || decide (b = 95))) := rfl
  generalize letterB b = x at *
  generalize digitB b = y at *
  cases x <;> cases y <;> go_enter Tryd.func47, Tryd.ntmps47
  all_goals
    go_wp2_with (first | (go_at_call 30; refine K1.out.mono ?_; rintro e w' ⟨rfl, rfl⟩) | (go_at_call 32; refine K2.out.mono ?_; rintro e w' ⟨rfl, rfl⟩))
    go_ret
    refine ⟨ret_bool ?_, rfl⟩
    rw [HN.out]
    first | rfl | (simp; done) | (rw [Bool.eq_iff_iff]; simp; omega)
theorem textByte : Tells 49 textB := by
  intro b w hb
  go_enter Tryd.func49, Tryd.ntmps49
  go_wp2
  all_goals
    go_ret
    refine ⟨ret_bool ?_, rfl⟩
    unfold textB
    rw [Bool.eq_iff_iff]
    simp
    try omega

/-- the function of that number is entered at a call -/
def Ent (fn : Nat) : Prop := ∀ (args : Array Value) (w : World), (callFunc fn args).run Tryd.prog w = .ok (.enter fn args) w
theorem ent30 : Ent 30 := by intro args w; simp
theorem ent32 : Ent 32 := by intro args w; simp
theorem ent47 : Ent 47 := by intro args w; simp
theorem ent49 : Ent 49 := by intro args w; simp

theorem run_next {p : Nat → Bool} {l : List Nat} {k b : Nat} (h : l[k]? = some b) (hp : p b = true) : run p (l.drop k) = run p (l.drop (k + 1)) + 1 := by
  obtain ⟨hk, rfl⟩ := List.getElem?_eq_some_iff.1 h
  rw [List.drop_eq_getElem_cons hk]
  simp [run, hp]
theorem run_halt {p : Nat → Bool} {l : List Nat} {k b : Nat} (h : l[k]? = some b) (hp : p b = false) : run p (l.drop k) = 0 := by
  obtain ⟨hk, rfl⟩ := List.getElem?_eq_some_iff.1 h
  rw [List.drop_eq_getElem_cons hk]
  simp [run, hp]

set_option maxHeartbeats 400000 in
theorem extent (fn : Nat) (p : Nat → Bool) (he : Ent fn) (hp : Tells fn p) (A : Option Addr) (l : List Nat) (c at0 : Nat) (w : World) (B : Nat) (hc : l.length ≤ c) (hcm : c ≤ maxLen) (hl : Lies w B A c (bts l)) (hy : Byn l) (ha : at0 ≤ l.length) :
    Calls Tryd.prog 28 #[.slice A l.length c, .int .i64 at0, .func (.func fn) #[] #[]] w fun e w' => e = .returned (.int .i64 (at0 + run p (l.drop at0) : Nat)) ∧ w = w' := by
  have HL := Lib.hid hl
  have HY := Lib.hid hy
  have HP := Lib.hid hp
  clear hl hy hp
  unfold maxLen at hcm
  unfold Ent at he
  go_enter Tryd.func28, Tryd.ntmps28
  go_wp2
  go_loop [1] (fun i => ∃ k : Nat, k ≤ l.length ∧ i = .int .i64 k ∧ Hid (k + run p (l.drop k) = at0 + run p (l.drop at0))) (fun i => l.length - (intOf i).toNat)
  case atStart => exact ⟨at0, ha, rfl, rfl⟩
  case round =>
    obtain ⟨k, hk, rfl, HR⟩ := hrel
    by_cases hlt : k < l.length
    · obtain ⟨ad, b, rfl, hB, hg, hcell⟩ := HL.out.nat hlt
      have hb := byn_get HY.out hg
      have HG := Lib.hid hg
      clear hg
      have K1 := Lib.hid (HP.out b w hb)
      cases hpb : p b with
      | true =>
        rw [hpb] at K1
        have HH := Lib.hid (run_next HG.out hpb)
        clear hpb
        go_wp2_with (refine K1.out.mono ?_; rintro e w' ⟨rfl, rfl⟩)
        go_round
        case rel => exact ⟨k + 1, by omega, by go_num, by have h1 := HR.out; have h2 := HH.out; show _ = _; omega⟩
        case measure => simp [intOf]; omega
      | false =>
        rw [hpb] at K1
        have HH := Lib.hid (run_halt HG.out hpb)
        clear hpb
        go_wp2_with (refine K1.out.mono ?_; rintro e w' ⟨rfl, rfl⟩)
        go_ret
        exact ⟨ret_int (by have h1 := HR.out; have h2 := HH.out; omega), rfl⟩
    · obtain rfl : k = l.length := by omega
      go_wp2
      go_ret
      refine ⟨ret_int ?_, rfl⟩
      have h1 := HR.out
      rw [List.drop_length] at h1
      simp [run] at h1
      omega
end Go.Proofs.YtoicncfpoklanaaDoor
