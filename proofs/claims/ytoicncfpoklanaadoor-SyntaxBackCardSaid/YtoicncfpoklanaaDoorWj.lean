/- The live question ahead of every statement answers true, and changes nothing that was there. Conditions: the tables lie as the program lays them. -/
import Derived.Test.YtoicncfpoklanaaDoorQb
import Derived.Test.YtoicncfpoklanaaDoorWr
namespace Go.Proofs.YtoicncfpoklanaaDoor
open Go.RowKit
set_option maxRecDepth 100000
set_option linter.unusedSimpArgs false
set_option linter.unusedVariables false

theorem push_modify (a : Array Obj) (x : Obj) (f : Obj → Obj) : (a.push x).modify a.size f = a.push (f x) := by
  apply Array.ext
  · simp
  · intro i h1 h2
    simp only [Array.getElem_modify, Array.getElem_push]
    by_cases h : a.size = i
    · subst h
      simp
    · have hi : i < a.size := by simp at h1; omega
      simp [h, hi]
/-- a constant string's bytes: the block bears the mark behind its last cell -/
theorem run_marked (w : World) (C : Array Value) (n c : Nat) :
    (convert 22 22 (.slice (some ⟨w.heap.size, 0, none⟩) n c)).run Tryd.prog (w.alloc (.cells C 5)) = .ok (.slice (some ⟨w.heap.size, 0, none⟩) n c) (w.alloc (.cells C 5 (C.size, C.size + 1))) := by
  have hsh : (w.alloc (.cells C 5)).shape? w.heap.size = some (5, C.size) := by
    have : (w.alloc (.cells C 5)).heap[w.heap.size]? = some (.cells C 5) := heap_alloc_new w _
    unfold World.shape?
    rw [this]
  have hfr : (w.alloc (.cells C 5)).freeze ⟨w.heap.size, C.size, none⟩ 1 = w.alloc (.cells C 5 (C.size, C.size + 1)) := by
    unfold World.freeze
    rw [if_neg (by decide)]
    show ({ w.alloc (.cells C 5) with heap := (w.heap.push (.cells C 5)).modify w.heap.size _ } : World) = _
    rw [push_modify]
    rfl
  simp [convert, run_underlying Tryd.underlying22, run_underlying Tryd.underlying5, markStringish, hsh]
  exact hfr
/-- a block just made, as a slice that lies -/
theorem lies_new (w : World) (l : List Nat) (c : Nat) (t : TypeId) (fr : Nat × Nat) : Lies (w.alloc (.cells (bts l).toArray t fr)) (w.heap.size + 1) (some ⟨w.heap.size, 0, none⟩) c (bts l) := by
  refine ⟨(fun e => by cases e), fun j u hu => ⟨_, rfl, by simp, ?_⟩⟩
  have hb : (w.alloc (.cells (bts l).toArray t fr)).heap[w.heap.size]? = some (.cells (bts l).toArray t fr) := heap_alloc_new w _
  rw [Addr.add_lit, cell_of_row _ _ _ _ _ _ hb]
  simpa using hu
theorem fmt0 (w : World) : Calls Tryd.prog 75 #[.int .i64 0, .int .i64 10] w fun e w' => e = .returned (.string ⟨#[48]⟩) ∧ w = w' := by
  go_enter Tryd.func75, Tryd.ntmps75
  go_wp2
  go_ret
  exact ⟨rfl, rfl⟩
theorem fmt1 (w : World) : Calls Tryd.prog 75 #[.int .i64 1, .int .i64 10] w fun e w' => e = .returned (.string ⟨#[49]⟩) ∧ w = w' := by
  go_enter Tryd.func75, Tryd.ntmps75
  go_wp2
  go_ret
  exact ⟨rfl, rfl⟩
theorem fmt2 (w : World) : Calls Tryd.prog 75 #[.int .i64 2, .int .i64 10] w fun e w' => e = .returned (.string ⟨#[50]⟩) ∧ w = w' := by
  go_enter Tryd.func75, Tryd.ntmps75
  go_wp2
  go_ret
  exact ⟨rfl, rfl⟩
theorem fmt3 (w : World) : Calls Tryd.prog 75 #[.int .i64 3, .int .i64 10] w fun e w' => e = .returned (.string ⟨#[51]⟩) ∧ w = w' := by
  go_enter Tryd.func75, Tryd.ntmps75
  go_wp2
  go_ret
  exact ⟨rfl, rfl⟩
theorem fmt4 (w : World) : Calls Tryd.prog 75 #[.int .i64 4, .int .i64 10] w fun e w' => e = .returned (.string ⟨#[52]⟩) ∧ w = w' := by
  go_enter Tryd.func75, Tryd.ntmps75
  go_wp2
  go_ret
  exact ⟨rfl, rfl⟩
theorem fmt5 (w : World) : Calls Tryd.prog 75 #[.int .i64 5, .int .i64 10] w fun e w' => e = .returned (.string ⟨#[53]⟩) ∧ w = w' := by
  go_enter Tryd.func75, Tryd.ntmps75
  go_wp2
  go_ret
  exact ⟨rfl, rfl⟩
theorem fmt6 (w : World) : Calls Tryd.prog 75 #[.int .i64 6, .int .i64 10] w fun e w' => e = .returned (.string ⟨#[54]⟩) ∧ w = w' := by
  go_enter Tryd.func75, Tryd.ntmps75
  go_wp2
  go_ret
  exact ⟨rfl, rfl⟩
theorem fmt7 (w : World) : Calls Tryd.prog 75 #[.int .i64 7, .int .i64 10] w fun e w' => e = .returned (.string ⟨#[55]⟩) ∧ w = w' := by
  go_enter Tryd.func75, Tryd.ntmps75
  go_wp2
  go_ret
  exact ⟨rfl, rfl⟩
theorem fmt8 (w : World) : Calls Tryd.prog 75 #[.int .i64 8, .int .i64 10] w fun e w' => e = .returned (.string ⟨#[56]⟩) ∧ w = w' := by
  go_enter Tryd.func75, Tryd.ntmps75
  go_wp2
  go_ret
  exact ⟨rfl, rfl⟩
theorem fmt9 (w : World) : Calls Tryd.prog 75 #[.int .i64 9, .int .i64 10] w fun e w' => e = .returned (.string ⟨#[57]⟩) ∧ w = w' := by
  go_enter Tryd.func75, Tryd.ntmps75
  go_wp2
  go_ret
  exact ⟨rfl, rfl⟩
/-- numbers of one digit are written as said -/
theorem fm_digits (R : Nat) : Fm R (fun n => decide (n < 10)) (fun _ => True) := by
  refine ⟨fun _ _ _ _ => trivial, fun n w hn _ => ?_⟩
  have hn' : n < 10 := by simpa using hn
  have h : n = 0 ∨ n = 1 ∨ n = 2 ∨ n = 3 ∨ n = 4 ∨ n = 5 ∨ n = 6 ∨ n = 7 ∨ n = 8 ∨ n = 9 := by omega
  rcases h with rfl | rfl | rfl | rfl | rfl | rfl | rfl | rfl | rfl | rfl
  · refine (fmt0 w).mono ?_
    rintro e w' ⟨rfl, rfl⟩
    exact ⟨by rw [show strN (decN 0) = ⟨#[48]⟩ by kernel_rfl], Below.refl _ _⟩
  · refine (fmt1 w).mono ?_
    rintro e w' ⟨rfl, rfl⟩
    exact ⟨by rw [show strN (decN 1) = ⟨#[49]⟩ by kernel_rfl], Below.refl _ _⟩
  · refine (fmt2 w).mono ?_
    rintro e w' ⟨rfl, rfl⟩
    exact ⟨by rw [show strN (decN 2) = ⟨#[50]⟩ by kernel_rfl], Below.refl _ _⟩
  · refine (fmt3 w).mono ?_
    rintro e w' ⟨rfl, rfl⟩
    exact ⟨by rw [show strN (decN 3) = ⟨#[51]⟩ by kernel_rfl], Below.refl _ _⟩
  · refine (fmt4 w).mono ?_
    rintro e w' ⟨rfl, rfl⟩
    exact ⟨by rw [show strN (decN 4) = ⟨#[52]⟩ by kernel_rfl], Below.refl _ _⟩
  · refine (fmt5 w).mono ?_
    rintro e w' ⟨rfl, rfl⟩
    exact ⟨by rw [show strN (decN 5) = ⟨#[53]⟩ by kernel_rfl], Below.refl _ _⟩
  · refine (fmt6 w).mono ?_
    rintro e w' ⟨rfl, rfl⟩
    exact ⟨by rw [show strN (decN 6) = ⟨#[54]⟩ by kernel_rfl], Below.refl _ _⟩
  · refine (fmt7 w).mono ?_
    rintro e w' ⟨rfl, rfl⟩
    exact ⟨by rw [show strN (decN 7) = ⟨#[55]⟩ by kernel_rfl], Below.refl _ _⟩
  · refine (fmt8 w).mono ?_
    rintro e w' ⟨rfl, rfl⟩
    exact ⟨by rw [show strN (decN 8) = ⟨#[56]⟩ by kernel_rfl], Below.refl _ _⟩
  · refine (fmt9 w).mono ?_
    rintro e w' ⟨rfl, rfl⟩
    exact ⟨by rw [show strN (decN 9) = ⟨#[57]⟩ by kernel_rfl], Below.refl _ _⟩
/-- what 'Parse' returns, spelled out -/
def ParseZ (w : World) (fs : List Fu) (ze zp : Int) (e : Ending) (w' : World) : Prop :=
  ∃ V, e = .returned (.tuple #[.agg #[V], .int .i64 ze, .int .i64 zp]) ∧ FusC w' (Rng w.heap.size w'.heap.size) fs V ∧ Below w.heap.size w w'
theorem parseZ (A : Option Addr) (l : List Nat) (n c : Nat) (w : World) (hn : l.length = n) (hc : n ≤ c) (hcm : c ≤ maxLen) (hl : Lies w w.heap.size A c (bts l)) (hy : Byn l) (ht : Tab w) (err place : Nat) (fs : List Fu) (hp : parsed l = ⟨err, fs, place⟩) (ze zp : Int) (h1 : ze = err) (h2 : zp = place) :
    Calls Tryd.prog 9 #[.slice A n c] w (ParseZ w fs ze zp) := by
  subst hn h1 h2
  have h := parse A l c w hc hcm hl hy ht
  rw [hp] at h
  exact h
def headF : Fu := ⟨[102], [], 1, [.mk 5 [] [.mk 6 0 [43] [.mk 1 1 [] [] 21, .mk 6 0 [42] [.mk 1 2 [] [] 25, .mk 1 3 [] [] 29] 27] 23] [] [] 14], 0⟩
theorem head1 : parsed [102, 110, 32, 102, 40, 41, 58, 32, 105, 110, 116, 32, 123, 32, 114, 101, 116, 117, 114, 110, 32, 49, 32, 43, 32, 50, 32, 42, 32, 51, 59, 32, 125] = ⟨0, [headF], 0⟩ := by kernel_rfl
theorem head2 : parsed [102, 110, 32, 102, 40, 41, 32, 123, 32, 49, 32, 125] = ⟨41, [], 11⟩ := by kernel_rfl
theorem head3 : strN (shown [headF]) = ⟨#[102, 110, 32, 102, 40, 41, 58, 32, 105, 110, 116, 32, 123, 32, 114, 101, 116, 117, 114, 110, 32, 40, 49, 32, 43, 32, 40, 50, 32, 42, 32, 51, 41, 41, 59, 32, 125, 10]⟩ := by kernel_rfl
theorem head4 : numsFs (fun n => decide (n < 10)) [headF] = true := by kernel_rfl
theorem head5 : (shown [headF]).length = 38 := by kernel_rfl
theorem hbyn1 : Byn [102, 110, 32, 102, 40, 41, 58, 32, 105, 110, 116, 32, 123, 32, 114, 101, 116, 117, 114, 110, 32, 49, 32, 43, 32, 50, 32, 42, 32, 51, 59, 32, 125] := by unfold Byn; decide
theorem hbyn2 : Byn [102, 110, 32, 102, 40, 41, 32, 123, 32, 49, 32, 125] := by unfold Byn; decide

set_option maxHeartbeats 1600000 in
theorem head_true (w : World) (ht : Tab w) : Calls Tryd.prog 8 #[] w fun e w' => e = .returned (.bool true) ∧ Below w.heap.size w w' := by
  have hm : (convert 22 22 (.slice (some ⟨w.heap.size, 0, none⟩) 33 33)).run Tryd.prog (w.alloc (.cells #[.int .u8 102, .int .u8 110, .int .u8 32, .int .u8 102, .int .u8 40, .int .u8 41, .int .u8 58, .int .u8 32, .int .u8 105, .int .u8 110, .int .u8 116, .int .u8 32, .int .u8 123, .int .u8 32, .int .u8 114, .int .u8 101, .int .u8 116, .int .u8 117, .int .u8 114, .int .u8 110, .int .u8 32, .int .u8 49, .int .u8 32, .int .u8 43, .int .u8 32, .int .u8 50, .int .u8 32, .int .u8 42, .int .u8 32, .int .u8 51, .int .u8 59, .int .u8 32, .int .u8 125] 5)) = .ok (.slice (some ⟨w.heap.size, 0, none⟩) 33 33) (w.alloc (.cells #[.int .u8 102, .int .u8 110, .int .u8 32, .int .u8 102, .int .u8 40, .int .u8 41, .int .u8 58, .int .u8 32, .int .u8 105, .int .u8 110, .int .u8 116, .int .u8 32, .int .u8 123, .int .u8 32, .int .u8 114, .int .u8 101, .int .u8 116, .int .u8 117, .int .u8 114, .int .u8 110, .int .u8 32, .int .u8 49, .int .u8 32, .int .u8 43, .int .u8 32, .int .u8 50, .int .u8 32, .int .u8 42, .int .u8 32, .int .u8 51, .int .u8 59, .int .u8 32, .int .u8 125] 5 (33, 34))) := run_marked w _ 33 33
  have B0 := Lib.hid (below_alloc w (.cells #[.int .u8 102, .int .u8 110, .int .u8 32, .int .u8 102, .int .u8 40, .int .u8 41, .int .u8 58, .int .u8 32, .int .u8 105, .int .u8 110, .int .u8 116, .int .u8 32, .int .u8 123, .int .u8 32, .int .u8 114, .int .u8 101, .int .u8 116, .int .u8 117, .int .u8 114, .int .u8 110, .int .u8 32, .int .u8 49, .int .u8 32, .int .u8 43, .int .u8 32, .int .u8 50, .int .u8 32, .int .u8 42, .int .u8 32, .int .u8 51, .int .u8 59, .int .u8 32, .int .u8 125] 5 (33, 34)))
  have L0 : Hid (Lies (w.alloc (.cells #[.int .u8 102, .int .u8 110, .int .u8 32, .int .u8 102, .int .u8 40, .int .u8 41, .int .u8 58, .int .u8 32, .int .u8 105, .int .u8 110, .int .u8 116, .int .u8 32, .int .u8 123, .int .u8 32, .int .u8 114, .int .u8 101, .int .u8 116, .int .u8 117, .int .u8 114, .int .u8 110, .int .u8 32, .int .u8 49, .int .u8 32, .int .u8 43, .int .u8 32, .int .u8 50, .int .u8 32, .int .u8 42, .int .u8 32, .int .u8 51, .int .u8 59, .int .u8 32, .int .u8 125] 5 (33, 34))) (w.heap.size + 1) (some ⟨w.heap.size, 0, none⟩) 33 (bts [102, 110, 32, 102, 40, 41, 58, 32, 105, 110, 116, 32, 123, 32, 114, 101, 116, 117, 114, 110, 32, 49, 32, 43, 32, 50, 32, 42, 32, 51, 59, 32, 125])) := lies_new w [102, 110, 32, 102, 40, 41, 58, 32, 105, 110, 116, 32, 123, 32, 114, 101, 116, 117, 114, 110, 32, 49, 32, 43, 32, 50, 32, 42, 32, 51, 59, 32, 125] 33 5 (33, 34)
  have HT := Lib.hid ht
  have hpos := ht.1
  clear ht
  have K := Lib.hid (parseZ (some ⟨w.heap.size, 0, none⟩) [102, 110, 32, 102, 40, 41, 58, 32, 105, 110, 116, 32, 123, 32, 114, 101, 116, 117, 114, 110, 32, 49, 32, 43, 32, 50, 32, 42, 32, 51, 59, 32, 125] 33 33 (w.alloc (.cells #[.int .u8 102, .int .u8 110, .int .u8 32, .int .u8 102, .int .u8 40, .int .u8 41, .int .u8 58, .int .u8 32, .int .u8 105, .int .u8 110, .int .u8 116, .int .u8 32, .int .u8 123, .int .u8 32, .int .u8 114, .int .u8 101, .int .u8 116, .int .u8 117, .int .u8 114, .int .u8 110, .int .u8 32, .int .u8 49, .int .u8 32, .int .u8 43, .int .u8 32, .int .u8 50, .int .u8 32, .int .u8 42, .int .u8 32, .int .u8 51, .int .u8 59, .int .u8 32, .int .u8 125] 5 (33, 34))) rfl (by omega) (by unfold maxLen; omega) (L0.out.more (by simp)) hbyn1 (HT.out.below B0.out hpos) 0 0 [headF] head1 0 0 rfl rfl)
  go_enter Tryd.func8, Tryd.ntmps8
  go_wp2_with fail
  clear hm
  generalize w.alloc (.cells #[.int .u8 102, .int .u8 110, .int .u8 32, .int .u8 102, .int .u8 40, .int .u8 41, .int .u8 58, .int .u8 32, .int .u8 105, .int .u8 110, .int .u8 116, .int .u8 32, .int .u8 123, .int .u8 32, .int .u8 114, .int .u8 101, .int .u8 116, .int .u8 117, .int .u8 114, .int .u8 110, .int .u8 32, .int .u8 49, .int .u8 32, .int .u8 43, .int .u8 32, .int .u8 50, .int .u8 32, .int .u8 42, .int .u8 32, .int .u8 51, .int .u8 59, .int .u8 32, .int .u8 125] 5 (33, 34)) = w0 at *
  (with_reducible refine K.out.mono ?_)
  clear K
  rintro e w1 ⟨v1, rfl, ho1, hb1⟩
  have bw1 := B0.out.trans (hb1.mono B0.out.size)
  obtain ⟨b, o, c, k, hV, a1, a2, a3, a4, a5, a6⟩ := ho1.get (i := 0) (f := headF) rfl
  have hV' : v1 = .slice (some ⟨b, o, none⟩) 1 c := hV
  subst hV'
  obtain ⟨kp, kb⟩ := k
  obtain ⟨Ab, cb, hkb⟩ := stsC_sl a6
  have hkb' : kb = .slice Ab 1 cb := hkb
  subst hkb'
  have c3 : w1.cell? ⟨b, o + 3, none⟩ = some (.slice Ab 1 cb) := by
    have := a4 3 _ rfl
    rw [Nat.zero_mul, Nat.add_zero] at this
    exact this
  have s0 := B0.out.size
  have s1 := hb1.size
  have hbl : b < w1.heap.size := a3.2
  have HFu := Lib.hid ho1
  have BW1 := Lib.hid bw1
  have hc1 : 1 ≤ c := a1
  unfold maxLen at a2
  have C3 := Lib.hid c3
  have B1 := Lib.hid (below_alloc w1 (.cells #[.slice (some ⟨b, o, none⟩) 1 c] 26))
  have V1 := Lib.hid (heap_alloc_new w1 (.cells #[.slice (some ⟨b, o, none⟩) 1 c] 26))
  have hsa : (w1.alloc (.cells #[.slice (some ⟨b, o, none⟩) 1 c] 26)).heap.size = w1.heap.size + 1 := by simp
  have HSA := Lib.hid hsa
  have hm := run_marked (w1.alloc (.cells #[.slice (some ⟨b, o, none⟩) 1 c] 26)) #[.int .u8 102, .int .u8 110, .int .u8 32, .int .u8 102, .int .u8 40, .int .u8 41, .int .u8 32, .int .u8 123, .int .u8 32, .int .u8 49, .int .u8 32, .int .u8 125] 12 12
  have L2 := lies_new (w1.alloc (.cells #[.slice (some ⟨b, o, none⟩) 1 c] 26)) [102, 110, 32, 102, 40, 41, 32, 123, 32, 49, 32, 125] 12 5 (12, 13)
  have B2 := below_alloc (w1.alloc (.cells #[.slice (some ⟨b, o, none⟩) 1 c] 26)) (.cells #[.int .u8 102, .int .u8 110, .int .u8 32, .int .u8 102, .int .u8 40, .int .u8 41, .int .u8 32, .int .u8 123, .int .u8 32, .int .u8 49, .int .u8 32, .int .u8 125] 5 (12, 13))
  rw [hsa] at hm L2 B2
  have K := Lib.hid (parseZ (some ⟨w1.heap.size + 1, 0, none⟩) [102, 110, 32, 102, 40, 41, 32, 123, 32, 49, 32, 125] 12 12 ((w1.alloc (.cells #[.slice (some ⟨b, o, none⟩) 1 c] 26)).alloc (.cells #[.int .u8 102, .int .u8 110, .int .u8 32, .int .u8 102, .int .u8 40, .int .u8 41, .int .u8 32, .int .u8 123, .int .u8 32, .int .u8 49, .int .u8 32, .int .u8 125] 5 (12, 13))) rfl (by omega) (by unfold maxLen; omega) (L2.more (by simp)) hbyn2 (((HT.out.below BW1.out hpos).below B1.out (by have := BW1.out.size; omega)).below B2 (by have := BW1.out.size; omega)) 41 11 [] head2 41 11 rfl rfl)
  have HB2 := Lib.hid B2
  clear ho1 hb1 bw1 a3 a4 a5 a6 hV hkb L0 L2 B2 hsa c3
  go_wp2_with fail
  clear hm
  generalize (w1.alloc (.cells #[.slice (some ⟨b, o, none⟩) 1 c] 26)).alloc (.cells #[.int .u8 102, .int .u8 110, .int .u8 32, .int .u8 102, .int .u8 40, .int .u8 41, .int .u8 32, .int .u8 123, .int .u8 32, .int .u8 49, .int .u8 32, .int .u8 125] 5 (12, 13)) = w2 at *
  generalize w1.alloc (.cells #[.slice (some ⟨b, o, none⟩) 1 c] 26) = wa at *
  (with_reducible refine K.out.mono ?_)
  clear K
  rintro e w3 ⟨v3, rfl, ho3, hb3⟩
  obtain ⟨A3, c3, rfl⟩ : ∃ A c, v3 = .slice A 0 c := by
    obtain ⟨_, _, h, _⟩ := ho3
    exact row_slice h
  have hsa := HSA.out
  have b4 := below_alloc w3 (.cells #[.slice A3 0 c3] 26)
  have e2 := HB2.out.size
  have e3 := hb3.size
  have ba3 : Below (w1.heap.size + 1) wa w3 := HB2.out.trans (hb3.mono (by omega))
  have ba4 := ba3.trans (b4.mono (by have := ba3.size; omega))
  have b14 : Below w1.heap.size w1 (w3.alloc (.cells #[.slice A3 0 c3] 26)) := B1.out.trans (ba4.mono (by omega))
  have d0 : (w3.alloc (.cells #[.slice A3 0 c3] 26)).cell? ⟨w1.heap.size, 0, none⟩ = some (.slice (some ⟨b, o, none⟩) 1 c) := by
    rw [ba4.cell (p := ⟨w1.heap.size, 0, none⟩) (show w1.heap.size < _ by omega), Lib.cell_of_heap V1.out]
    rfl
  have d3 : (w3.alloc (.cells #[.slice A3 0 c3] 26)).cell? ⟨b, o + 3, none⟩ = some (.slice Ab 1 cb) := by
    rw [b14.cell (p := ⟨b, o + 3, none⟩) hbl]
    exact C3.out
  have hV4 : FusC (w3.alloc (.cells #[.slice A3 0 c3] 26)) (· < (w3.alloc (.cells #[.slice A3 0 c3] 26)).heap.size) [headF] (.slice (some ⟨b, o, none⟩) 1 c) :=
    (HFu.out.same fun k hk => b14.block k hk.2).more fun k hk => by have := hk.2; have := b14.size; omega
  have K := Lib.hid (showW [headF] head4 _ _ (fm_digits _) (fun _ _ => trivial) hV4 (by simp) (by rw [head5]; omega))
  rw [head3] at K
  have HB4 := Lib.hid (BW1.out.trans (b14.mono (by have := BW1.out.size; omega)))
  clear ho3 hb3 hsa b4 ba3 ba4 b14 hV4 e2 e3
  go_wp2_with fail
  generalize w3.alloc (.cells #[.slice A3 0 c3] 26) = w4 at *
  (with_reducible refine K.out.mono ?_)
  clear K
  rintro e w5 ⟨rfl, hb5⟩
  have HB5 := Lib.hid (HB4.out.trans (hb5.mono HB4.out.size))
  clear hb5
  go_wp2
  go_ret
  exact ⟨rfl, HB5.out⟩
end Go.Proofs.YtoicncfpoklanaaDoor

