/- What the program's 'skipSpace' and the document's blanks return. Conditions: what is read lies in memory. -/
import Derived.Test.YtoicncfpoklanaaDoorB
namespace Go.Proofs.YtoicncfpoklanaaDoor
open Go.RowKit
set_option maxRecDepth 100000

/-- within a remark behind a byte? -/
def inR (c : Bool) (b : Nat) : Bool := b == 35 || (c && b != 10)
theorem white_next {l : List Nat} {k b : Nat} {c : Bool} (h : l[k]? = some b) (hp : (inR c b || blankB b) = true) : white c (l.drop k) = white (inR c b) (l.drop (k + 1)) + 1 := by
  obtain ⟨hk, rfl⟩ := List.getElem?_eq_some_iff.1 h
  rw [List.drop_eq_getElem_cons hk]
  rw [white, if_pos (show (l[k] == 35 || c && l[k] != 10 || blankB l[k]) = true from hp)]
  rfl
theorem white_halt {l : List Nat} {k b : Nat} {c : Bool} (h : l[k]? = some b) (hp : (inR c b || blankB b) = false) : white c (l.drop k) = 0 := by
  obtain ⟨hk, rfl⟩ := List.getElem?_eq_some_iff.1 h
  rw [List.drop_eq_getElem_cons hk]
  rw [white, if_neg (by rw [show (l[k] == 35 || c && l[k] != 10 || blankB l[k]) = _ from hp]; simp)]

theorem space_end {x y : Bool} {c : Bool} {b : Nat} {w : World} {a : Addr} (h1 : x = (inR c b || blankB b)) (h2 : y = inR c b) :
    Ending.returned (.bool x) = .returned (.bool (inR c b || blankB b)) ∧ w.setCell a (.bool y) = w.setCell a (.bool (inR c b)) := by
  subst h1 h2
  exact ⟨rfl, rfl⟩

set_option maxHeartbeats 800000 in
theorem spaceByte (b Bc : Nat) (c : Bool) (w : World) (hb : b < 256) (hc : w.heap[Bc]? = some (.cells #[.bool c] 4 (0, 0))) :
    Calls Tryd.prog 29 #[.int .u8 b, .pointer (some ⟨Bc, 0, none⟩)] w fun e w' => e = .returned (.bool (inR c b || blankB b)) ∧ w' = w.setCell ⟨Bc, 0, none⟩ (.bool (inR c b)) := by
  have h1 := cell_of_one hc
  have h2 := free_of_one hc
  have HC := Lib.hid hc
  have HD : Hid (∀ u, (w.setCell ⟨Bc, 0, none⟩ u).cell? ⟨Bc, 0, none⟩ = some u) := fun u => cell_of_one (one_setCell hc)
  clear hc
  have d1 := HD.out (.bool true)
  have d2 := HD.out (.bool false)
  cases c <;> go_enter Tryd.func29, Tryd.ntmps29
  all_goals
    go_wp2
    all_goals
      go_ret
      refine space_end ?_ ?_
      all_goals
        unfold inR
        try unfold blankB
        rw [Bool.eq_iff_iff]
        simp
        try omega

/-- what a call of 'extent' with the program's white space keeps -/
def SkipRel (w : World) (Bc : Nat) (c : Bool) (wr : World) : Prop := wr.heap[Bc]? = some (.cells #[.bool c] 4 (0, 0)) ∧ Below Bc w wr
theorem SkipRel.step {w wr : World} {Bc : Nat} {c : Bool} (h : SkipRel w Bc c wr) (d : Bool) : SkipRel w Bc d (wr.setCell ⟨Bc, 0, none⟩ (.bool d)) :=
  ⟨one_setCell h.1, h.2.setCell (Nat.le_refl _) _⟩

set_option maxHeartbeats 800000 in
theorem extentSpace (A : Option Addr) (l : List Nat) (c at0 Bc : Nat) (w : World) (hc : l.length ≤ c) (hcm : c ≤ maxLen) (hl : Lies w Bc A c (bts l)) (hy : Byn l) (ha : at0 ≤ l.length) (hw : w.heap[Bc]? = some (.cells #[.bool false] 4 (0, 0))) :
    Calls Tryd.prog 28 #[.slice A l.length c, .int .i64 at0, .func (.func 29) #[] #[.pointer (some ⟨Bc, 0, none⟩)]] w fun e w' => e = .returned (.int .i64 (skip l at0 : Nat)) ∧ Below Bc w w' := by
  have HL := Lib.hid hl
  have HY := Lib.hid hy
  have HW : Hid (SkipRel w Bc false w) := ⟨hw, Below.refl _ _⟩
  clear hl hy hw
  unfold maxLen at hcm
  go_enter Tryd.func28, Tryd.ntmps28
  go_wp2
  go_loopw [1] (fun i wr => ∃ (k : Nat) (d : Bool), k ≤ l.length ∧ i = .int .i64 k ∧ Hid (k + white d (l.drop k) = skip l at0) ∧ SkipRel w Bc d wr) (fun i _ => l.length - (intOf i).toNat)
  case atStart => exact ⟨at0, false, ha, rfl, rfl, HW.out⟩
  case round =>
    obtain ⟨k, d, hk, rfl, HR, hs⟩ := hrel
    by_cases hlt : k < l.length
    · obtain ⟨ad, b, rfl, hB, hg, hcell⟩ := (HL.out.below hs.2).nat hlt
      have hb := byn_get HY.out hg
      have HG := Lib.hid hg
      have HS := Lib.hid hs
      have K1 := Lib.hid (spaceByte b Bc d wr hb hs.1)
      clear hg hs
      cases hpb : (inR d b || blankB b) with
      | true =>
        rw [hpb] at K1
        have HH := Lib.hid (white_next HG.out hpb)
        clear hpb
        go_wp2_with (go_at_call 29; refine K1.out.mono ?_; rintro e w' ⟨rfl, rfl⟩)
        go_roundw
        case rel => exact ⟨k + 1, _, by omega, by go_num, by have h1 := HR.out; have h2 := HH.out; show _ = _; omega, HS.out.step _⟩
        case measure => simp [intOf]; omega
      | false =>
        rw [hpb] at K1
        have HH := Lib.hid (white_halt HG.out hpb)
        clear hpb
        go_wp2_with (go_at_call 29; refine K1.out.mono ?_; rintro e w' ⟨rfl, rfl⟩)
        go_ret
        exact ⟨ret_int (by have h1 := HR.out; have h2 := HH.out; omega), (HS.out.step _).2⟩
    · obtain rfl : k = l.length := by omega
      have hbel := hs.2
      clear hs
      go_wp2
      go_ret
      refine ⟨ret_int ?_, hbel⟩
      have h1 := HR.out
      rw [List.drop_length] at h1
      simp [white] at h1
      omega

set_option maxHeartbeats 800000 in
theorem skipSpace (A : Option Addr) (l : List Nat) (c at0 : Nat) (w : World) (hc : l.length ≤ c) (hcm : c ≤ maxLen) (hl : Lies w w.heap.size A c (bts l)) (hy : Byn l) (ha : at0 ≤ l.length) :
    Calls Tryd.prog 19 #[.slice A l.length c, .int .i64 at0] w fun e w' => e = .returned (.int .i64 (skip l at0 : Nat)) ∧ Below w.heap.size w w' := by
  have HL := Lib.hid hl
  have HY := Lib.hid hy
  clear hl hy
  have b0 := Lib.hid ((Below.refl w.heap.size w).alloc (Nat.le_refl _) (.cells #[.bool false] 4))
  have h0 := Lib.hid (heap_alloc_new w (.cells #[.bool false] 4))
  go_enter Tryd.func19, Tryd.ntmps19
  go_wp2_with fail
  refine (extentSpace A l c at0 w.heap.size _ hc hcm (HL.out.below b0.out) HY.out ha h0.out).mono ?_
  rintro e w1 ⟨rfl, hb1⟩
  have hfin := b0.out.trans hb1
  clear hb1
  go_wp2
  go_ret
  exact ⟨rfl, hfin⟩

theorem white_remark {l : List Nat} {k : Nat} (h : l[k]? = some 35) : white false (l.drop k) = white true (l.drop k) := by
  rw [white_next h (by simp [inR]), white_next h (by simp [inR])]
  simp [inR]
theorem white_line {l : List Nat} {k : Nat} (h : l[k]? = some 10) : white true (l.drop k) = white false (l.drop k) := by
  rw [white_next h (by simp [inR, blankB]), white_next h (by simp [inR, blankB])]
  simp [inR]
theorem white_in {l : List Nat} {k b : Nat} (h : l[k]? = some b) (hb : b ≠ 10) : white true (l.drop k) = white true (l.drop (k + 1)) + 1 := by
  have : inR true b = true := by simp [inR, hb]
  rw [white_next h (by simp [this]), this]
theorem white_blank {l : List Nat} {k b : Nat} (h : l[k]? = some b) (hb : b ≠ 35) (h1 : blankB b = true) : white false (l.drop k) = white false (l.drop (k + 1)) + 1 := by
  have : inR false b = false := by simp [inR, hb]
  rw [white_next h (by simp [h1]), this]
theorem white_no {l : List Nat} {k b : Nat} (h : l[k]? = some b) (hb : b ≠ 35) (h1 : blankB b = false) : white false (l.drop k) = 0 :=
  white_halt h (by simp [inR, hb, h1])
theorem white_end (c : Bool) (l : List Nat) : white c (l.drop l.length) = 0 := by simp [white]

theorem cell_new (w : World) (cs : List Value) (t : TypeId) (fr : Nat × Nat) (j : Nat) {v : Value} (h : cs[j]? = some v) : (w.alloc (.cells cs.toArray t fr)).cell? ⟨w.heap.size, j, none⟩ = some v := by
  have h1 : (w.alloc (.cells cs.toArray t fr)).heap[w.heap.size]? = some (.cells cs.toArray t fr) := heap_alloc_new w _
  rw [cell_of_row _ _ _ _ _ _ h1]
  simpa using h
theorem words_row (w : World) : Row (w.alloc (.cells (wordsN.map strV).toArray 9)) (w.heap.size + 1) ⟨w.heap.size, 0, none⟩ wordsN := by
  refine ⟨Nat.lt_succ_self _, fun j s hs => ?_⟩
  have hj : j < 17 := by
    have := (List.getElem?_eq_some_iff.1 hs).1
    exact this
  obtain ⟨x, h1, h2, h3⟩ := words_get hj
  obtain rfl : x = s := by
    have := h1.symm.trans hs
    simpa using this
  refine ⟨h3, ?_⟩
  have : (Addr.mk w.heap.size 0 none).add j = ⟨w.heap.size, j, none⟩ := by unfold Addr.add; split <;> simp_all
  rw [this]
  exact cell_new w _ 9 (0, 0) j h2

end Go.Proofs.YtoicncfpoklanaaDoor
