/- The walk of ArithTexts: it returns true, and nothing that was there has changed. Conditions: none beyond what its arguments are, and the form's own reach. -/
import Derived.Test.YtehihpfhcphdoaaY
namespace Go.Proofs.Ytehihpfhcphdoaa
open Go.RowKit
set_option maxRecDepth 100000

theorem addr_add (a : Addr) (i j : Nat) : (a.add i).add j = a.add (i + j) := by
  unfold Addr.add
  by_cases hi : i = 0 <;> by_cases hj : j = 0 <;> simp [hi, hj, Nat.add_assoc]
/-- the first part of a slice, and the rest -/
theorem lies_fst {w : World} {B : Nat} {A : Option Addr} {c : Nat} {s u : List Int} (h : Lies w B A c (cellsOf (s ++ u))) : Lies w B A c (cellsOf s) :=
  ⟨h.1, fun j x hx => h.2 j x (by
    have hj := (List.getElem?_eq_some_iff.1 hx).1
    rw [cellsOf, List.map_append, List.getElem?_append_left (by simpa using hj)]
    exact hx)⟩
theorem lies_snd {w : World} {B : Nat} {A : Option Addr} {c : Nat} {s u : List Int} (h : Lies w B A c (cellsOf (s ++ u))) (hc : s.length < c) : Lies w B (A.map (fun x => x.add s.length)) (c - s.length) (cellsOf u) := by
  cases A with
  | none => have := h.1 rfl; omega
  | some ad =>
    refine ⟨(fun e => by cases e), fun j x hx => ?_⟩
    obtain ⟨ad', e, hb, hcell⟩ := h.2 (s.length + j) x (by rw [cellsOf, List.map_append, List.getElem?_append_right (by simp)]; simpa using hx)
    injection e with e
    subst e
    exact ⟨_, rfl, by rw [addr_block]; exact hb, by rw [addr_add]; exact hcell⟩
theorem lies_end {w : World} {B : Nat} {A : Option Addr} {c : Nat} {u : List Int} (hu : u.length = 0) (hc : c = 0) : Lies w B A c (cellsOf u) := by
  have := List.eq_nil_of_length_eq_zero hu
  subst this
  exact ⟨fun _ => hc, fun j x hx => by simp at hx⟩

set_option maxHeartbeats 1600000 in
theorem texts_walk (A0 A1 : Option Addr) (c0 c1 : Nat) (s u : List Int) (w : World) (hs1 : s.length ≤ c0) (hs2 : c0 ≤ 140737488351232) (hu1 : u.length ≤ c1) (hu2 : c1 ≤ 140737488351232) (hs : Lies w w.heap.size A0 c0 (cellsOf s)) (hu : Lies w w.heap.size A1 c1 (cellsOf u)) :
    Calls Try.prog 6 #[.slice A0 s.length c0, .slice A1 u.length c1] w fun e w' => e = .returned (.bool true) ∧ Below w.heap.size w w' := by
  have HS := Lib.hid hs
  have HU := Lib.hid hu
  clear hs hu
  go_enter Try.func6, Try.ntmps6
  go_wp2_with fail
  refine (head_true _).mono ?_
  rintro e w1 ⟨rfl, hb1⟩
  go_wp2_with fail
  refine (textC A0 s s.length c0 rfl _ ((HS.out.below hb1).more hb1.size) (by omega)).mono ?_
  rintro e w2 ⟨A2, c2, rfl, p1, p2, p3, _, hb2⟩
  have B2 := bthen hb1 hb2
  go_wp2_with fail
  refine (textC A1 u u.length c1 rfl _ ((HU.out.below B2).more B2.size) (by omega)).mono ?_
  rintro e w3 ⟨A3, c3, rfl, q1, q2, q3, _, hb3⟩
  have B3 := bthen B2 hb3
  have P3 := Lib.hid ((p3.below hb3).more hb3.size)
  have Q3 := Lib.hid q3
  clear p3 q3 hb1 hb2 hb3 B2
  have BB := Lib.hid B3
  clear B3
  go_wp2_with fail
  by_cases hlong : 256 < s.length + u.length
  · refine (twoT_long A2 A3 _ _ c2 c3 _ (by omega) (by omega) hlong).mono ?_
    rintro e w4 ⟨rfl, hb4⟩
    have B4 := Lib.hid (bthen (bthen BB.out hb4) (below_alloc w4 (vO 0 0 nilS)))
    clear hb4
    by_cases h1 : 256 < s.length
    · go_wp2
      go_ret
      exact ⟨rfl, B4.out⟩
    · go_wp2
      go_ret
      exact ⟨rfl, B4.out⟩
  · have hle : s.length + u.length ≤ 256 := by omega
    refine (twoT_ok A2 A3 c2 c3 s u _ p1 p2 q1 q2 hle P3.out Q3.out).mono ?_
    rintro e w4 ⟨A4, c4, rfl, r1, r2, r3, _, hb4⟩
    have B4 := Lib.hid (bthen (bthen BB.out hb4) (below_alloc w4 (vO 3 0 (.slice A4 (s.length + u.length) c4))))
    have b4 := bthen BB.out hb4
    have hb := below_alloc w4 (vO 3 0 (.slice A4 (s.length + u.length) c4))
    have f1 := fun nq => run_string_lies (P := Try.prog) ((w4.alloc (vO 3 0 (.slice A4 (s.length + u.length) c4))).drewN nq) 24 9 5 Try.underlying24 Try.underlying5 Try.underlying9 w4.heap.size A4 s.length c4 s rfl ((lies_fst (r3.below hb)).below (below_drewN (Below.refl _ _) nq))
    have f2 := fun nq => run_string_lies (P := Try.prog) ((w4.alloc (vO 3 0 (.slice A4 (s.length + u.length) c4))).drewN nq) 24 9 5 Try.underlying24 Try.underlying5 Try.underlying9 w.heap.size A0 s.length c0 s rfl ((HS.out.below (bthen b4 hb)).below (below_drewN (Below.refl _ _) nq))
    have f4 := fun nq => run_string_lies (P := Try.prog) ((w4.alloc (vO 3 0 (.slice A4 (s.length + u.length) c4))).drewN nq) 24 9 5 Try.underlying24 Try.underlying5 Try.underlying9 w.heap.size A1 u.length c1 u rfl ((HU.out.below (bthen b4 hb)).below (below_drewN (Below.refl _ _) nq))
    unfold maxLen at r2 p2 q2
    by_cases hcp : c4 = s.length
    · subst hcp
      have f3 := fun nq => run_string_lies (P := Try.prog) ((w4.alloc (vO 3 0 (.slice A4 (s.length + u.length) s.length))).drewN nq) 24 9 5 Try.underlying24 Try.underlying5 Try.underlying9 w4.heap.size A4 0 0 u (by omega) (lies_end (by omega) rfl)
      have hw := IntWalk.i64_in ((s.length : Int) + (u.length : Int)) (by omega)
      generalize strOfNums s = X at *
      generalize strOfNums u = Y at *
      clear hb4 r3 b4 hb
      generalize s.length = n at *
      generalize u.length = m at *
      go_wp2_with fail
      have k1 : (n : Int) ≤ (n : Int) + (m : Int) := by omega
      have k2 : (n : Int) + (m : Int) ≤ (n : Int) := by omega
      have k3 : n ≤ n + m := by omega
      have k4 : ¬ (n < n + m) := by omega
      go_quiet (fail)
      go_wp2
      go_ret
      exact ⟨rfl, below_drewN B4.out _⟩
    · have hlt : s.length < c4 := by omega
      have f3 := fun nq => run_string_lies (P := Try.prog) ((w4.alloc (vO 3 0 (.slice A4 (s.length + u.length) c4))).drewN nq) 24 9 5 Try.underlying24 Try.underlying5 Try.underlying9 w4.heap.size (A4.map (fun x => x.add s.length)) u.length (c4 - s.length) u rfl ((lies_snd (r3.below hb) hlt).below (below_drewN (Below.refl _ _) nq))
      generalize strOfNums s = X at *
      generalize strOfNums u = Y at *
      clear hb4 r3 b4 hb
      go_wp2_with fail
      go_quiet (fail)
      go_wp2
      go_ret
      exact ⟨rfl, below_drewN B4.out _⟩
end Go.Proofs.Ytehihpfhcphdoaa
