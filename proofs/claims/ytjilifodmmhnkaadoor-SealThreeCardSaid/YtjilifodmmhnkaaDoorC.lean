/- What 'Open' returns: what was sealed, or the error; in memory of the call's own. Conditions: none beyond what a slice is, and its reach; the table of sixteen lies as the program lays it. -/
import Derived.Test.YtjilifodmmhnkaaDoorB
namespace Go.Proofs.YtjilifodmmhnkaaDoor
open Go.RowKit

/-- the error of opening bytes, and what was sealed in them -/
def opE (l : List Int) : Int := if l.length < 4 then 11 else if l.take 4 = four (crcI (l.drop 4)) then 0 else 21
def opL (l : List Int) : List Int := if opE l = 0 then l.drop 4 else []
/-- what opening returns -/
def OpenO (w : World) (l : List Int) (E : Int) (e : Ending) (w' : World) : Prop :=
  ∃ v, e = .returned (.tuple #[v, .int .i64 E]) ∧ w'.ownsRow w.heap.size 5 1 v l.length (cellsOf l) ∧ Below w.heap.size w w'

set_option maxHeartbeats 400000 in
theorem open_short (A : Option Addr) (n c : Nat) (w : World) (h : n < 4) :
    Calls Tryd.prog 11 #[.slice A n c] w fun e w' => e = .returned (.tuple #[.slice none 0 0, .int .i64 11]) ∧ w = w' := by
  go_enter Tryd.func11, Tryd.ntmps11
  go_wp2
  go_ret2
  exact ⟨rfl, rfl⟩

/-- what opening returns, by whether the sum is right -/
def OpenQ (w : World) (m : List Int) (q : Bool) (e : Ending) (w' : World) : Prop := OpenO w (bif q then m else []) (bif q then 0 else 21) e w'

theorem open_eq {w w1 : World} {A : Option Addr} {c : Nat} {p : List Int} {a0 a1 a2 a3 : Int} {X : Obj} {q : Bool} (hp : p.length = 4) (HP : Lies w w.heap.size A c (cellsOf p)) (hal : Below w.heap.size w (w1.alloc X))
    (hl4 : Lies (w1.alloc X) (w1.heap.size + 1) (some ⟨w1.heap.size, 0, none⟩) 4 (cellsOf [a0, a1, a2, a3])) (he : eqS p [a0, a1, a2, a3] = q) (nq : Nat) :
    Calls Tryd.prog 17 #[.slice A 4 c, .slice (some ⟨w1.heap.size, 0, none⟩) 4 4] ((w1.alloc X).drewN nq) fun e w' => e = .returned (.bool q) ∧ w' = (w1.alloc X).drewN nq := by
  subst he
  exact (equal A (some ⟨w1.heap.size, 0, none⟩) p [a0, a1, a2, a3] 4 4 c 4 _ _ _ hp rfl (HP.below (below_drewN hal nq)) (hl4.below (below_drewN (Below.refl _ _) nq))).mono fun e w' ⟨he, hw⟩ => ⟨he, hw.symm⟩

set_option maxHeartbeats 800000 in
theorem open_q (A : Option Addr) (l : List Int) (n c : Nat) (w : World) (q : Bool) (hn : l.length = n) (h4 : 4 ≤ n) (hc : n ≤ c) (hcm : c ≤ maxLen) (hr : n ≤ 140737488351300) (hl : Lies w w.heap.size A c (cellsOf l)) (hy : Byt l) (ht : Tab w)
    (hq : eqS (l.take 4) (four (crcI (l.drop 4))) = q) :
    Calls Tryd.prog 11 #[.slice A n c] w (OpenQ w (l.drop 4) q) := by
  have hd : (l.drop 4).length = n - 4 := by simp [hn]
  have ht4 : (l.take 4).length = 4 := by simp; omega
  have yd : Byt (l.drop 4) := hy.sub fun x hx => List.mem_of_mem_drop hx
  have hs := crcI_lt (l.drop 4)
  have K1 := Lib.hid fun (A' : Option Addr) (h : Lies w w.heap.size A' (c - 4) (cellsOf (l.drop 4))) => sum A' (l.drop 4) (c - 4) w w.heap.size (by omega) (by omega) h yd ht
  have HP := Lib.hid (hl.pre 4)
  have HQ := Lib.hid (hl.cut (p := 4) (by omega : l.length ≤ c))
  clear hl hy ht yd
  rw [hd] at K1
  generalize l.drop 4 = m at *
  generalize l.take 4 = p at *
  have HM := Lib.hid hd
  have HM4 := Lib.hid ht4
  clear hd ht4 hn
  generalize crcI m = s at *
  obtain ⟨a0, a1, a2, a3, hF, h0, h1, h2, h3⟩ := four_parts s
  rw [hF] at hq
  have HE := Lib.hid hq
  have H0 := Lib.hid h0
  have H1 := Lib.hid h1
  have H2 := Lib.hid h2
  have H3 := Lib.hid h3
  clear hF h0 h1 h2 h3 hq
  by_cases h4c : c = 4
  · subst h4c
    obtain rfl : n = 4 := by omega
    rw [if_pos rfl] at HQ
    simp only [Nat.sub_self] at K1 HQ HM
    go_enter Tryd.func11, Tryd.ntmps11
    go_wp2_with fail
    refine (K1.out _ HQ.out).mono ?_
    rintro e w1 ⟨rfl, rfl⟩
    go_wp2_with fail
    refine (sumBytes _ _ hs).mono ?_
    rintro e w1 ⟨rfl, hb1⟩
    rw [H0.out, H1.out, H2.out, H3.out]
    have hal := hb1.alloc hb1.size (.cells (cellsOf [a0, a1, a2, a3]).toArray 36)
    have hl4 := lies_new w1 [a0, a1, a2, a3] 4 36 (0, 0)
    simp only [cellsOf, List.map_cons, List.map_nil] at hal hl4
    generalize hX : Obj.cells #[Value.int IntKind.u8 a0, Value.int IntKind.u8 a1, Value.int IntKind.u8 a2, Value.int IntKind.u8 a3] 36 = X at *
    have K2 := Lib.hid (fun nq => open_eq HM4.out HP.out hal hl4 HE.out nq)
    have HK := Lib.hid (HQ.out.below hal)
    have hsz := hal.size
    clear hl4
    go_wp2
    go_quiet ((go_at_call 17; refine Calls.quiet_of_same (K2.out _)))
    cases q
    · go_wp2
      go_ret2
      exact ⟨_, rfl, World.ownsRow_nil _ _ _ _, below_drewN hal _⟩
    · go_wp2_with fail
      refine (cloneO _ m _ _ _ HM.out ((HK.out.below (below_drewN (Below.refl _ _) _)).more hsz) (by rw [HM.out]; omega)).mono ?_
      rintro e w2 ⟨v2, rfl, ho2, hb2⟩
      go_wp2
      go_ret2
      exact ⟨v2, rfl, own_mono ho2 hsz, (below_drewN hal _).trans (hb2.mono hsz)⟩
  · have h4c' : 4 < c := by omega
    rw [if_neg h4c] at HQ
    go_enter Tryd.func11, Tryd.ntmps11
    go_wp2_with fail
    refine (K1.out _ HQ.out).mono ?_
    rintro e w1 ⟨rfl, rfl⟩
    go_wp2_with fail
    refine (sumBytes _ _ hs).mono ?_
    rintro e w1 ⟨rfl, hb1⟩
    rw [H0.out, H1.out, H2.out, H3.out]
    have hal := hb1.alloc hb1.size (.cells (cellsOf [a0, a1, a2, a3]).toArray 36)
    have hl4 := lies_new w1 [a0, a1, a2, a3] 4 36 (0, 0)
    simp only [cellsOf, List.map_cons, List.map_nil] at hal hl4
    generalize hX : Obj.cells #[Value.int IntKind.u8 a0, Value.int IntKind.u8 a1, Value.int IntKind.u8 a2, Value.int IntKind.u8 a3] 36 = X at *
    have K2 := Lib.hid (fun nq => open_eq HM4.out HP.out hal hl4 HE.out nq)
    have HK := Lib.hid (HQ.out.below hal)
    have hsz := hal.size
    clear hl4
    go_wp2
    go_quiet ((go_at_call 17; refine Calls.quiet_of_same (K2.out _)))
    cases q
    · go_wp2
      go_ret2
      exact ⟨_, rfl, World.ownsRow_nil _ _ _ _, below_drewN hal _⟩
    · go_wp2_with fail
      refine (cloneO _ m _ _ _ HM.out ((HK.out.below (below_drewN (Below.refl _ _) _)).more hsz) (by rw [HM.out]; omega)).mono ?_
      rintro e w2 ⟨v2, rfl, ho2, hb2⟩
      go_wp2
      go_ret2
      exact ⟨v2, rfl, own_mono ho2 hsz, (below_drewN hal _).trans (hb2.mono hsz)⟩

theorem opE_0 {l : List Int} (h : opE l = 0) : 4 ≤ l.length ∧ l.take 4 = four (crcI (l.drop 4)) := by
  unfold opE at h
  split at h
  · cases h
  · split at h
    · exact ⟨by omega, by assumption⟩
    · cases h
theorem openO (A : Option Addr) (l : List Int) (n c : Nat) (w : World) (hn : l.length = n) (hc : n ≤ c) (hcm : c ≤ maxLen) (hr : n ≤ 140737488351300) (hl : Lies w w.heap.size A c (cellsOf l)) (hy : Byt l) (ht : Tab w) :
    Calls Tryd.prog 11 #[.slice A n c] w (OpenO w (opL l) (opE l)) := by
  by_cases h4 : n < 4
  · have hE : opE l = 11 := by unfold opE; rw [if_pos (by omega)]
    have hL : opL l = [] := by unfold opL; rw [hE]; rfl
    rw [hE, hL]
    refine (open_short A n c w h4).mono fun e w' ⟨he, hw⟩ => ?_
    subst hw
    exact ⟨_, he, World.ownsRow_nil _ _ _ _, Below.refl _ _⟩
  · have yt : Byt (l.take 4) := hy.sub fun x hx => List.mem_of_mem_take hx
    by_cases h : l.take 4 = four (crcI (l.drop 4))
    · have hE : opE l = 0 := by unfold opE; rw [if_neg (by omega), if_pos h]
      have hL : opL l = l.drop 4 := by unfold opL; rw [if_pos hE]
      rw [hE, hL]
      exact open_q A l n c w true hn (by omega) hc hcm hr hl hy ht (by rw [h]; exact eqS_true _)
    · have hE : opE l = 21 := by unfold opE; rw [if_neg (by omega), if_neg h]
      have hL : opL l = [] := by unfold opL; rw [hE]; rfl
      rw [hE, hL]
      exact open_q A l n c w false hn (by omega) hc hcm hr hl hy ht (eqS_false yt (four_byt (crcI_lt _)) h)
end Go.Proofs.YtjilifodmmhnkaaDoor
