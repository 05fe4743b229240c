/- The closures that revert a change: what they do, and what makes them. Conditions: what they keep lies in memory; keys and values are not too great. -/
import Derived.Test.YtncbbjodianmoaaJa
namespace Go.Proofs.Ytncbbjodianmoaa
open Go.RowKit
set_option linter.unusedSimpArgs false
set_option linter.unusedVariables false

theorem ent48 : Ent 48 := by intro args w; simp
theorem ent51 : Ent 51 := by intro args w; simp
theorem ent53 : Ent 53 := by intro args w; simp
theorem Sm.sml {a : List PR} (h : Sm 100000 a) : Sml a := ⟨by have := h.1; omega, h.2⟩
theorem NewF.x {n0 : Nat} {w : World} {ls : List PR} {e : Ending} {w' : World} (h : NewF w ls e w') : NewX n0 w ls e w' := by
  obtain ⟨A', c', h1, h2, h3, h4, h5, h6⟩ := h
  exact ⟨A', c', h1, h2, h3, ⟨h4.here, h5.off⟩, h6⟩
/-- a box that a closure keeps -/
def Box (w : World) (K : Nat) (v : Value) : Prop := w.heap[K]? = some (.cells #[v] 30 (0, 0))
theorem Box.off {n0 : Nat} {w w' : World} {K : Nat} {v : Value} (h : Box w K v) (ho : Off n0 w w') : Box w' K v := by
  unfold Box at *
  rw [ho.block K (Array.getElem?_eq_some_iff.1 h).1 (fun hx => by
    obtain ⟨_, cs', T, z', h2, h3, _⟩ := hx
    rw [h] at h2
    injection h2 with h2
    injection h2 with _ h2 _
    subst h2
    revert h3
    decide) (.inr ⟨_, _, _, h⟩)]
  exact h
theorem Box.cell {w : World} {K : Nat} {v : Value} (h : Box w K v) : w.cell? ⟨K, 0, none⟩ = some v := by unfold Box at h; simp [World.cell?, h]
theorem Box.new (w : World) (v : Value) : Box (w.alloc (.cells #[v] 30)) w.heap.size v := heap_alloc_new w _

set_option maxHeartbeats 800000 in
theorem takeOut_acts (n0 : Nat) (w : World) (K : Nat) (Ak : Option Addr) (key : List Int) (ck : Nat) (hb : Box w K (.slice Ak key.length ck)) (hk : SB w w.heap.size (.slice Ak key.length ck) key) :
    Acts n0 w (.func (.func 48) #[] #[.pointer (some ⟨K, 0, none⟩)]) (fun a => delM a key) := by
  refine ⟨48, _, rfl, ent48, fun w' ho A c a hsm hc hm hp => ?_⟩
  show Calls Try.prog 48 #[.slice A a.length c, .pointer (some ⟨K, 0, none⟩)] w' _
  have hcell := (hb.off ho).cell
  have K1 := Lib.hid (delC A a c Ak key ck w' hp.1 hc hm (hk.off ho) hsm.sml)
  clear hp hk hb ho hsm
  unfold maxLen at hm
  go_enter Try.func48, Try.ntmps48
  go_wp2_with fail
  (with_reducible refine K1.out.mono ?_)
  rintro e w2 h
  have h := h.x (n0 := n0)
  obtain ⟨A', c', rfl, h2⟩ := h
  have H2 := Lib.hid h2
  clear h2
  go_wp2
  go_ret
  exact ⟨A', c', rfl, H2.out⟩

set_option maxHeartbeats 800000 in
theorem putBack_acts (n0 : Nat) (w : World) (K V : Nat) (Ak : Option Addr) (key : List Int) (ck : Nat) (Av : Option Addr) (val : List Int) (cv : Nat)
    (hb : Box w K (.slice Ak key.length ck)) (hk : SB w w.heap.size (.slice Ak key.length ck) key) (hbv : Box w V (.slice Av val.length cv)) (hv : SB w w.heap.size (.slice Av val.length cv) val) :
    Acts n0 w (.func (.func 51) #[] #[.pointer (some ⟨K, 0, none⟩), .pointer (some ⟨V, 0, none⟩)]) (fun a => putR a key val) := by
  refine ⟨51, _, rfl, ent51, fun w' ho A c a hsm hc hm hp => ?_⟩
  show Calls Try.prog 51 #[.slice A a.length c, .pointer (some ⟨K, 0, none⟩), .pointer (some ⟨V, 0, none⟩)] w' _
  have hcell := (hb.off ho).cell
  have hcell2 := (hbv.off ho).cell
  have K1 := Lib.hid (putC A a c Ak key ck Av val cv w' hp.1 hc hm (hk.off ho) (hv.off ho) hsm.sml hsm.1)
  clear hp hk hb ho hsm hbv hv
  unfold maxLen at hm
  dsimp only
  generalize putR a key val = r at *
  generalize putE a key val = E at *
  go_enter Try.func51, Try.ntmps51
  go_wp2_with fail
  (with_reducible refine K1.out.mono ?_)
  rintro e w2 ⟨A', c', rfl, h1, h2, h3, h4, h5⟩
  have H2 : Hid (r.length ≤ c' ∧ c' ≤ maxLen ∧ PrsX n0 w2 A' c' r ∧ Below w'.heap.size w' w2) := ⟨h1, h2, ⟨h3.here, h4.off⟩, h5⟩
  clear h1 h2 h3 h4 h5
  go_wp2
  go_ret
  exact ⟨A', c', rfl, H2.out⟩

set_option maxHeartbeats 800000 in
theorem leave_acts (n0 : Nat) (w : World) : Acts n0 w (.func (.func 53) #[] #[]) (fun a => a) := by
  refine ⟨53, _, rfl, ent53, fun w' ho A c a hsm hc hm hp => ?_⟩
  show Calls Try.prog 53 #[.slice A a.length c] w' _
  have HP := Lib.hid hp
  have HM := Lib.hid hm
  clear hp ho hsm
  unfold maxLen at hm
  go_enter Try.func53, Try.ntmps53
  go_wp2
  go_ret
  exact ⟨A, c, rfl, hc, HM.out, HP.out, Below.refl _ _⟩

/-- what makes a closure returns it -/
def NewA (n0 : Nat) (w : World) (F : List PR → List PR) (e : Ending) (w' : World) : Prop :=
  ∃ fn lb, e = .returned (.func (.func fn) #[] lb) ∧ Acts n0 w' (.func (.func fn) #[] lb) F ∧ Below w.heap.size w w'

set_option maxHeartbeats 800000 in
theorem takeOutC (n0 : Nat) (Ak : Option Addr) (key : List Int) (ck : Nat) (w : World) (hk : SB w w.heap.size (.slice Ak key.length ck) key) (hl : key.length ≤ 200000) :
    Calls Try.prog 30 #[.slice Ak key.length ck] w (NewA n0 w fun a => delM a key) := by
  have HY := Lib.hid hk.byt
  have K1 : Hid (Calls Try.prog 44 #[.slice Ak key.length ck] w (OwnBytes w key)) := by
    obtain ⟨_, _, e2, _, _, g2, _⟩ := hk
    injection e2 with e2 _ e2'
    subst e2 e2'
    exact cloneO _ key _ w g2 (by omega)
  clear hk
  go_enter Try.func30, Try.ntmps30
  go_wp2_with fail
  (with_reducible refine K1.out.mono ?_)
  rintro e w2 ⟨v, rfl, h2, h3⟩
  obtain ⟨A, c, rfl, g⟩ := own_SB h2 HY.out
  have hb := below_alloc w2 (.cells #[.slice A key.length c] 30)
  have HA : Hid (Acts n0 (w2.alloc (.cells #[.slice A key.length c] 30)) (.func (.func 48) #[] #[.pointer (some ⟨w2.heap.size, 0, none⟩)]) (fun a => delM a key)) :=
    takeOut_acts n0 _ _ A key c (Box.new w2 _) (SB.on ⟨A, c, rfl, g⟩ hb)
  have HB : Hid (Below w.heap.size w (w2.alloc (.cells #[.slice A key.length c] 30))) := h3.trans (hb.mono h3.size)
  clear h2 h3 hb g
  go_wp2
  go_ret
  exact ⟨_, _, rfl, HA.out, HB.out⟩

set_option maxHeartbeats 800000 in
theorem putBackC (n0 : Nat) (Ak : Option Addr) (key : List Int) (ck : Nat) (Av : Option Addr) (val : List Int) (cv : Nat) (w : World) (hk : SB w w.heap.size (.slice Ak key.length ck) key) (hl : key.length ≤ 200000) (hv : SB w w.heap.size (.slice Av val.length cv) val) :
    Calls Try.prog 32 #[.slice Ak key.length ck, .slice Av val.length cv] w (NewA n0 w fun a => putR a key val) := by
  have HY := Lib.hid hk.byt
  have hb0 := below_alloc w (.cells #[.slice Av val.length cv] 30)
  have HV : Hid (Box (w.alloc (.cells #[.slice Av val.length cv] 30)) w.heap.size (.slice Av val.length cv) ∧ SB (w.alloc (.cells #[.slice Av val.length cv] 30)) (w.alloc (.cells #[.slice Av val.length cv] 30)).heap.size (.slice Av val.length cv) val ∧ Below w.heap.size w (w.alloc (.cells #[.slice Av val.length cv] 30))) :=
    ⟨Box.new w _, hv.on hb0, hb0⟩
  have K1 : Hid (Calls Try.prog 44 #[.slice Ak key.length ck] (w.alloc (.cells #[.slice Av val.length cv] 30)) (OwnBytes (w.alloc (.cells #[.slice Av val.length cv] 30)) key)) := by
    obtain ⟨_, _, e2, _, _, g2, _⟩ := hk.on hb0
    injection e2 with e2 _ e2'
    subst e2 e2'
    exact cloneO _ key _ _ g2 (by omega)
  clear hk hv hb0
  go_enter Try.func32, Try.ntmps32
  go_wp2_with fail
  (with_reducible refine K1.out.mono ?_)
  rintro e w2 ⟨v, rfl, h2, h3⟩
  obtain ⟨A, c, rfl, g⟩ := own_SB h2 HY.out
  have hb := below_alloc w2 (.cells #[.slice A key.length c] 30)
  have HA : Hid (Acts n0 (w2.alloc (.cells #[.slice A key.length c] 30)) (.func (.func 51) #[] #[.pointer (some ⟨w2.heap.size, 0, none⟩), .pointer (some ⟨w.heap.size, 0, none⟩)]) (fun a => putR a key val)) :=
    putBack_acts n0 _ _ _ A key c Av val cv (Box.new w2 _) (SB.on ⟨A, c, rfl, g⟩ hb) (((HV.out.1.off (n0 := n0) (.of h3)).off (n0 := n0) (.of hb))) ((HV.out.2.1.on h3).on hb)
  have HB : Hid (Below w.heap.size w (w2.alloc (.cells #[.slice A key.length c] 30))) := (HV.out.2.2.trans (h3.mono HV.out.2.2.size)).trans (hb.mono (Nat.le_trans HV.out.2.2.size h3.size))
  clear h2 h3 hb g
  go_wp2
  go_ret
  exact ⟨_, _, rfl, HA.out, HB.out⟩

set_option maxHeartbeats 800000 in
theorem leaveC (n0 : Nat) (w : World) : Calls Try.prog 35 #[] w fun e w' => e = .returned (.func (.func 53) #[] #[]) ∧ w = w' := by
  go_enter Try.func35, Try.ntmps35
  go_wp2
  go_ret
  exact ⟨rfl, rfl⟩
end Go.Proofs.Ytncbbjodianmoaa
