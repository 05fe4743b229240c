/- What the closures over a key tell, and where the first pair is of which a closure says yes; the document's search. Conditions: what is read lies in memory. -/
import Derived.Test.YtncbbjodianmoaaSm
namespace Go.Proofs.Ytncbbjodianmoaa
open Go.RowKit

theorem below_alloc (w : World) (o : Obj) : Below w.heap.size w (w.alloc o) := (Below.refl _ _).alloc (Nat.le_refl _) o
theorem info42 : (Try.prog.info? 47).map (fun i => (i.zero, i.size, i.bytes)) = some (some (.agg #[.slice none 0 0, .slice none 0 0]), 2, 48) := by kernel_rfl
theorem info42s : (Try.prog.info? 47).map (·.size) = some 2 := by kernel_rfl
theorem ret_bool {a b : Bool} (h : a = b) : Ending.returned (.bool a) = .returned (.bool b) := by rw [h]
theorem ret_int {k : IntKind} {a b : Int} (h : a = b) : Ending.returned (.int k a) = .returned (.int k b) := by rw [h]

/-- a function that is entered at a call -/
def Ent (fn : Nat) : Prop := ∀ (args : Array Value) (w : World), (callFunc fn args).run Try.prog w = .ok (.enter fn args) w
theorem ent37 : Ent 57 := by intro args w; simp
theorem ent49 : Ent 59 := by intro args w; simp

theorem SB.on {w w' : World} {u : Value} {l : List Int} (h : SB w w.heap.size u l) (hb : Below w.heap.size w w') : SB w' w'.heap.size u l := (h.below hb).more hb.size
theorem Prs.on {w w' : World} {A : Option Addr} {c : Nat} {ls : List PR} (h : Prs w w.heap.size A c ls) (hb : Below w.heap.size w w') : Prs w' w'.heap.size A c ls := (h.below hb).more hb.size

/-- the closure fn over the variable Bc says f of every pair, in this world and in later ones -/
def Asks (fn Bc : Nat) (f : PR → Bool) (w : World) : Prop :=
  ∀ w' p u v, Below w.heap.size w w' → SB w' w'.heap.size u p.1 → SB w' w'.heap.size v p.2 → Calls Try.prog fn #[.agg #[u, v], .pointer (some ⟨Bc, 0, none⟩)] w' fun e w'' => e = .returned (.bool (f p)) ∧ Below w'.heap.size w' w''

abbrev closV (fn Bc : Nat) : Value := .func (.func fn) #[] #[.pointer (some ⟨Bc, 0, none⟩)]

set_option maxHeartbeats 400000 in
theorem withC (A : Option Addr) (n c : Nat) (w : World) :
    Calls Try.prog 50 #[.slice A n c] w fun e w' => e = .returned (closV 57 w.heap.size) ∧ w.alloc (.cells #[.slice A n c] 30) = w' := by
  go_enter Try.func50, Try.ntmps50
  go_wp2
  go_ret
  exact ⟨rfl, rfl⟩
set_option maxHeartbeats 400000 in
theorem beyondC (A : Option Addr) (n c : Nat) (w : World) :
    Calls Try.prog 56 #[.slice A n c] w fun e w' => e = .returned (closV 59 w.heap.size) ∧ w.alloc (.cells #[.slice A n c] 30) = w' := by
  go_enter Try.func56, Try.ntmps56
  go_wp2
  go_ret
  exact ⟨rfl, rfl⟩

theorem cell_new (w : World) (v : Value) (T : TypeId) : (w.alloc (.cells #[v] T)).cell? ⟨w.heap.size, 0, none⟩ = some v := by
  rw [cell_of_row _ _ _ _ _ _ (heap_alloc_new w _)]
  rfl
/-- what a closure over a key finds: the key, also behind the pair's own variable -/
theorem clos_facts {w w' : World} {A : Option Addr} {k : List Int} {c : Nat} (hk : SB w w.heap.size (.slice A k.length c) k) (hb : Below (w.alloc (.cells #[.slice A k.length c] 30)).heap.size (w.alloc (.cells #[.slice A k.length c] 30)) w') (o : Obj) :
    (w'.alloc o).cell? ⟨w.heap.size, 0, none⟩ = some (.slice A k.length c) ∧ SB (w'.alloc o) (w'.alloc o).heap.size (.slice A k.length c) k ∧ w.heap.size < w'.heap.size := by
  have hsz := hb.size
  have hlt : w.heap.size < w'.heap.size := by simp at hsz; omega
  refine ⟨?_, ((hk.on (below_alloc w _)).on hb).on (below_alloc w' _), hlt⟩
  rw [(below_alloc w' _).cell (by exact hlt), hb.cell (by simp)]
  exact cell_new w _ _

set_option maxHeartbeats 800000 in
theorem with_asks (A : Option Addr) (k : List Int) (c : Nat) (w : World) (hk : SB w w.heap.size (.slice A k.length c) k) :
    Asks 57 w.heap.size (fun p => p.1 == k) (w.alloc (.cells #[.slice A k.length c] 30)) := by
  intro w' p u v hb hu hv
  dsimp only
  obtain ⟨g1, g2, g3⟩ := clos_facts hk hb (.cells #[u, v] 47)
  have K := Lib.hid (equalC u (.slice A k.length c) p.1 k _ _ (hu.on (below_alloc w' (.cells #[u, v] 47))) g2)
  have HE : Hid ((p.1 == k) = decide (p.1 = k)) := by show _ = _; rw [Bool.eq_iff_iff]; simp
  have HB := Lib.hid (below_alloc w' (.cells #[u, v] 47))
  rw [HE.out]
  obtain ⟨Au, cu, rfl, _⟩ := hu
  obtain ⟨Av, cv, rfl, _⟩ := hv
  generalize decide (p.1 = k) = r at *
  clear hb hk g2 HE
  go_enter Try.func57, Try.ntmps57
  go_wp2_with fail
  refine K.out.mono ?_
  rintro e w2 ⟨rfl, rfl⟩
  go_wp2
  go_ret
  exact ⟨rfl, HB.out⟩
set_option maxHeartbeats 800000 in
theorem beyond_asks (A : Option Addr) (k : List Int) (c : Nat) (w : World) (hk : SB w w.heap.size (.slice A k.length c) k) :
    Asks 59 w.heap.size (fun p => decide (0 < cmpB p.1 k)) (w.alloc (.cells #[.slice A k.length c] 30)) := by
  intro w' p u v hb hu hv
  dsimp only
  obtain ⟨g1, g2, g3⟩ := clos_facts hk hb (.cells #[u, v] 47)
  have K := Lib.hid (compareC u (.slice A k.length c) p.1 k _ _ (hu.on (below_alloc w' (.cells #[u, v] 47))) g2)
  have HB := Lib.hid (below_alloc w' (.cells #[u, v] 47))
  obtain ⟨Au, cu, rfl, _⟩ := hu
  obtain ⟨Av, cv, rfl, _⟩ := hv
  generalize cmpB p.1 k = r at *
  clear hb hk g2
  go_enter Try.func59, Try.ntmps59
  go_wp2_with fail
  refine K.out.mono ?_
  rintro e w2 ⟨rfl, rfl⟩
  go_wp2
  go_ret
  exact ⟨rfl, HB.out⟩

/-- what the search answers -/
def idxV (f : PR → Bool) (l : List PR) : Int := if l.findIdx f < l.length then (l.findIdx f : Nat) else -1
theorem findIdx_no {f : PR → Bool} {l : List PR} {k : Nat} {p : PR} (hk : k ≤ l.findIdx f) (hp : l[k]? = some p) (hf : f p = false) : k + 1 ≤ l.findIdx f := by
  rcases Nat.lt_or_ge k (l.findIdx f) with h | h
  · exact h
  · obtain rfl : k = l.findIdx f := by omega
    have hl := (List.getElem?_eq_some_iff.1 hp).1
    have h1 := @List.findIdx_getElem PR f l hl
    rw [List.getElem?_eq_getElem hl] at hp
    injection hp with hp
    rw [hp, hf] at h1
    cases h1
theorem findIdx_yes {f : PR → Bool} {l : List PR} {k : Nat} {p : PR} (hk : k ≤ l.findIdx f) (hp : l[k]? = some p) (hf : f p = true) : l.findIdx f = k := by
  rcases Nat.lt_or_ge k (l.findIdx f) with h | h
  · have hl := (List.getElem?_eq_some_iff.1 hp).1
    have h1 := List.not_of_lt_findIdx (xs := l) (p := f) h
    rw [List.getElem?_eq_getElem hl] at hp
    injection hp with hp
    rw [hp, hf] at h1
    simp at h1
  · omega

set_option maxHeartbeats 800000 in
theorem indexC (fn Bc : Nat) (f : PR → Bool) (hent : Ent fn) (A : Option Addr) (ls : List PR) (c : Nat) (w : World) (hp : Prs w w.heap.size A c ls) (hc : ls.length ≤ c) (hm : c ≤ maxLen) (ha : Asks fn Bc f w) :
    Calls Try.prog 49 #[.slice A ls.length c, closV fn Bc] w fun e w' => e = .returned (.int .i64 (idxV f ls)) ∧ Below w.heap.size w w' := by
  have HP := Lib.hid hp
  have HA := Lib.hid ha
  clear hp ha
  unfold maxLen at hm
  unfold Ent at hent
  go_enter Try.func49, Try.ntmps49
  go_wp2
  go_loopw [5, 8] (fun _ i wr => ∃ k : Nat, k ≤ ls.length ∧ i = .int .i64 k ∧ Hid (k ≤ ls.findIdx f ∧ Below w.heap.size w wr)) (fun _ i _ => ls.length - (intOf i).toNat)
  case atStart => exact ⟨0, Nat.zero_le _, rfl, Nat.zero_le _, Below.refl _ _⟩
  case round =>
    obtain ⟨k, hk, rfl, HR⟩ := hrel
    by_cases hlt : k < ls.length
    · have hg : ls[k]? = some ls[k] := List.getElem?_eq_getElem hlt
      generalize ls[k] = p at hg
      obtain ⟨b, o, u, v, rfl, hB, c1, c2, s1, s2⟩ := (HP.out.on HR.out.2).get hg
      have HC := Lib.hid (range2 c1 c2)
      have K := Lib.hid (HA.out wr p u v HR.out.2 s1 s2)
      have HG := Lib.hid hg
      clear c1 c2 s1 s2 hg hB
      go_wp2_with (first | (refine wpList_load_mid rfl 47 (.tmp 14) rfl b (o + k * 2) rfl [u, v] _ HC.out Try.underlying47 rfl info42s ?_; refine Hid.out ?_) | fail)
      refine Lib.hid ?_
      go_wp2_with fail
      refine K.out.mono ?_
      rintro e w2 ⟨rfl, hb2⟩
      have HB2 := Lib.hid (HR.out.2.trans (hb2.mono HR.out.2.size))
      clear hb2
      cases hf : f p with
      | true =>
        have HE := Lib.hid (findIdx_yes HR.out.1 HG.out hf)
        clear hf
        go_wp2
        go_ret
        refine ⟨ret_int ?_, HB2.out⟩
        unfold idxV
        rw [HE.out, if_pos hlt]
      | false =>
        have HE := Lib.hid (findIdx_no HR.out.1 HG.out hf)
        clear hf
        go_wp2
        go_roundw
        case rel => exact ⟨k + 1, by omega, by go_num, HE.out, HB2.out⟩
        case measure => simp [intOf]; omega
    · obtain rfl : k = ls.length := by omega
      go_wp2
      go_ret
      refine ⟨ret_int ?_, HR.out.2⟩
      unfold idxV
      rw [if_neg (by have := HR.out.1; omega)]
end Go.Proofs.Ytncbbjodianmoaa
