/- What 'copied' returns: the same pairs, in new memory. Conditions: what is read lies in memory; byte strings are not longer than memory. -/
import Derived.Test.YtncbbjodianmoaaSr
namespace Go.Proofs.Ytncbbjodianmoaa
open Go.RowKit
set_option linter.unusedSimpArgs false
set_option linter.unusedVariables false

abbrev nilS : Value := .slice none 0 0
theorem made_nil (n : Nat) : ∀ x ∈ (madeCells (Value.agg #[nilS, nilS]).cells (n * 2)).toList, x = nilS := by
  intro x hx
  simp only [madeCells, Value.cells, Array.toList_map, List.mem_map] at hx
  obtain ⟨i, _, rfl⟩ := hx
  have h2 : i % 2 < 2 := Nat.mod_lt _ (by omega)
  show (#[nilS, nilS] : Array Value)[i % 2]! = nilS
  match i % 2, h2 with
  | 0, _ => rfl
  | 1, _ => rfl
theorem below_cells (g o : Nat) : ∀ (cs : List Value) (w : World), Below g w (w.setCells g o cs) ∧ (∀ k, k ≠ g → (w.setCells g o cs).heap[k]? = w.heap[k]?) ∧ (w.setCells g o cs).heap.size = w.heap.size := by
  intro cs
  induction cs generalizing o with
  | nil => exact fun w => ⟨Below.refl _ _, fun _ _ => rfl, rfl⟩
  | cons c cs ih =>
    intro w
    have h := ih (o + 1) (w.setCell ⟨g, o, none⟩ c)
    refine ⟨((Below.refl g w).setCell (p := ⟨g, o, none⟩) (Nat.le_refl _) c).trans h.1, fun k hk => ?_, h.2.2.trans (by simp [World.setCell])⟩
    have h2 := h.2.1 k hk
    rw [Below.heap_setCell _ _ _ _ hk] at h2
    exact h2
/-- a store into a row of slices touches no byte string -/
theorem SB.stored {w : World} {base g n : Nat} {xs : List Value} (ho : w.ownsRow base 47 2 (.slice (some ⟨g, 0, none⟩) n n) n xs) (hx : ∀ x ∈ xs, ∃ A m c, x = Value.slice A m c)
    {B : Nat} {u : Value} {l : List Int} (h : SB w B u l) (o : Nat) (cs : List Value) : SB (w.setCells g o cs) B u l := by
  obtain ⟨A, c, rfl, h1, h2, h3, h4⟩ := h
  refine ⟨A, c, rfl, h1, h2, ⟨h3.1, fun i v hv => ?_⟩, h4⟩
  obtain ⟨ad, rfl, hB, hc⟩ := h3.2 i v hv
  refine ⟨ad, rfl, hB, ?_⟩
  by_cases hg : ad.block = g
  · exfalso
    obtain ⟨b, hb, rfl⟩ : ∃ b, b ∈ l ∧ Value.int .u8 b = v := by
      have := List.mem_of_getElem? hv
      simpa [cellsOf] using this
    rcases ho.2 with ⟨h', _⟩ | ⟨g', cap', cur, h', _, hh, _, _, hs, ht⟩
    · simp at h'
    · simp only [Value.slice.injEq, Option.some.injEq, Addr.mk.injEq, and_true, true_and] at h'
      obtain ⟨rfl, rfl⟩ := h'
      have hcur : cur.toList = xs := by rw [← ht, List.take_of_length_le]; simp [hs]
      have hspot : (ad.add i).spot = none := World.cell?_spot hc
      have had : ad.add i = ⟨g, (ad.add i).off, none⟩ := by
        have hbl := addr_block ad i
        rw [hg] at hbl
        rw [← hbl, ← hspot]
      rw [had, cell_of_row w g _ cur 47 (0, 0) hh] at hc
      have hm : Value.int .u8 b ∈ xs := by rw [← hcur]; exact List.mem_of_getElem? (by rw [Array.getElem?_toList]; exact hc)
      obtain ⟨_, _, _, e⟩ := hx _ hm
      cases e
  · rw [World.cell?_of_block (a := ad.add i) (w := w) (by rw [addr_block]; exact (below_cells g o cs w).2.1 _ hg)]
    exact hc

theorem SBD.stored {w : World} {base g n : Nat} {xs : List Value} (ho : w.ownsRow base 47 2 (.slice (some ⟨g, 0, none⟩) n n) n xs) (hx : ∀ x ∈ xs, ∃ A m c, x = Value.slice A m c)
    {D : Nat → Prop} {u : Value} {l : List Int} (h : SBD w D u l) (o : Nat) (cs : List Value) : SBD (w.setCells g o cs) D u l := by
  obtain ⟨A, c, rfl, h1, h2, h3, h4⟩ := h
  refine ⟨A, c, rfl, h1, h2, ⟨h3.1, fun i v hv => ?_⟩, h4⟩
  obtain ⟨ad, rfl, hD, hc⟩ := h3.2 i v hv
  have hs : SB w (ad.block + 1) (.slice (some ad) l.length c) l := ⟨_, _, rfl, h1, h2, ⟨h3.1, fun i v hv => by obtain ⟨ad', e, _, hc'⟩ := h3.2 i v hv; injection e with e; subst e; exact ⟨_, rfl, Nat.lt_succ_self _, hc'⟩⟩, h4⟩
  obtain ⟨A', c', e, _, _, hl, _⟩ := hs.stored ho hx o cs
  injection e with e _ _
  subst e
  obtain ⟨ad', e', _, hc'⟩ := hl.2 i v hv
  injection e' with e'
  subst e'
  exact ⟨_, rfl, hD, hc'⟩

theorem PsC.slices {w : World} {B : Nat} {l : List PR} {vs : List Value} (h : PsC w B l vs) : ∀ x ∈ vs, ∃ A m c, x = Value.slice A m c := by
  induction h with
  | nil => intro x hx; cases hx
  | cons h1 h2 _ ih =>
    intro x hx
    obtain ⟨A, c, e1, _⟩ := h1
    obtain ⟨A', c', e2, _⟩ := h2
    rcases List.mem_cons.1 hx with e | e
    · exact ⟨A, _, c, e.trans e1⟩
    · rcases List.mem_cons.1 e with e | e
      · exact ⟨A', _, c', e.trans e2⟩
      · exact ih x e

/-- a row of n pairs in the block that was made first, of which the first k are those of ls -/
def Mk (w : World) (ls : List PR) (n k : Nat) (wr : World) : Prop :=
  ∃ vs, wr.ownsRow w.heap.size 47 2 (.slice (some ⟨w.heap.size, 0, none⟩) n n) n vs ∧ (∀ x ∈ vs, ∃ A m c, x = Value.slice A m c) ∧ PsCD wr (Fr w.heap.size wr.heap.size) (ls.take k) (vs.take (k * 2)) ∧ Below w.heap.size w wr
theorem Mk.start {w w1 : World} {ls : List PR} {n : Nat} (ho : w1.ownsRow w.heap.size 47 2 (.slice (some ⟨w.heap.size, 0, none⟩) n n) n (madeCells (Value.agg #[nilS, nilS]).cells (n * 2)).toList) (hg : w.grownBy w1 none) : Mk w ls n 0 w1 :=
  ⟨_, ho, fun x hx => ⟨_, _, _, made_nil n x hx⟩, by simp; exact .nil, (Below.refl _ _).grown hg (Nat.le_refl _) (fun k hk => by cases hk)⟩
theorem Mk.bl {w wr : World} {ls : List PR} {n k : Nat} (h : Mk w ls n k wr) : Below w.heap.size w wr := h.choose_spec.2.2.2
theorem Mk.lt {w wr : World} {ls : List PR} {n k : Nat} (h : Mk w ls n k wr) : w.heap.size < wr.heap.size := (h.choose_spec.1.lt _ rfl).2
theorem own_belowS {w w' : World} {base : Nat} {e : TypeId} {size : Nat} {v : Value} {n : Nat} {xs : List Value} (h : w.ownsRow base e size v n xs) (hb : Below w.heap.size w w') : w'.ownsRow base e size v n xs := own_below h hb (Nat.le_refl _)
theorem Mk.on {w wr w2 : World} {ls : List PR} {n k : Nat} (h : Mk w ls n k wr) (hb : Below wr.heap.size wr w2) : Mk w ls n k w2 := by
  obtain ⟨vs, ho, h1, h2, h3⟩ := h
  exact ⟨vs, own_belowS ho hb, h1, h2.mono fun u l h => h.fr hb, h3.trans (hb.mono h3.size)⟩
theorem Mk.there {w wr : World} {ls : List PR} {n k : Nat} (h : Mk w ls n k wr) (hk : k < n) : wr.there w.heap.size (k * 2) 2 := by
  obtain ⟨vs, ho, _⟩ := h
  intro j hj
  refine ⟨?_, ho.frozenAt _⟩
  have hl := ho.1
  rw [ho.cellAt (k * 2 + j) (by omega), List.getElem?_eq_getElem (by omega)]
  rfl
theorem Mk.step {w wr : World} {ls : List PR} {n k : Nat} {p : PR} {u v : Value} (h : Mk w ls n k wr) (hk : k < n) (hp : ls[k]? = some p) (h1 : SBD wr (Fr w.heap.size wr.heap.size) u p.1) (h2 : SBD wr (Fr w.heap.size wr.heap.size) v p.2) : Mk w ls n (k + 1) (wr.setCells w.heap.size (k * 2) [u, v]) := by
  obtain ⟨vs, ho, hs, hps, hb⟩ := h
  have hz : (wr.setCells w.heap.size (k * 2) [u, v]).heap.size = wr.heap.size := (below_cells _ _ _ _).2.2
  have hl := ho.1
  have s1 := ho.stored (k * 2) u
  have s2 := s1.1.stored (k * 2 + 1) v
  refine ⟨(vs.set (k * 2) u).set (k * 2 + 1) v, s2.1, fun x hx => ?_, ?_, hb.trans (below_cells _ _ _ _).1⟩
  · rcases List.mem_or_eq_of_mem_set hx with e | e
    · rcases List.mem_or_eq_of_mem_set e with e | e
      · exact hs x e
      · obtain ⟨A, c, e', _⟩ := h1
        exact ⟨A, _, c, e.trans e'⟩
    · obtain ⟨A, c, e', _⟩ := h2
      exact ⟨A, _, c, e.trans e'⟩
  · rw [hz, take_next hp, show (k + 1) * 2 = k * 2 + 1 + 1 by omega]
    have e : ((vs.set (k * 2) u).set (k * 2 + 1) v).take (k * 2 + 1 + 1) = vs.take (k * 2) ++ [u, v] := by
      have g1 : ((vs.set (k * 2) u).set (k * 2 + 1) v)[k * 2]? = some u := by
        rw [List.getElem?_set_ne (by omega), List.getElem?_set_self (by omega)]
      have g2 : ((vs.set (k * 2) u).set (k * 2 + 1) v)[k * 2 + 1]? = some v := by
        rw [List.getElem?_set_self (by simp; omega)]
      rw [take_next g2, take_next g1, List.take_set_of_le (by omega), List.take_set_of_le (by omega)]
      simp
    rw [e]
    refine (hps.mono fun x l hx => hx.stored ho hs _ _).append (.cons (h1.stored ho hs _ _) (h2.stored ho hs _ _) .nil)
theorem Mk.fin {w wr : World} {ls : List PR} {n : Nat} (h : Mk w ls n n wr) (hn : n = ls.length) : PrsD wr (Fr w.heap.size wr.heap.size) (some ⟨w.heap.size, 0, none⟩) n ls := by
  obtain ⟨vs, ho, hs, hps, hb⟩ := h
  have hl := ho.1
  rw [hn, List.take_length, ← hn, ← hl, List.take_length] at hps
  exact ⟨vs, ⟨(fun e => by cases e), fun j u hu => ⟨_, rfl, ho.lt _ rfl, ho.cells rfl j u hu⟩⟩, hps⟩
theorem apart2 {w : World} {b g o : Nat} {u v : Value} {cs : List Value} (h : w.cell? ⟨b, 0, none⟩ = some u ∧ w.cell? ⟨b, 1, none⟩ = some v) (hb : b ≠ g) : (w.setCells g o cs).cell? ⟨b, 0, none⟩ = some u ∧ (w.setCells g o cs).cell? ⟨b, 1, none⟩ = some v :=
  ⟨by rw [World.cell?_of_block (a := ⟨b, 0, none⟩) (w := w) ((below_cells g o cs w).2.1 _ hb)]; exact h.1, by rw [World.cell?_of_block (a := ⟨b, 1, none⟩) (w := w) ((below_cells g o cs w).2.1 _ hb)]; exact h.2⟩

/-- rows that are not too great for anything here -/
def Sml (ls : List PR) : Prop := ls.length ≤ 200000 ∧ ∀ p ∈ ls, p.1.length ≤ 200000 ∧ p.2.length ≤ 200000

/-- what a call returns that makes a row of pairs anew -/
def NewPrs (w : World) (ls : List PR) (e : Ending) (w' : World) : Prop :=
  ∃ A' c', e = .returned (.slice A' ls.length c') ∧ ls.length ≤ c' ∧ c' ≤ maxLen ∧ Prs w' w'.heap.size A' c' ls ∧ Below w.heap.size w w'

set_option maxHeartbeats 1600000 in
theorem copiedC (A : Option Addr) (ls : List PR) (c : Nat) (w : World) (hp : Prs w w.heap.size A c ls) (hs : Sml ls) :
    Calls Try.prog 47 #[.slice A ls.length c] w (NewF w ls) := by
  have HP := Lib.hid hp
  have HS := Lib.hid hs
  have hn := hs.1
  clear hp hs

  obtain ⟨i0, hi, hz0, hz1, hz2⟩ := info_parts info42
  go_enter Try.func47, Try.ntmps47
  go_wp2_with (at_make; refine wpList_make_full _ rfl _ _ 22 rfl w.heap.size 47 i0 (.agg #[nilS, nilS]) 2 Try.underlying22 hi hz0 hz1 _ _ _ _ ls.length rfl rfl rfl rfl (by rw [hz2]; omega) (by unfold maxLen; omega) (Nat.le_refl _) ?_; intro w1 ho1 hg1)
  have hst : Hid (Mk w ls ls.length 0 w1) := Mk.start ho1 hg1
  clear ho1 hg1
  go_wp2
  go_loopw [4, 5, 11] (fun _ _ i wr => ∃ k : Nat, k ≤ ls.length ∧ i = .int .i64 k ∧ Hid (Mk w ls ls.length k wr)) (fun _ _ i _ => ls.length - (intOf i).toNat)
  case atStart => exact ⟨0, Nat.zero_le _, rfl, hst⟩
  case round =>
    clear hst
    obtain ⟨k, hk, rfl, HMk⟩ := hrel
    by_cases hlt : k < ls.length
    · have hg : ls[k]? = some ls[k] := List.getElem?_eq_getElem hlt
      generalize ls[k] = p at hg
      have hP := HP.out.on HMk.out.bl
      obtain ⟨b, o, Au, cu, Av, cv, rfl, c1, c2, s1, s2, q1, q2, q3, q4⟩ := hP.at hg
      have hsm := HS.out.2 p (List.mem_of_getElem? hg)
      have HC := Lib.hid (range2 c1 c2)
      have hbx := below_alloc wr (.cells #[.slice Au p.1.length cu, .slice Av p.2.length cv] 47)
      have HY : Hid (Byt p.1 ∧ Byt p.2) := ⟨s1.byt, s2.byt⟩
      have HBX : Hid (∀ w', Below (wr.alloc (.cells #[.slice Au p.1.length cu, .slice Av p.2.length cv] 47)).heap.size (wr.alloc (.cells #[.slice Au p.1.length cu, .slice Av p.2.length cv] 47)) w' → w'.cell? ⟨wr.heap.size, 0, none⟩ = some (.slice Au p.1.length cu) ∧ w'.cell? ⟨wr.heap.size, 1, none⟩ = some (.slice Av p.2.length cv)) := fun w' hb =>
        ⟨by rw [hb.cell (by simp), cell_of_row _ _ _ _ _ _ (heap_alloc_new wr _)]; rfl, by rw [hb.cell (by simp), cell_of_row _ _ _ _ _ _ (heap_alloc_new wr _)]; rfl⟩
      have HKc : Hid (∀ w', Below (wr.alloc (.cells #[.slice Au p.1.length cu, .slice Av p.2.length cv] 47)).heap.size (wr.alloc (.cells #[.slice Au p.1.length cu, .slice Av p.2.length cv] 47)) w' → Calls Try.prog 44 #[.slice Au p.1.length cu] w' (NewBytesD w' p.1) ∧ Calls Try.prog 44 #[.slice Av p.2.length cv] w' (NewBytesD w' p.2)) := fun w' hb => by
        obtain ⟨_, _, e1, _, _, g1, _⟩ := (s1.on hbx).on hb
        obtain ⟨_, _, e2, _, _, g2, _⟩ := (s2.on hbx).on hb
        injection e1 with e1 _ e1'
        injection e2 with e2 _ e2'
        subst e1 e1' e2 e2'
        exact ⟨cloneD _ p.1 _ w' g1 (by omega), cloneD _ p.2 _ w' g2 (by omega)⟩
      have HMk0 := HMk
      have HMk : Hid (Mk w ls ls.length k (wr.alloc (.cells #[.slice Au p.1.length cu, .slice Av p.2.length cv] 47))) := HMk.out.on hbx
      have hgw : w.heap.size < wr.heap.size := HMk0.out.lt
      have HW : Hid (w.heap.size ≤ wr.heap.size) := Nat.le_of_lt hgw
      clear c1 c2 s1 s2 hbx hP HMk0
      go_wp2_with (first | (refine wpList_load_mid rfl 47 (.tmp 14) rfl b (o + k * 2) rfl [.slice Au p.1.length cu, .slice Av p.2.length cv] _ HC.out Try.underlying47 rfl info42s ?_; refine Hid.out ?_) | fail)
      refine Lib.hid ?_
      go_wp2_with fail
      have HWx : Hid (w.heap.size ≤ (wr.alloc (.cells #[.slice Au p.1.length cu, .slice Av p.2.length cv] 47)).heap.size) := by
        have := HW.out
        show _ ≤ _
        rw [World.size_alloc]
        omega
      generalize wr.alloc (.cells #[.slice Au p.1.length cu, .slice Av p.2.length cv] 47) = wx at *
      refine wp_region_held_drew (S := fun w' => w'.cell? ⟨wr.heap.size, 0, none⟩ = some (.slice Au p.1.length cu) ∧ w'.cell? ⟨wr.heap.size, 1, none⟩ = some (.slice Av p.2.length cv)) (by kernel_rfl) (HBX.out _ (Below.refl _ _).drew) (fun hHeld => ?_)
      refine wpAnyH_take (i := 0) (v := ?vc1) rfl (by kernel_rfl) (by kernel_rfl) (by kernel_rfl) (fun _ _ _ h => h) (Or.inl ⟨by kernel_rfl, ?yc1⟩) (by assumption) ?rc1
      case yc1 => (intro w hSw; (try dsimp only at hSw); obtain ⟨s1, s2⟩ := hSw; go_simp; (try with_reducible rfl))
      try simp only [Act.put, List.getElem_toArray, List.getElem_cons_zero, List.getElem_cons_succ, List.setIfInBounds_toArray, List.set_cons_zero, List.set_cons_succ]
      refine wpAnyH_take (i := 1) (v := ?vc2) rfl (by kernel_rfl) (by kernel_rfl) (by kernel_rfl) (fun _ _ _ h => h) (Or.inl ⟨by kernel_rfl, ?yc2⟩) (by assumption) ?rc2
      case yc2 => (intro w hSw; (try dsimp only at hSw); obtain ⟨s1, s2⟩ := hSw; go_simp; (try with_reducible rfl))
      try simp only [Act.put, List.getElem_toArray, List.getElem_cons_zero, List.getElem_cons_succ, List.setIfInBounds_toArray, List.set_cons_zero, List.set_cons_succ]
      refine wpAnyH_take (i := 2) (v := ?vc3) rfl (by kernel_rfl) (by kernel_rfl) (by kernel_rfl) (fun _ _ _ h => h) (Or.inl ⟨by kernel_rfl, ?yc3⟩) (by assumption) ?rc3
      case yc3 => (intro w hSw; (try dsimp only at hSw); obtain ⟨s1, s2⟩ := hSw; go_simp; (try with_reducible rfl))
      try simp only [Act.put, List.getElem_toArray, List.getElem_cons_zero, List.getElem_cons_succ, List.setIfInBounds_toArray, List.set_cons_zero, List.set_cons_succ]
      refine wpAnyH_take (i := 3) (v := ?vc4) rfl (by kernel_rfl) (by kernel_rfl) (by kernel_rfl) (fun _ _ _ h => h) (Or.inl ⟨by kernel_rfl, ?yc4⟩) (by assumption) ?rc4
      case yc4 => (intro w hSw; (try dsimp only at hSw); obtain ⟨s1, s2⟩ := hSw; go_simp; (try with_reducible rfl))
      try simp only [Act.put, List.getElem_toArray, List.getElem_cons_zero, List.getElem_cons_succ, List.setIfInBounds_toArray, List.set_cons_zero, List.set_cons_succ]
      refine wpAnyH_take (i := 5) (v := ?vc5) rfl (by kernel_rfl) (by kernel_rfl) (by kernel_rfl) (fun _ _ _ h => h) (Or.inl ⟨by kernel_rfl, ?yc5⟩) (by assumption) ?rc5
      case yc5 => (intro w hSw; (try dsimp only at hSw); obtain ⟨s1, s2⟩ := hSw; go_simp; (try with_reducible rfl))
      try simp only [Act.put, List.getElem_toArray, List.getElem_cons_zero, List.getElem_cons_succ, List.setIfInBounds_toArray, List.set_cons_zero, List.set_cons_succ]
      refine wpAnyH_take (i := 6) (v := ?vc6) rfl (by kernel_rfl) (by kernel_rfl) (by kernel_rfl) (fun _ _ _ h => h) (Or.inl ⟨by kernel_rfl, ?yc6⟩) (by assumption) ?rc6
      case yc6 => (intro w hSw; (try dsimp only at hSw); obtain ⟨s1, s2⟩ := hSw; go_simp; (try with_reducible rfl))
      try simp only [Act.put, List.getElem_toArray, List.getElem_cons_zero, List.getElem_cons_succ, List.setIfInBounds_toArray, List.set_cons_zero, List.set_cons_succ]
      refine wpAnyH_ready (rs := [4]) (by kernel_rfl) (by simp) ?_
      refine AllReadyH.cons rfl (fun K hK => ?_) AllReadyH.nil
      go_simp
      (with_reducible refine (HKc.out _ (Below.refl _ _).drew).1.mono ?_)
      rintro e w4 ⟨A4, c4, rfl, n1, n2, n3, hb4⟩
      replace hb4 : Below wx.heap.size wx w4 := (Below.refl _ _).drew.trans hb4
      have HA4 : Hid (SBD w4 (Fr w.heap.size w4.heap.size) (.slice A4 p.1.length c4) p.1 ∧ Below wx.heap.size wx w4) := ⟨SBD.lo ⟨A4, c4, rfl, n1, n2, n3, HY.out.1⟩ HWx.out, hb4⟩
      clear n1 n2 n3
      go_wp2_with fail
      refine hK.out _ _ (HBX.out _ hb4) (fun hHeld => ?_)
      clear hK K hb4
      refine wpAnyH_ready (rs := [7]) (by kernel_rfl) (by simp) ?_
      refine AllReadyH.cons rfl (fun K hK => ?_) AllReadyH.nil
      go_simp
      (with_reducible refine (HKc.out _ HA4.out.2).2.mono ?_)
      rintro e w5 ⟨A5, c5, rfl, n1, n2, n3, hb5⟩
      have HA5 : Hid (SBD w5 (Fr w.heap.size w5.heap.size) (.slice A4 p.1.length c4) p.1 ∧ SBD w5 (Fr w.heap.size w5.heap.size) (.slice A5 p.2.length c5) p.2 ∧ Below wx.heap.size wx w5) := ⟨HA4.out.1.fr hb5, SBD.lo ⟨A5, c5, rfl, n1, n2, n3, HY.out.2⟩ (Nat.le_trans HWx.out HA4.out.2.size), HA4.out.2.trans (hb5.mono HA4.out.2.size)⟩
      clear n1 n2 n3 hb5
      go_wp2_with fail
      refine hK.out _ _ (HBX.out _ HA5.out.2.2) (fun hHeld => ?_)
      clear hK K
      refine wpAnyH_take (i := 8) (v := ?vc7) rfl (by kernel_rfl) (by kernel_rfl) (by kernel_rfl) (fun _ _ _ h => h) (Or.inl ⟨by kernel_rfl, ?yc7⟩) (by assumption) ?rc7
      case yc7 => (intro w hSw; (try dsimp only at hSw); obtain ⟨s1, s2⟩ := hSw; go_simp; (try with_reducible rfl))
      try simp only [Act.put, List.getElem_toArray, List.getElem_cons_zero, List.getElem_cons_succ, List.setIfInBounds_toArray, List.set_cons_zero, List.set_cons_succ]
      refine wpAnyH_take (i := 9) (v := ?vc8) rfl (by kernel_rfl) (by kernel_rfl) (by kernel_rfl) (fun _ _ _ h => h) (Or.inl ⟨by kernel_rfl, ?yc8⟩) (by assumption) ?rc8
      case yc8 => (intro w hSw; (try dsimp only at hSw); obtain ⟨s1, s2⟩ := hSw; go_simp; (try with_reducible rfl))
      try simp only [Act.put, List.getElem_toArray, List.getElem_cons_zero, List.getElem_cons_succ, List.setIfInBounds_toArray, List.set_cons_zero, List.set_cons_succ]
      refine wpAnyH_ready (rs := [10]) (by kernel_rfl) (by simp) ?_
      refine AllReadyH.cons rfl (fun K hK => ?_) AllReadyH.nil
      rw [if_pos (by rfl)]
      have HM5 := HMk.out.on HA5.out.2.2
      refine wp_store_mid 47 (.tmp 25) (.tmp 24) rfl w.heap.size (k * 2) #[.slice A4 p.1.length c4, .slice A5 p.2.length c5] rfl rfl (HM5.there hlt) info42s (by simp [Value.oneCell']) ?_
      have HM6 := Lib.hid (HM5.step hlt hg HA5.out.1 HA5.out.2.1)
      clear HM5
      refine hK.out _ _ (apart2 (HBX.out _ HA5.out.2.2) (by have := HMk.out.lt; omega)) (fun hHeld => ?_)
      clear hK K hHeld
      refine wpAnyH_done (by kernel_rfl) ?_ _
      clear HBX HKc HC HY
      go_wp2
      go_roundw
      case rel => exact ⟨k + 1, by omega, by go_num, HM6⟩
      case measure => simp [intOf]; omega
    · obtain rfl : k = ls.length := by omega
      go_wp2
      go_ret
      exact ⟨_, _, rfl, Nat.le_refl _, by unfold maxLen; omega, HMk.out.fin rfl, own_rowF HMk.out.choose_spec.1, HMk.out.bl⟩
end Go.Proofs.Ytncbbjodianmoaa
