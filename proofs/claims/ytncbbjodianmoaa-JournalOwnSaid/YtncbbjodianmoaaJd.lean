/- What the journal's own 'copied' returns: the same pairs, in new memory. Conditions: what is read lies in memory; byte strings are not longer than memory. -/
import Derived.Test.YtncbbjodianmoaaJc
namespace Go.Proofs.Ytncbbjodianmoaa
open Go.RowKit
set_option linter.unusedSimpArgs false
set_option linter.unusedVariables false

/-- pairs of byte strings that the call owns -/
inductive PsO (w : World) (lo : Nat) : List PR → List Value → Prop
  | nil : PsO w lo [] []
  | cons {p : PR} {l : List PR} {u v : Value} {vs : List Value} (h1 : w.ownsRow lo 5 1 u p.1.length (cellsOf p.1)) (b1 : Byt p.1) (h2 : w.ownsRow lo 5 1 v p.2.length (cellsOf p.2)) (b2 : Byt p.2) (h3 : PsO w lo l vs) : PsO w lo (p :: l) (u :: v :: vs)
theorem PsO.mono {w w' : World} {lo : Nat} (hm : ∀ u l, w.ownsRow lo 5 1 u l.length (cellsOf l) → w'.ownsRow lo 5 1 u l.length (cellsOf l)) {l : List PR} {vs : List Value} (h : PsO w lo l vs) : PsO w' lo l vs := by
  induction h with
  | nil => exact .nil
  | cons h1 b1 h2 b2 _ ih => exact .cons (hm _ _ h1) b1 (hm _ _ h2) b2 ih
theorem PsO.append {w : World} {lo : Nat} {l m : List PR} {vs us : List Value} (h : PsO w lo l vs) (h' : PsO w lo m us) : PsO w lo (l ++ m) (vs ++ us) := by
  induction h with
  | nil => exact h'
  | cons h1 b1 h2 b2 _ ih => exact .cons h1 b1 h2 b2 ih
theorem PsO.len {w : World} {lo : Nat} {l : List PR} {vs : List Value} (h : PsO w lo l vs) : vs.length = l.length * 2 := by
  induction h with
  | nil => rfl
  | cons _ _ _ _ _ ih => simp only [List.length_cons, ih]; omega
theorem own_SBD {w : World} {base : Nat} {V : Value} {v : List Int} (h : w.ownsRow base 5 1 V v.length (cellsOf v)) (hb : Byt v) : SBD w (Fr base w.heap.size) V v := by
  obtain ⟨A, c, e, h1, h2, h3⟩ := own_liesD h
  exact ⟨A, c, e, h1, h2, h3, hb⟩
theorem PsO.pscd {w : World} {lo : Nat} {l : List PR} {vs : List Value} (h : PsO w lo l vs) : PsCD w (Fr lo w.heap.size) l vs := by
  induction h with
  | nil => exact .nil
  | cons h1 b1 h2 b2 _ ih => exact .cons (own_SBD h1 b1) (own_SBD h2 b2) ih
theorem own_liesD2 {w : World} {base : Nat} {e : TypeId} {s : Nat} {A : Option Addr} {n c : Nat} {xs : List Value} (h : w.ownsRow base e s (.slice A n c) n xs) : LiesD w (Fr base w.heap.size) A c xs := by
  rcases h.2 with ⟨h1, h2⟩ | ⟨g, cap, cur, h1, hb, hg, hn, hm, hs, ht⟩
  · injection h1 with h1 _ h1'
    subst h1 h1' h2
    have : xs = [] := List.eq_nil_of_length_eq_zero (by simpa using h.1)
    subst this
    exact ⟨fun _ => rfl, fun j u h => by simp at h⟩
  · injection h1 with h1 _ h1'
    subst h1 h1'
    exact ⟨(fun e => by cases e), fun j u hu => ⟨_, rfl, h.lt g rfl, h.cells rfl j u hu⟩⟩
/-- what a call returns that makes a row of pairs anew, all of it the call's own -/
def NewO (w : World) (ls : List PR) (e : Ending) (w' : World) : Prop :=
  ∃ A' c' vs, e = .returned (.slice A' ls.length c') ∧ ls.length ≤ c' ∧ c' ≤ maxLen ∧ w'.ownsRow w.heap.size 47 2 (.slice A' ls.length c') ls.length vs ∧ PsO w' w.heap.size ls vs ∧ Below w.heap.size w w'
theorem NewO.f {w : World} {ls : List PR} {e : Ending} {w' : World} (h : NewO w ls e w') : NewF w ls e w' := by
  obtain ⟨A', c', vs, h1, h2, h3, h4, h5, h6⟩ := h
  exact ⟨A', c', h1, h2, h3, ⟨vs, own_liesD2 h4, h5.pscd⟩, own_rowF h4, h6⟩

/-- a row of the first k pairs, each in new memory -/
def MkA (w : World) (ls : List PR) (k : Nat) (m : Value) (wr : World) : Prop :=
  ∃ vs, wr.ownsRow w.heap.size 47 2 m k vs ∧ PsO wr w.heap.size (ls.take k) vs ∧ Below w.heap.size w wr
theorem MkA.bl {w wr : World} {ls : List PR} {k : Nat} {m : Value} (h : MkA w ls k m wr) : Below w.heap.size w wr := h.choose_spec.2.2
theorem MkA.own {w wr : World} {ls : List PR} {k : Nat} {m : Value} (h : MkA w ls k m wr) : wr.ownsRow w.heap.size 47 2 m k h.choose := h.choose_spec.1
theorem MkA.on {w wr w2 : World} {ls : List PR} {k : Nat} {m : Value} (h : MkA w ls k m wr) (hb : Below wr.heap.size wr w2) : MkA w ls k m w2 := by
  obtain ⟨vs, ho, h1, h2⟩ := h
  exact ⟨vs, own_belowS ho hb, h1.mono fun u l h => own_belowS h hb, h2.trans (hb.mono h2.size)⟩
theorem cells_new2 (w : World) (x y : Value) : ∀ j u, [x, y][j]? = some u → (w.alloc (.cells #[x, y] 47)).cell? ((⟨w.heap.size, 0, none⟩ : Addr).add j) = some u := fun j u hu => by
  rw [Addr.add_mid, Nat.zero_add, cell_of_row _ _ _ _ _ _ (heap_alloc_new w _)]
  simpa using hu
/-- a byte string of the call's own is in another block than a row of pairs -/
theorem own_apart {w w' : World} {base base' : Nat} {u m : Value} {n k : Nat} {xs vs : List Value} (h : w.ownsRow base 5 1 u n xs) (ho : w.ownsRow base' 47 2 m k vs) (hg : w.grownBy w' m.ownBlock) : w'.ownsRow base 5 1 u n xs := by
  refine ⟨h.1, ?_⟩
  rcases h.2 with h' | ⟨g, cap, cur, h1, h2, h3, h4⟩
  · exact .inl h'
  · refine .inr ⟨g, cap, cur, h1, h2, ?_, h4⟩
    rw [hg.block g (Array.getElem?_eq_some_iff.1 h3).1 fun e => ?_]
    · exact h3
    · rcases ho.2 with ⟨rfl, _⟩ | ⟨g', cap', cur', rfl, k2, k3, _⟩
      · cases e
      · injection e with e
        exact tag_ne h3 k3 (by decide) e
theorem MkA.step {w w6 w7 : World} {ls : List PR} {k : Nat} {m v7 : Value} {vs : List Value} {p : PR} {u v : Value} (hg : ls[k]? = some p) (ho : w6.ownsRow w.heap.size 47 2 m k vs) (hp : PsO w6 w.heap.size (ls.take k) vs) (hb : Below w.heap.size w w6)
    (h1 : w6.ownsRow w.heap.size 5 1 u p.1.length (cellsOf p.1)) (h2 : w6.ownsRow w.heap.size 5 1 v p.2.length (cellsOf p.2)) (b1 : Byt p.1) (b2 : Byt p.2) (ho7 : w7.ownsRow w.heap.size 47 2 v7 (k + 1) (vs ++ [u, v])) (hg7 : w6.grownBy w7 m.ownBlock) : MkA w ls (k + 1) v7 w7 := by
  refine ⟨_, ho7, ?_, hb.grown hg7 hb.size fun k hk => (ho.lt k hk).1⟩
  rw [take_next hg]
  exact (hp.mono fun u l h => own_apart h ho hg7).append (.cons (own_apart h1 ho hg7) b1 (own_apart h2 ho hg7) b2 .nil)

set_option maxHeartbeats 1600000 in
theorem jcopiedC (A : Option Addr) (ls : List PR) (c : Nat) (w : World) (hp : Prs w w.heap.size A c ls) (hs : Sml ls) :
    Calls Try.prog 28 #[.slice A ls.length c] w (NewO w ls) := by
  have HP := Lib.hid hp
  have HS := Lib.hid hs
  have hn := hs.1
  clear hp hs
  obtain ⟨i0, hi, hz0, hz1, hz2⟩ := info_parts info42
  go_enter Try.func28, Try.ntmps28
  go_wp2_with (at_make; refine wpList_make_own _ rfl _ _ 22 rfl w.heap.size 47 i0 (.agg #[nilS, nilS]) 2 Try.underlying22 hi hz0 hz1 _ _ _ ls.length rfl rfl rfl (by rw [hz2]; omega) (by unfold maxLen; omega) (Nat.le_refl _) ?_; intro w1 ho1 hg1)
  have hst : Hid (MkA w ls 0 (.slice (some ⟨w.heap.size, 0, none⟩) 0 ls.length) w1) := ⟨[], ho1, by simp; exact .nil, (Below.refl _ _).grown hg1 (Nat.le_refl _) (fun k hk => by cases hk)⟩
  clear ho1 hg1
  go_wp2
  go_loopw [3, 5, 11] (fun m _ i wr => ∃ k : Nat, k ≤ ls.length ∧ i = .int .i64 k ∧ Hid (MkA w ls k m wr)) (fun _ _ i _ => ls.length - (intOf i).toNat)
  case atStart => exact ⟨0, Nat.zero_le _, rfl, hst⟩
  case round =>
    clear hst
    obtain ⟨k, hk, rfl, HMk⟩ := hrel
    by_cases hlt : k < ls.length
    · have hg : ls[k]? = some ls[k] := List.getElem?_eq_getElem hlt
      generalize ls[k] = p at hg
      have hP := HP.out.on HMk.out.bl
      obtain ⟨b, o, Au, cu, Av, cv, rfl, c1, c2, s1, s2, q1, q2, q3, q4⟩ := hP.at hg
      have hsm := HS.out.2 p (List.mem_of_getElem? hg)
      have HC := Lib.hid (range2 c1 c2)
      have hbx := below_alloc wr (.cells #[.slice Au p.1.length cu, .slice Av p.2.length cv] 47)
      have HY : Hid (Byt p.1 ∧ Byt p.2) := ⟨s1.byt, s2.byt⟩
      have HBX : Hid (∀ w', Below (wr.alloc (.cells #[.slice Au p.1.length cu, .slice Av p.2.length cv] 47)).heap.size (wr.alloc (.cells #[.slice Au p.1.length cu, .slice Av p.2.length cv] 47)) w' → w'.cell? ⟨wr.heap.size, 0, none⟩ = some (.slice Au p.1.length cu) ∧ w'.cell? ⟨wr.heap.size, 1, none⟩ = some (.slice Av p.2.length cv)) := fun w' hb =>
        ⟨by rw [hb.cell (by simp), cell_of_row _ _ _ _ _ _ (heap_alloc_new wr _)]; rfl, by rw [hb.cell (by simp), cell_of_row _ _ _ _ _ _ (heap_alloc_new wr _)]; rfl⟩
      have HKc : Hid (∀ w', Below (wr.alloc (.cells #[.slice Au p.1.length cu, .slice Av p.2.length cv] 47)).heap.size (wr.alloc (.cells #[.slice Au p.1.length cu, .slice Av p.2.length cv] 47)) w' → Calls Try.prog 44 #[.slice Au p.1.length cu] w' (OwnBytes w' p.1) ∧ Calls Try.prog 44 #[.slice Av p.2.length cv] w' (OwnBytes w' p.2)) := fun w' hb => by
        obtain ⟨_, _, e1, _, _, g1, _⟩ := (s1.on hbx).on hb
        obtain ⟨_, _, e2, _, _, g2, _⟩ := (s2.on hbx).on hb
        injection e1 with e1 _ e1'
        injection e2 with e2 _ e2'
        subst e1 e1' e2 e2'
        exact ⟨cloneO _ p.1 _ w' g1 (by omega), cloneO _ p.2 _ w' g2 (by omega)⟩
      have HMk0 := HMk
      have HMk : Hid (MkA w ls k u3 (wr.alloc (.cells #[.slice Au p.1.length cu, .slice Av p.2.length cv] 47))) := HMk.out.on hbx
      have HG := Lib.hid hg
      have HW : Hid (w.heap.size ≤ wr.heap.size) := HMk0.out.bl.size
      clear c1 c2 s1 s2 hbx hP
      go_wp2_with (first | (refine wpList_load_mid rfl 47 (.tmp 13) rfl b (o + k * 2) rfl [.slice Au p.1.length cu, .slice Av p.2.length cv] _ HC.out Try.underlying47 rfl info42s ?_; refine Hid.out ?_) | fail)
      refine Lib.hid ?_
      go_wp2_with fail
      have HWx : Hid (w.heap.size ≤ (wr.alloc (.cells #[.slice Au p.1.length cu, .slice Av p.2.length cv] 47)).heap.size) := by
        have := HW.out
        show _ ≤ _
        rw [World.size_alloc]
        omega
      generalize wr.alloc (.cells #[.slice Au p.1.length cu, .slice Av p.2.length cv] 47) = wx at *
      refine wp_region_held_drew (S := fun w' => w'.cell? ⟨wr.heap.size, 0, none⟩ = some (.slice Au p.1.length cu) ∧ w'.cell? ⟨wr.heap.size, 1, none⟩ = some (.slice Av p.2.length cv)) (by kernel_rfl) (HBX.out _ (Below.refl _ _).drew) (fun hHeld => ?_)
      refine wpAnyH_take (i := 0) (v := ?vc1) rfl (by kernel_rfl) (by kernel_rfl) (by kernel_rfl) (fun _ _ _ h => h) (Or.inl ⟨by kernel_rfl, ?yc1⟩) (by assumption) ?rc1
      case yc1 => (intro w hSw; (try dsimp only at hSw); obtain ⟨s1, s2⟩ := hSw; go_simp; (try with_reducible rfl))
      try simp only [Act.put, List.getElem_toArray, List.getElem_cons_zero, List.getElem_cons_succ, List.setIfInBounds_toArray, List.set_cons_zero, List.set_cons_succ]
      refine wpAnyH_take (i := 1) (v := ?vc2) rfl (by kernel_rfl) (by kernel_rfl) (by kernel_rfl) (fun _ _ _ h => h) (Or.inl ⟨by kernel_rfl, ?yc2⟩) (by assumption) ?rc2
      case yc2 => (intro w hSw; (try dsimp only at hSw); obtain ⟨s1, s2⟩ := hSw; go_simp; (try with_reducible rfl))
      try simp only [Act.put, List.getElem_toArray, List.getElem_cons_zero, List.getElem_cons_succ, List.setIfInBounds_toArray, List.set_cons_zero, List.set_cons_succ]
      refine wpAnyH_take (i := 2) (v := ?vc3) rfl (by kernel_rfl) (by kernel_rfl) (by kernel_rfl) (fun _ _ _ h => h) (Or.inl ⟨by kernel_rfl, ?yc3⟩) (by assumption) ?rc3
      case yc3 => (intro w hSw; (try dsimp only at hSw); obtain ⟨s1, s2⟩ := hSw; go_simp; (try with_reducible rfl))
      try simp only [Act.put, List.getElem_toArray, List.getElem_cons_zero, List.getElem_cons_succ, List.setIfInBounds_toArray, List.set_cons_zero, List.set_cons_succ]
      refine wpAnyH_take (i := 4) (v := ?vc4) rfl (by kernel_rfl) (by kernel_rfl) (by kernel_rfl) (fun _ _ _ h => h) (Or.inl ⟨by kernel_rfl, ?yc4⟩) (by assumption) ?rc4
      case yc4 => (intro w hSw; (try dsimp only at hSw); obtain ⟨s1, s2⟩ := hSw; go_simp; (try with_reducible rfl))
      try simp only [Act.put, List.getElem_toArray, List.getElem_cons_zero, List.getElem_cons_succ, List.setIfInBounds_toArray, List.set_cons_zero, List.set_cons_succ]
      refine wpAnyH_take (i := 5) (v := ?vc5) rfl (by kernel_rfl) (by kernel_rfl) (by kernel_rfl) (fun _ _ _ h => h) (Or.inl ⟨by kernel_rfl, ?yc5⟩) (by assumption) ?rc5
      case yc5 => (intro w hSw; (try dsimp only at hSw); obtain ⟨s1, s2⟩ := hSw; go_simp; (try with_reducible rfl))
      try simp only [Act.put, List.getElem_toArray, List.getElem_cons_zero, List.getElem_cons_succ, List.setIfInBounds_toArray, List.set_cons_zero, List.set_cons_succ]
      refine wpAnyH_ready (rs := [3]) (by kernel_rfl) (by simp) ?_
      refine AllReadyH.cons rfl (fun K hK => ?_) AllReadyH.nil
      go_simp
      (with_reducible refine (HKc.out _ (Below.refl _ _).drew).1.mono ?_)
      rintro e w4 ⟨V4, rfl, n1, hb4⟩
      obtain ⟨A4, c4, rfl, n2, n3, n4⟩ := own_lies n1
      replace hb4 : Below wx.heap.size wx w4 := (Below.refl _ _).drew.trans hb4
      have HA4 : Hid (w4.ownsRow w.heap.size 5 1 (.slice A4 p.1.length c4) p.1.length (cellsOf p.1) ∧ Below wx.heap.size wx w4) := ⟨own_mono n1 HWx.out, hb4⟩
      clear n1 n2 n3 n4
      go_wp2_with fail
      refine hK.out _ _ (HBX.out _ hb4) (fun hHeld => ?_)
      clear hK K hb4
      refine wpAnyH_ready (rs := [6]) (by kernel_rfl) (by simp) ?_
      refine AllReadyH.cons rfl (fun K hK => ?_) AllReadyH.nil
      go_simp
      (with_reducible refine (HKc.out _ HA4.out.2).2.mono ?_)
      rintro e w5 ⟨V5, rfl, n1, hb5⟩
      obtain ⟨A5, c5, rfl, n2, n3, n4⟩ := own_lies n1
      have HA5 : Hid (w5.ownsRow w.heap.size 5 1 (.slice A4 p.1.length c4) p.1.length (cellsOf p.1) ∧ w5.ownsRow w.heap.size 5 1 (.slice A5 p.2.length c5) p.2.length (cellsOf p.2) ∧ Below wx.heap.size wx w5) := ⟨own_belowS HA4.out.1 hb5, own_mono n1 (Nat.le_trans HWx.out HA4.out.2.size), HA4.out.2.trans (hb5.mono HA4.out.2.size)⟩
      clear n1 n2 n3 n4 hb5
      go_wp2_with fail
      refine hK.out _ _ (HBX.out _ HA5.out.2.2) (fun hHeld => ?_)
      clear hK K
      refine wpAnyH_take (i := 7) (v := ?vc6) rfl (by kernel_rfl) (by kernel_rfl) (by kernel_rfl) (fun _ _ _ h => h) (Or.inl ⟨by kernel_rfl, ?yc6⟩) (by assumption) ?rc6
      case yc6 => (intro w hSw; (try dsimp only at hSw); obtain ⟨s1, s2⟩ := hSw; go_simp; (try with_reducible rfl))
      try simp only [Act.put, List.getElem_toArray, List.getElem_cons_zero, List.getElem_cons_succ, List.setIfInBounds_toArray, List.set_cons_zero, List.set_cons_succ]
      refine wpAnyH_ready (rs := [8]) (by kernel_rfl) (by simp) ?_
      refine AllReadyH.cons rfl (fun K hK => ?_) AllReadyH.nil
      go_simp
      have HN := Lib.hid (cells_new2 w5 (.slice A4 p.1.length c4) (.slice A5 p.2.length c5))
      have HA6 : Hid ((w5.alloc (.cells #[.slice A4 p.1.length c4, .slice A5 p.2.length c5] 47)).ownsRow w.heap.size 5 1 (.slice A4 p.1.length c4) p.1.length (cellsOf p.1) ∧ (w5.alloc (.cells #[.slice A4 p.1.length c4, .slice A5 p.2.length c5] 47)).ownsRow w.heap.size 5 1 (.slice A5 p.2.length c5) p.2.length (cellsOf p.2) ∧ Below wx.heap.size wx (w5.alloc (.cells #[.slice A4 p.1.length c4, .slice A5 p.2.length c5] 47))) := ⟨own_belowS HA5.out.1 (below_alloc w5 _), own_belowS HA5.out.2.1 (below_alloc w5 _), HA5.out.2.2.trans ((below_alloc w5 _).mono HA5.out.2.2.size)⟩
      refine hK.out _ _ (HBX.out _ HA6.out.2.2) (fun hHeld => ?_)
      clear hK K
      generalize w5.alloc (.cells #[.slice A4 p.1.length c4, .slice A5 p.2.length c5] 47) = w6 at *
      refine wpAnyH_ready (rs := [9]) (by kernel_rfl) (by simp) ?_
      refine AllReadyH.cons rfl (fun K hK => ?_) AllReadyH.nil
      rw [if_pos (by rfl)]
      have HM6 := HMk.out.on HA6.out.2.2
      obtain ⟨vs, ho6, hp6, hb6⟩ := HM6
      refine wp_append_own w6 (.tmp 15) (.tmp 23) 22 rfl w.heap.size 47 i0 _ 2 48 Try.underlying22 hi hz0 hz1 hz2 rfl (by omega) _ k vs rfl ho6 ⟨w5.heap.size, 0, none⟩ 1 1 [.slice A4 p.1.length c4, .slice A5 p.2.length c5] rfl rfl HN.out (by simp [Value.oneCell']) (by unfold maxLen; omega) (by omega) hb6.size ?_
      intro v7 w7 ho7 hg7 _
      have HM7 : Hid (MkA w ls (k + 1) v7 w7 ∧ Below w.heap.size w w7) := ⟨MkA.step hg ho6 hp6 hb6 HA6.out.1 HA6.out.2.1 HY.out.1 HY.out.2 ho7 hg7, hb6.grown hg7 hb6.size fun k hk => (ho6.lt k hk).1⟩
      have hS7 : w7.cell? ⟨wr.heap.size, 0, none⟩ = some (.slice Au p.1.length cu) ∧ w7.cell? ⟨wr.heap.size, 1, none⟩ = some (.slice Av p.2.length cv) := by
        have hne : some wr.heap.size ≠ u3.ownBlock := fun e => by have := (HMk0.out.own.lt _ e.symm).2; omega
        exact ⟨hg7.cell (HBX.out _ HA6.out.2.2).1 hne, hg7.cell (HBX.out _ HA6.out.2.2).2 hne⟩
      refine hK.out _ _ hS7 (fun hHeld => ?_)
      clear hK K ho6 hp6 hb6 ho7 hg7 hS7
      refine wpAnyH_take (i := 10) (v := ?vc7) rfl (by kernel_rfl) (by kernel_rfl) (by kernel_rfl) (fun _ _ _ h => h) (Or.inl ⟨by kernel_rfl, ?yc7⟩) (by assumption) ?rc7
      case yc7 => (intro w hSw; (try dsimp only at hSw); obtain ⟨s1, s2⟩ := hSw; go_simp; (try with_reducible rfl))
      try simp only [Act.put, List.getElem_toArray, List.getElem_cons_zero, List.getElem_cons_succ, List.setIfInBounds_toArray, List.set_cons_zero, List.set_cons_succ]
      refine wpAnyH_done (by kernel_rfl) ?_ _
      clear HBX HKc HC HY
      go_wp2
      go_roundw
      case rel => exact ⟨k + 1, by omega, by go_num, HM7.out.1⟩
      case measure => simp [intOf]; omega
    · obtain rfl : k = ls.length := by omega
      obtain ⟨vs, ho, hp, hb⟩ := HMk.out
      obtain ⟨A', c', rfl, e2, e3, e4⟩ := own_liesS ho
      rw [List.take_length] at hp
      have HF : Hid (ls.length ≤ c' ∧ c' ≤ maxLen ∧ wr.ownsRow w.heap.size 47 2 (.slice A' ls.length c') ls.length vs ∧ PsO wr w.heap.size ls vs ∧ Below w.heap.size w wr) := ⟨e2, e3, ho, hp, hb⟩
      clear ho hp hb e2 e3 e4 HMk
      go_wp2
      go_ret
      exact ⟨A', c', vs, rfl, HF.out⟩
end Go.Proofs.Ytncbbjodianmoaa
