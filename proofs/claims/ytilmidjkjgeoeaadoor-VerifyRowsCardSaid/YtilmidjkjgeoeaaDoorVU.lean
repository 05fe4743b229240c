/- A place looked at later; the next one taken; the first state. Conditions: those in each theorem. -/
import Derived.Test.YtilmidjkjgeoeaaDoorVT
namespace Go.Proofs.YtilmidjkjgeoeaaDoor
open Go.RowKit Go.MapKept
set_option maxRecDepth 100000
set_option linter.unusedVariables false
set_option linter.unusedSimpArgs false
def ts3 : TypeId → Prop := fun T => T = 71 ∨ T = 61 ∨ T = 2
def remC (l : List Nat) : List Value := l.map fun k => Value.int .i64 (k : Nat)
/-- the walk with another row of places to be looked at -/
theorem WkAt.remmed {B W : Nat} {x : Wx} {L V R R' : Value} {w w1 : World} {l' : List Nat} (h : WkAt B W x L V R w) (ho : w1.ownsRow B 2 1 R' l'.length (remC l')) (hg : w.grownBy w1 R.ownBlock) :
    WkAt B W { x with rem := l' } L V R' (w1.setCell ⟨W, 10, none⟩ R') ∧ Mt B ts3 w (w1.setCell ⟨W, 10, none⟩ R') := by
  have far : ∀ (b : Nat) (cs : Array Value) (T : TypeId), w.heap[b]? = some (.cells cs T (0, 0)) → T ≠ 2 → w1.heap[b]? = some (.cells cs T (0, 0)) := fun b cs T hc hT => by
    rw [hg.block b (lt_someV hc) fun e => ?_]
    · exact hc
    · obtain ⟨_, cs', h'⟩ := own_tag h.rem e.symm
      exact hT (one_tag hc h')
  have cW := far _ _ 61 h.cell (by decide)
  have far2 : ∀ (b : Nat) (cs : Array Value) (T : TypeId), w1.heap[b]? = some (.cells cs T (0, 0)) → T ≠ 61 → (w1.setCell ⟨W, 10, none⟩ R').heap[b]? = some (.cells cs T (0, 0)) := fun b cs T hc hT => by
    rw [(One.set w1 W 10 R').far b fun e => by subst e; exact hT (one_tag hc cW)]
    exact hc
  have hm : (w1.setCell ⟨W, 10, none⟩ R').heap[x.m]? = w.heap[x.m]? := by
    have h1 : w1.heap[x.m]? = w.heap[x.m]? := hg.block _ h.map.lt fun e => by
      obtain ⟨_, cs', h'⟩ := own_tag h.rem e.symm
      exact map_no h.map h'
    rw [(One.set w1 W 10 R').far _ fun e => ?_, h1]
    rw [e, cW] at h1
    have := h.map
    rw [e] at this
    exact map_no this h1.symm
  refine ⟨⟨?_, own_same h.list fun q cs _ hq => far2 q cs 81 (far q cs 81 hq (by decide)) (by decide), h.map.of hm, own_same h.pl fun q cs _ hq => far2 q cs 71 (far q cs 71 hq (by decide)) (by decide), own_same ho fun q cs _ hq => far2 q cs 2 hq (by decide), h.hW, h.hm, h.h0⟩, ?_⟩
  · rw [heap_setCell_same _ _ _ _ 61 _ cW]
    rfl
  · have M1 : Mt B ts3 w w1 := Mt.grown hg h.lt.2 fun q hq => ⟨(own_tag h.rem hq).1, fun cs T z hc => by
      obtain ⟨_, cs', h'⟩ := own_tag h.rem hq
      exact .inr (.inr (one_tag hc h'))⟩
    refine M1.trans (Mt.grown (One.set w1 W 10 R').grown (Nat.le_trans h.lt.2 hg.size) fun q hq => ?_)
    injection hq with hq
    subst hq
    exact ⟨h.hW, fun cs T z hc => .inr (.inl (one_tag hc cW))⟩
def LaterQ (B W : Nat) (x : Wx) (L V : Value) (m : List Pl × Bool × Bool) (a : Int) (w : World) (r : Ending) (w' : World) : Prop :=
  r = .returned (.bool m.2.2) ∧ ∃ R', WkAt B W { x with pl := m.1, rem := if m.2.1 then x.rem ++ [a.toNat] else x.rem } L V R' w' ∧ Mt B ts3 w w'
theorem info59 : (Tryd.prog.info? 2).map (fun i => (i.zero, i.size, i.bytes)) = some (some (.int .i64 0), 1, 8) := by kernel_rfl
theorem reach_in {l : List Pl} {a : Int} {n : Nat} {ys : List Nat} (h : (reachM l a n ys).2.1 = true) : 0 ≤ a ∧ a < l.length := by
  unfold reachM at h
  split at h
  · assumption
  · cases h
set_option maxHeartbeats 1600000 in
theorem laterC {B W : Nat} {x : Wx} {L V R : Value} (a : Int) (n : Nat) (ys : List Nat) (w : World) (h : WkAt B W x L V R w) (hy : Ws8 ys) (hp8 : ∀ p ∈ x.pl, Ws8 p.2.2) (hl : x.rem.length ≤ 1000000000) :
    Calls Tryd.prog 23 #[.pointer (some ⟨W, 0, none⟩), .int .i64 a, .agg (stC n ys).toArray] w (LaterQ B W x L V (reachM x.pl a n ys) a w) := by
  have hb := below_alloc w (.cells (stC n ys).toArray 67)
  have hA := heap_alloc_new w (.cells (stC n ys).toArray 67)
  obtain ⟨w1, hw1⟩ : ∃ w1, w.alloc (.cells (stC n ys).toArray 67) = w1 := ⟨_, rfl⟩
  have h1 := h.below hb
  rw [hw1] at hb hA h1
  have HW := Lib.hid hw1
  have HM : Hid (Mt B ts3 w w1) := .of hb h.lt.2
  have HK := Lib.hid (reachC a n ys w1 h1 hy hp8)
  have HA := Lib.hid (rangeV_of hA)
  have hs9 : (stC n ys).length = 9 := by rw [stC_len, hy.1]
  have HRI := Lib.hid (@reach_in x.pl a n ys)
  have HBl : Hid (B ≤ w1.heap.size) := h1.lt.2
  clear h hb h1 hw1 hA hp8
  generalize reachM x.pl a n ys = m at *
  obtain ⟨l', ch, is⟩ := m
  dsimp only at HRI
  go_enter Tryd.func23, Tryd.ntmps23
  go_upto_region 1 with fail
  rw [HW.out]
  go_wp2_with (first | (refine wpList_load_mid rfl 67 (.tmp 5) rfl w.heap.size 0 rfl (stC n ys) _ HA.out Tryd.underlying67 rfl (by rw [hs9]; exact info67s) ?_) | fail)
  refine HK.out.mono ?_
  rintro r w2 ⟨rfl, g1, g2⟩
  dsimp only at g1 ⊢
  have HG := Lib.hid (And.intro g1 (HM.out.trans (g2.more fun T hT => .inl hT)))
  clear g1 g2 HK HA HM
  cases ch with
  | false =>
    go_wp2
    go_ret
    exact ⟨rfl, R, HG.out.1, HG.out.2⟩
  | true =>
    obtain ⟨ha1, ha2⟩ := HRI.out rfl
    obtain ⟨j, rfl⟩ : ∃ j : Nat, a = j := ⟨a.toNat, by omega⟩
    obtain ⟨_, _, _, _, _, _, _, _, _, c10, _, _, f10⟩ := wk_cells HG.out.1.cell
    obtain ⟨i0, hi, hz0, hz1, hz2⟩ := infoV info59
    obtain ⟨AR, cR, eR, hr1, hr2⟩ := own_slice HG.out.1.rem
    dsimp only at eR hr1
    subst eR
    have lW := HG.out.1.lt.1
    go_upto_region 3 with fail
    have HO : Hid ((w2.alloc (.cells #[.int .i64 (j : Nat)] 2)).ownsRow B 2 1 (.slice AR x.rem.length cR) x.rem.length (remC x.rem)) := own_same HG.out.1.rem fun q cs _ hq => by
      rw [(below_alloc w2 _).block q (lt_someV hq)]
      exact hq
    have HN : Hid (∀ (i : Nat) (u : Value), [Value.int .i64 (j : Nat)][i]? = some u → (w2.alloc (.cells #[.int .i64 (j : Nat)] 2)).cell? ((Addr.mk w2.heap.size 0 none).add i) = some u) := fun i u hu => by
      rw [Addr.add_mid]
      exact rangeV_of (cs := [Value.int .i64 (j : Nat)]) (heap_alloc_new w2 (.cells #[.int .i64 (j : Nat)] 2)) i u hu
    have HB2 : Hid (B ≤ (w2.alloc (.cells #[.int .i64 (j : Nat)] 2)).heap.size) := by
      show _ ≤ _
      have := HG.out.1.lt.2
      simp
      omega
    have HW3 : Hid (∀ (w3 : World) (o : Option Nat), (w2.alloc (.cells #[.int .i64 (j : Nat)] 2)).grownBy w3 (Value.slice AR x.rem.length cR).ownBlock → w2.grownBy w3 (Value.slice AR x.rem.length cR).ownBlock ∧ w3.cell? ⟨W, 10, none⟩ = some (.slice AR x.rem.length cR) ∧ w3.frozen? ⟨W, 10, none⟩ = false) := fun w3 o hg => by
      have hg2 : w2.grownBy w3 (Value.slice AR x.rem.length cR).ownBlock := (World.grownBy_alloc w2 _ _).trans hg
      have hc : w3.heap[W]? = some (wkO { x with pl := l' } L V (.slice AR x.rem.length cR)) := by
        rw [hg2.block W lW fun e => ?_]
        · exact HG.out.1.cell
        · obtain ⟨_, cs', h'⟩ := own_tag HG.out.1.rem e.symm
          exact absurd (one_tag HG.out.1.cell h') (by decide)
      obtain ⟨_, _, _, _, _, _, _, _, _, d10, _, _, e10⟩ := wk_cells hc
      exact ⟨hg2, d10, e10⟩
    go_wp2_with (at_builtin; refine wpListR_append rfl (.tmp 21) (.tmp 23) 59 rfl B 2 i0 _ 1 8 Tryd.underlying59 hi hz0 hz1 hz2 rfl (by omega) _ x.rem.length (remC x.rem) rfl HO.out ⟨w2.heap.size, 0, none⟩ 1 1 [Value.int .i64 (j : Nat)] rfl rfl HN.out (by intro u hu; simp at hu; subst hu; rfl) (by unfold maxLen; omega) (by omega) HB2.out ?_; intro R' w3 ho3 hg3 _; obtain ⟨A3, d3, e3, _, _⟩ := own_slice ho3; subst e3; obtain ⟨k1, k2, k3⟩ := HW3.out w3 none hg3; have HF := Lib.hid (And.intro ho3 k1); clear ho3 hg3 k1)
    go_wp2
    go_ret
    have hs : remC (x.rem ++ [j]) = remC x.rem ++ [Value.int .i64 (j : Nat)] := by simp [remC]
    obtain ⟨f1, f2⟩ := HG.out.1.remmed (l' := x.rem ++ [j]) (by rw [hs, List.length_append]; exact HF.out.1) HF.out.2
    exact ⟨rfl, _, f1, HG.out.2.trans f2⟩
def TakeQ (B W : Nat) (x : Wx) (L V : Value) (k : Nat) (w : World) (r : Ending) (w' : World) : Prop :=
  r = .returned (.int .i64 k) ∧ ∃ R', WkAt B W { x with rem := x.rem.dropLast } L V R' w' ∧ Mt B ts3 w w'
set_option maxHeartbeats 1600000 in
theorem takeC {B W : Nat} {x : Wx} {L V R : Value} (k : Nat) (w : World) (h : WkAt B W x L V R w) (hk : x.rem.getLast? = some k) :
    Calls Tryd.prog 25 #[.pointer (some ⟨W, 0, none⟩)] w (TakeQ B W x L V k w) := by
  have hne : x.rem ≠ [] := fun e => by rw [e] at hk; cases hk
  have hpos : 0 < x.rem.length := List.length_pos_iff.2 hne
  obtain ⟨g, c, cur, rfl, q1, q2, q3, q4, q5, q6⟩ := own_pos h.rem hpos
  have hl : x.rem[x.rem.length - 1]? = some k := by rw [← List.getLast?_eq_getElem?]; exact hk
  have hc : w.cell? ⟨g, x.rem.length - 1, none⟩ = some (.int .i64 k) := cell_at q4 (q6 _ _ (by simp [hl]))
  obtain ⟨_, _, _, _, _, _, _, _, _, c10, _, _, f10⟩ := wk_cells h.cell
  have HO : Hid (w.ownsRow B 2 1 (.slice (some ⟨g, 0, none⟩) (x.rem.length - 1) c) (x.rem.length - 1) (remC x.rem.dropLast)) := by
    refine ⟨by simp [remC], .inr ⟨g, c, cur, rfl, q3, q4, by omega, q2, q5, ?_⟩⟩
    apply List.ext_getElem?
    intro j
    by_cases hj : j < x.rem.length - 1
    · rw [List.getElem?_take_of_lt (by omega)]
      obtain ⟨y, hy⟩ : ∃ y, x.rem[j]? = some y := ⟨x.rem[j]'(by omega), List.getElem?_eq_getElem _⟩
      have := q6 j (.int .i64 y) (by simp [hy])
      rw [Array.getElem?_toList, this]
      unfold remC
      rw [List.getElem?_map, List.getElem?_dropLast, if_pos hj, hy]
      rfl
    · rw [List.getElem?_eq_none (by simp; omega), List.getElem?_eq_none (by simp [remC]; omega)]
  have H := Lib.hid h
  have lW := h.lt.1
  unfold maxLen at q2
  clear h hk hne q3 q4 q5 q6 hl
  obtain ⟨m, hm⟩ : ∃ m, x.rem.length = m + 1 := ⟨x.rem.length - 1, by omega⟩
  rw [show x.rem.length - 1 = m by omega] at hc HO
  rw [hm] at c10 q1
  have hmc : (m : Int) ≤ (c : Int) := by omega
  have HL := Lib.hid (show x.rem.dropLast.length = m by simp; omega)
  clear hm hpos
  go_enter Tryd.func25, Tryd.ntmps25
  go_wp2
  go_ret
  obtain ⟨f1, f2⟩ := H.out.remmed (l' := x.rem.dropLast) (R' := .slice (some ⟨g, 0, none⟩) m c) (w1 := w) (by rw [HL.out]; exact HO.out) (World.grownBy.refl _ _)
  exact ⟨rfl, _, f1, f2⟩
end Go.Proofs.YtilmidjkjgeoeaaDoor
