/- 'Undo' of a journal. Conditions: the journal lies in memory. -/
import Derived.Test.YtncbbjodianmoaaJg
import Derived.Test.YtncbbjodianmoaaJi
namespace Go.Proofs.Ytncbbjodianmoaa
open Go.RowKit Go.Shelf
attribute [local go_sem] Oper.semAt_some
set_option linter.unusedSimpArgs false
set_option linter.unusedVariables false

/-- between two rounds: the last ones are undone -/
def Loopd (n0 J : Nat) (w1 : World) (cur : List PR) (Gs : List (List PR → List PR)) (r : Value) (pre : List Nat) (W : World) : Prop :=
  Off n0 w1 W ∧ (∀ b, b < w1.heap.size → b ≠ J → W.heap[b]? = w1.heap[b]?) ∧ ∃ A c, W.heap[J]? = some (.cells #[.slice A (back Gs cur pre).length c, r] 54 (0, 0)) ∧ (back Gs cur pre).length ≤ c ∧ c ≤ maxLen ∧ PrsX n0 W A c (back Gs cur pre)
theorem wp_normal {P : Program} {c : Code} {K : Act → World → Prop} {Q : Exit → Act → World → Prop} {a : Act} {w : World} (h : c.wp P (fun e a w => e = .normal ∧ K a w) a w) : c.wp P (Exit.then K Q) a w :=
  Code.wp_mono (fun e a w h => by obtain ⟨rfl, hk⟩ := h; exact hk) h
theorem back_drop (Fs : List (List PR → List PR)) (cur : List PR) (m n : Nat) (hm : m ≤ n) : ∀ r, r ≤ n - m → back (Fs.drop m) cur (lasts (n - m) r) = back Fs cur ((List.range r).map fun j => n - 1 - j)
  | 0, _ => rfl
  | r + 1, h => by
    rw [lasts_succ, back_snoc, back_drop Fs cur m n hm r (by omega), List.range_succ, List.map_append, List.map_cons, List.map_nil, back_snoc, List.getD, List.getD, List.getElem?_drop, show m + (n - m - 1 - r) = n - 1 - r by omega]
theorem back_res {hs : List (List PR)} {cur res : List PR} {Fs : List (List PR → List PR)} (hc : Chain (hs ++ [cur]) Fs) (hl : Fs.length = hs.length) {m : Nat} (hm : m ≤ hs.length) (hr : (hs ++ [cur])[m]? = some res) :
    back (Fs.drop m) cur (lasts (hs.length - m) (hs.length - m)) = res := by
  rw [back_drop Fs cur m hs.length hm _ (Nat.le_refl _)]
  have h := back_chain hc hl (hs.length - m) (by omega)
  rw [show hs.length - (hs.length - m) = m by omega, hr] at h
  injection h with h
  exact h.symm
theorem not_cel {W : World} {r : Nat} {o : Obj} (h : W.heap[r]? = some o) (ho : o.isCells = false) : ¬ Cel W r := by
  rintro ⟨cs, T, z, h'⟩
  rw [h] at h'
  injection h' with h'
  subst h'
  cases ho
theorem Loopd.own {n0 J : Nat} {w1 : World} {cur : List PR} {Gs : List (List PR → List PR)} {r : Value} (hn : n0 ≤ w1.heap.size) (hJ : J < w1.heap.size) : OwnFrom w1.heap.size (Loopd n0 J w1 cur Gs r) := by
  intro s W W' row hs hg hr
  obtain ⟨h1, h2, A, c, h3, h4, h5, h6⟩ := hs
  have ho : Off n0 W W' := by
    cases row with
    | none => exact .of ((Below.refl W.heap.size W).grown hg (Nat.le_refl _) (fun k hk => by cases hk))
    | some i =>
      obtain ⟨g1, o, g2, g3⟩ := hr i rfl
      exact .other hg (not_cel g2 g3) (by omega)
  have hb : ∀ b, b < w1.heap.size → W'.heap[b]? = W.heap[b]? := fun b hb => hg.block b (Nat.lt_of_lt_of_le hb h1.size) fun e => by have := (hr b e.symm).1; omega
  exact ⟨h1.trans ho, fun b hb' hne => (hb b hb').trans (h2 b hb' hne), A, c, by rw [hb J hJ]; exact h3, h4, h5, h6.off ho⟩

end Go.Proofs.Ytncbbjodianmoaa
