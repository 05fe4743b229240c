/- append onto a new empty row of bytes. Conditions: what is appended lies in memory. -/
import Derived.Test.YtncbbjodianmoaaOb
import Derived.Test.YtncbbjodianmoaaTu
namespace Go.Proofs.Ytncbbjodianmoaa
open Go.RowKit
set_option linter.unusedSimpArgs false
set_option linter.unusedVariables false

/-- an empty row of bytes, in a block from lo on -/
def Emp (lo : Nat) (w : World) (g : Nat) : Prop := lo ≤ g ∧ w.heap[g]? = some (.cells #[] 5 (0, 0))
theorem Emp.on {lo g : Nat} {w w' : World} (h : Emp lo w g) (hb : Below w.heap.size w w') : Emp lo w' g := ⟨h.1, by rw [hb.block g (Array.getElem?_eq_some_iff.1 h.2).1]; exact h.2⟩
theorem run_app_empty {lo g : Nat} {w : World} (ty : TypeId) (hE : Emp lo w g) (A : Option Addr) (l : List Int) (c : Nat) (hl : Lies w w.heap.size A c (cellsOf l)) (hlen : l.length ≤ 140737488355328) :
    ∃ v' w', (Builtin.append_ #[30, 30] ty #[.slice (some ⟨g, 0, none⟩) 0 0, .slice A l.length c]).run Try.prog w = .ok v' w' ∧ w'.ownsRow lo 5 1 v' l.length (cellsOf l) ∧ Below w.heap.size w w' := by
  obtain ⟨i, hi, hz0, hz1, hz2⟩ := info_parts info5
  by_cases h0 : l = []
  · subst h0
    refine ⟨_, _, run_append_zero w 30 ty 5 i Try.underlying30 hi (some ⟨g, 0, none⟩) A 0 0 c (Nat.le_refl _) (fun e => by cases e), ?_, Below.refl _ _⟩
    exact ⟨rfl, .inr ⟨g, 0, #[], rfl, hE.1, hE.2, Nat.le_refl _, Nat.zero_le _, rfl, rfl⟩⟩
  · have hpos : 0 < l.length := List.length_pos_iff.2 h0
    cases A with
    | none =>
      have := hl.none_nil.1
      simp at this
      exact absurd this h0
    | some ad =>
      have hnews : ∀ j u, (cellsOf l)[j]? = some u → w.cell? (ad.add j) = some u := fun j u hu => by
        obtain ⟨ad', e', _, hc⟩ := hl.2 j u hu
        injection e' with e'
        subst e'
        exact hc
      obtain ⟨v', w', hr, h2, h3⟩ := run_append_arg_grows (P := Try.prog) w 30 ty 5 i _ 1 1 Try.underlying30 hi hz0 hz1 hz2 rfl (by omega) ⟨g, 0, none⟩ 0 0 [] rfl (fun j u hu => by simp at hu) ad l.length c (cellsOf l) (by simp) hnews (by omega) (by unfold maxLen; omega) (by omega)
      refine ⟨v', w', hr, ?_, (Below.refl _ _).grown h3 (Nat.le_refl _) (fun k hk => by cases hk)⟩
      have h4 : w'.ownsRow w.heap.size 5 1 v' l.length (cellsOf l) := by simpa using h2
      exact own_mono h4 (Nat.le_of_lt (Nat.lt_of_le_of_lt hE.1 (Array.getElem?_eq_some_iff.1 hE.2).1))
theorem wp_app_empty {lo g : Nat} {w : World} {o : Oper} {a : Act} {K : Act → World → Prop} {Q : Exit → Act → World → Prop} (s x : Operand) (ho : o.op = .call { callee := .builtin .append, args := #[s, x], argTypes := #[30, 30] }) (hE : Emp lo w g)
    (hs : a.eval s = .slice (some ⟨g, 0, none⟩) 0 0) (A : Option Addr) (l : List Int) (m c : Nat) (hm : m = l.length) (hx : a.eval x = .slice A m c) (hl : Lies w w.heap.size A c (cellsOf l)) (hlen : l.length ≤ 140737488355328)
    (hK : ∀ v' w', w'.ownsRow lo 5 1 v' l.length (cellsOf l) → Below w.heap.size w w' → K (a.put o.dst v') w') : o.wp Try.prog a w K Q := by
  subst hm
  obtain ⟨v', w', hr, h2, h3⟩ := run_app_empty (w := w) o.type hE A l c hl hlen
  unfold Oper.wp execOp
  simp only [ho, resolve, invoke, builtin, Sem.run_bind, Sem.run_pure, Result.andThen_ok, List.map_toArray, List.map_cons, List.map_nil, hs, hx, hr]
  exact hK v' w' h2 h3
theorem wpList_app_empty {lo g : Nat} {w : World} {ops : Array Oper} {rest : List Oper} {o : Oper} {a : Act} {Q : Exit → Act → World → Prop} (hgd : o.guard = none) (s x : Operand) (ho : o.op = .call { callee := .builtin .append, args := #[s, x], argTypes := #[30, 30] }) (hE : Emp lo w g)
    (hs : a.eval s = .slice (some ⟨g, 0, none⟩) 0 0) (A : Option Addr) (l : List Int) (m c : Nat) (hm : m = l.length) (hx : a.eval x = .slice A m c) (hl : Lies w w.heap.size A c (cellsOf l)) (hlen : l.length ≤ 140737488355328)
    (hK : ∀ v' w', w'.ownsRow lo 5 1 v' l.length (cellsOf l) → Below w.heap.size w w' → wpList Try.prog ops Q rest (a.put o.dst v') w') : wpList Try.prog ops Q (o :: rest) a w :=
  wpList_plain hgd fun _ hK' => wp_app_empty s x ho hE hs A l m c hm hx hl hlen fun v' w' h2 h3 => hK' _ _ (hK v' w' h2 h3)
end Go.Proofs.Ytncbbjodianmoaa
