/- A row of calls that came in, as it lies in memory. Conditions: those in each theorem. -/
import Derived.Test.YtncbbjodianmoaaSo
import Derived.Deep.Slices
import Derived.ChangeSame
namespace Go.Proofs.Ytncbbjodianmoaa
open Go.ChangeShapes Go.WideShapes Go.ChangeAt Go.RowKit Go.Deep
set_option linter.unusedVariables false

/-- a call: which, key, value, number -/
structure OpT where
  what : Int
  key : List Int
  val : List Int
  n : Int

/-- the cells at b, off hold the call o; all below B -/
def OpAt (w : World) (B b off : Nat) (o : OpT) : Prop :=
  ∃ Ak ck Av cv, b < B ∧ w.cell? ⟨b, off, none⟩ = some (.int .i64 o.what) ∧ w.cell? ⟨b, off + 1, none⟩ = some (.slice Ak o.key.length ck) ∧ w.cell? ⟨b, off + 2, none⟩ = some (.slice Av o.val.length cv) ∧ w.cell? ⟨b, off + 3, none⟩ = some (.int .i64 o.n) ∧
    SB w B (.slice Ak o.key.length ck) o.key ∧ SB w B (.slice Av o.val.length cv) o.val ∧ (-9223372036854775808 ≤ o.what ∧ o.what ≤ 9223372036854775807) ∧ (-9223372036854775808 ≤ o.n ∧ o.n ≤ 9223372036854775807)
/-- the slice at A reads as the calls ls -/
def OpsB (w : World) (B : Nat) (A : Option Addr) (ls : List OpT) : Prop := ∀ i o, ls[i]? = some o → ∃ b off, A = some ⟨b, off, none⟩ ∧ OpAt w B b (off + i * 4) o
theorem OpAt.below {w w' : World} {B b off : Nat} {o : OpT} (h : OpAt w B b off o) (hb : Below B w w') : OpAt w' B b off o := by
  obtain ⟨Ak, ck, Av, cv, h1, h2, h3, h4, h5, h6, h7, h8, h9⟩ := h
  exact ⟨Ak, ck, Av, cv, h1, by rw [hb.cell (p := ⟨b, off, none⟩) h1]; exact h2, by rw [hb.cell (p := ⟨b, off + 1, none⟩) h1]; exact h3, by rw [hb.cell (p := ⟨b, off + 2, none⟩) h1]; exact h4, by rw [hb.cell (p := ⟨b, off + 3, none⟩) h1]; exact h5, h6.below hb, h7.below hb, h8, h9⟩
theorem OpsB.below {w w' : World} {B : Nat} {A : Option Addr} {ls : List OpT} (h : OpsB w B A ls) (hb : Below B w w') : OpsB w' B A ls := fun i o ho => by
  obtain ⟨b, off, e, h1⟩ := h i o ho
  exact ⟨b, off, e, h1.below hb⟩

theorem cells32 : Try.prog.cellsOf 32 = 4 := by kernel_rfl
theorem cells3 : Try.prog.cellsOf 3 = 1 := by kernel_rfl
section
variable {H : Type} {enc : TypeId × Value → H} {w : World} {base : Nat} {held : Bool} {d : DataW H} {ps : List MemPlace} {ts : List TypeId} {ds : List (DataW H)}

theorem int_of {n : Nat} {v : Value} {x : DataW H × List MemPlace} (h : DataW.trod enc Try.prog w base (fun _ => true) held n 3 [v] = some x) : ∃ z, v = .int .i64 z ∧ (Lit.int .i64 z).wf = true := by
  obtain ⟨z, h1, _, h2⟩ := DataW.trod_int Try.underlying3 h
  exact ⟨z, by simpa using h1, h2⟩

theorem view_ops {a : Option Addr} {len cap : Nat} (h : DataW.Trod enc Try.prog w base (fun _ => true) held 23 (.slice a len cap) d ps) :
    ∃ ls : List OpT, ls.length = len ∧ len ≤ cap ∧ cap ≤ maxLen ∧ OpsB w w.heap.size a ls := by
  obtain ⟨fuel, hf⟩ := h
  rcases open_slice Try.underlying23 hf with ⟨hcs, _⟩ | ⟨x, l, c, m, n, D, Pl, hcs, hb, hl, hm, hmm, _, hx⟩
  · simp [Value.cells] at hcs
    obtain ⟨rfl, rfl, rfl⟩ := hcs
    exact ⟨[], rfl, Nat.le_refl _, Nat.zero_le _, fun i o ho => by simp at ho⟩
  · simp [Value.cells] at hcs
    obtain ⟨rfl, rfl, rfl⟩ := hcs
    have hmc : m = cap := by simpa using hmm
    subst hmc
    have each : ∀ i, i < len → ∃ q : OpT, ∃ b off, some x = some ⟨b, off, none⟩ ∧ OpAt w w.heap.size b (off + i * 4) q := by
      intro i hi
      obtain ⟨cs', h1, h2⟩ := hx i (by omega)
      rw [cells32] at h1
      obtain ⟨_, hlen, hcell⟩ := World.cells?_some h1
      obtain ⟨xs, k, hk, hxy, _, hxl, hf'⟩ := DataW.trod_struct Try.underlying32 h2
      match xs, hxl, cs', hlen with
      | [y0, y1, y2, y3], _, [v0, v1, v2, v3], _ =>
        have g0 := hf' 0 _ rfl
        have g1 := hf' 1 _ rfl
        have g2 := hf' 2 _ rfl
        have g3 := hf' 3 _ rfl
        simp [cells3, cells23] at g0 g1 g2 g3
        have e0 := hcell 0 (by omega)
        have e1 := hcell 1 (by omega)
        have e2 := hcell 2 (by omega)
        have e3 := hcell 3 (by omega)
        rw [add_add] at e0 e1 e2 e3
        obtain ⟨z0, rfl, w0⟩ := int_of g0
        obtain ⟨k1, s1⟩ := sb_of g1
        obtain ⟨k2, s2⟩ := sb_of g2
        obtain ⟨z3, rfl, w3⟩ := int_of g3
        obtain ⟨b, off, sp⟩ := x
        have hsp : sp = none := by
          obtain ⟨cs0, h10, _⟩ := hx 0 (by omega)
          rw [cells32] at h10
          obtain ⟨_, hl0, hcell0⟩ := World.cells?_some h10
          have e00 := hcell0 0 (by omega)
          rw [List.getElem?_eq_getElem (by omega)] at e00
          exact World.cell?_spot e00
        subst hsp
        rw [Addr.add_mid] at e0 e1 e2 e3
        have hlt := World.block_lt_of_cell? w _ e0
        obtain ⟨Ak, ck, rfl, _⟩ := id s1
        obtain ⟨Av, cv, rfl, _⟩ := id s2
        exact ⟨⟨z0, k1, k2, z3⟩, b, off, rfl, Ak, ck, Av, cv, hlt, by simpa using e0, by simpa [Nat.add_assoc] using e1, by simpa [Nat.add_assoc] using e2, by simpa [Nat.add_assoc] using e3, s1, s2, bounds_i64 w0, bounds_i64 w3⟩
    have : Inhabited OpT := ⟨⟨0, [], [], 0⟩⟩
    obtain ⟨q, hq⟩ := choose_lt each
    refine ⟨(List.range len).map q, by simp, hl, hm, fun i o ho => ?_⟩
    have hi : i < len := by have := (List.getElem?_eq_some_iff.1 ho).1; simpa using this
    rw [List.getElem?_map, List.getElem?_range hi] at ho
    injection ho with ho
    subst ho
    exact hq i hi
end
end Go.Proofs.Ytncbbjodianmoaa
