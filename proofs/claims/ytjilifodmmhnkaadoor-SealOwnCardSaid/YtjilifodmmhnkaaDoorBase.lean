/- Closed facts on the program; the reading of an argument that is a byte string; what the listed table gives. Conditions: none beyond the reading. -/
import Derived.Test.YtjilifodmmhnkaaDoorA
import Derived.ProofKit
import Derived.LaidMore
import Derived.OpenShut
import Derived.Stop.Joined
import Derived.SizedLaws
import Derived.ChangeOld
import Derived.Below
namespace Go.Proofs.YtjilifodmmhnkaaDoor
open Go.ChangeShapes Go.WideShapes Go.ChangeAt Go.RowKit

theorem own : ownKnob Tryd.prog.godebug = none := by kernel_rfl
theorem laidOut : laidOutB Tryd.prog = true := by kernel_rfl
theorem cells5 : Tryd.prog.cellsOf 5 = 1 := by kernel_rfl
theorem cells28 : Tryd.prog.cellsOf 28 = 1 := by kernel_rfl
theorem bytes5 : Tryd.prog.bytesOf 5 = 1 := by kernel_rfl
theorem gTab : Tryd.prog.globalNamed "covenant/seal.shifted" = some 0 := by kernel_rfl
theorem tTab : (Tryd.prog.globals[0]?).map (·.type) = some 40 := by kernel_rfl

/-- the row's list -/
abbrev laid1 : List (String × DataW Unit) := [("covenant/seal.shifted", Rows.laid_covenant_seal_shifted)]
def tabNums : List Int := [0, 274646895, 549293790, 820201905, 1098587580, 1361435347, 1640403810, 1905808397, 2197175160, 2460548119, 2722870694, 2987750089, 3280807620, 3553878443, 3811616794, 4084100981]
theorem tabNums_laid : (Rows.laid_covenant_seal_shifted : DataW Unit) = .agg (tabNums.map fun n => .lit (.int .u32 n)) := rfl
theorem tabNums_get : ∀ k, k < 16 → tabNums[k]? = some ((sts 4 k : Nat) : Int) := by decide +kernel

/-- The door's own heap meets the condition. -/
theorem door_met (os : Os) (args : Array Value) : laidMetH Tryd.prog laid1 ((World.doorLaid Tryd.prog 400 os).forCall (fun _ _ => 0) ⟨#[], args, []⟩).memory :=
  laidMetH_of_parts3 (fuel := 8) (laidMet_of_run' 8 (by kernel_rfl) (by kernel_rfl)) (by kernel_rfl) (by kernel_rfl)

/-- what the listed table gives the walks -/
theorem tab_of_laid {W : World} (h : laidMetH Tryd.prog laid1 W) : Tab W := by
  rw [MakeChecks.laidMetH_plain _ _ _ (by kernel_rfl)] at h
  obtain ⟨ps, ⟨g0, t0, cs0, f0, p0, q0, hg0, ht0, hv0, hd0, _, _⟩, _, _⟩ := h
  obtain rfl := Option.some.inj (gTab.symm.trans hg0)
  obtain rfl := Option.some.inj (tTab.symm.trans ht0)
  obtain ⟨xs, m1, rfl, hx1, hlen, hn, hel⟩ := DataW.trod_array Tryd.underlying40 hd0
  simp only [Prod.mk.injEq] at hx1
  rw [tabNums_laid] at hx1
  have hagg : tabNums.map (fun n => (DataW.lit (.int .u32 n) : DataW Unit)) = xs.map (fun x => x.fst) := by
    have := hx1.1
    injection this
  have key : ∀ k, k < 16 → W.cell? ⟨0, k, none⟩ = some (.int .u32 ((sts 4 k : Nat) : Int)) := by
    intro k hk
    have h0 := hel k hk
    obtain ⟨x, hx⟩ : ∃ x, xs[k]? = some x := ⟨_, List.getElem?_eq_getElem (by omega)⟩
    rw [hx, cells28] at h0
    obtain ⟨n, e1, e2, _⟩ := DataW.trod_int Tryd.underlying28 h0
    have h1 : (tabNums.map (fun n => (DataW.lit (.int .u32 n) : DataW Unit)))[k]? = some (.lit (.int .u32 ((sts 4 k : Nat) : Int))) := by
      rw [List.getElem?_map, tabNums_get k hk]
      rfl
    rw [hagg, List.getElem?_map, hx, e2] at h1
    simp only [Option.map_some, Option.some.injEq, DataW.lit.injEq, Lit.int.injEq, true_and] at h1
    rw [World.var?_cell hg0 hv0 k]
    have h2 : (cs0.toList.drop (k * 1))[0]? = some (.int .u32 n) := by
      have := congrArg (fun l : List Value => l[0]?) e1
      simpa using this
    rw [← h1]
    simpa using h2
  exact ⟨World.block_lt_of_cell? W _ (key 0 (by decide)), key⟩

theorem wf_u8 {n : Int} (h : (Lit.int .u8 n).wf = true) : 0 ≤ n ∧ n < 256 := by
  have := bounds_u8 h
  omega

section
variable {H : Type} {enc : TypeId × Value → H} {P : Program} {w : World} {base : Nat} {held : Bool} {d : DataW H} {ps : List MemPlace} {ts : List TypeId} {ds : List (DataW H)}

theorem lies_of_nums {w : World} {a : Addr} {len cap : Nat} {zs : List Int} (hl : len ≤ cap) (hz : zs.length = cap) (hc : ∀ i, i < cap → w.cell? (a.add i) = some (.int .u8 (zs.getD i 0))) :
    Lies w w.heap.size (some a) cap (cellsOf (zs.take len)) := by
  refine ⟨(fun e => by cases e), fun j u hu => ?_⟩
  have hj : j < len := by
    have := (List.getElem?_eq_some_iff.1 hu).1
    simp at this
    omega
  have hcj := hc j (by omega)
  refine ⟨a, rfl, by have := World.block_lt_of_cell? w _ hcj; rwa [addr_block] at this, ?_⟩
  rw [hcj]
  have : zs[j]? = some zs[j] := List.getElem?_eq_getElem (by omega)
  simp [hj, this] at hu
  simp [List.getD, this, hu]

theorem view_bytes {t e : TypeId} {a : Option Addr} {len cap : Nat} (ht : P.underlying t = some (.slice e)) (he : P.underlying e = some (.int .u8)) (hc : P.cellsOf e = 1)
    (h : DataW.Trod enc P w base (fun _ => true) held t (.slice a len cap) d ps) :
    ∃ s : List Int, s.length = len ∧ len ≤ cap ∧ cap ≤ maxLen ∧ Byt s ∧ Lies w w.heap.size a cap (cellsOf s) := by
  obtain ⟨fuel, hf⟩ := h
  rcases open_ints ht he hc hf with ⟨hcs, _⟩ | ⟨x, l, c, zs, hcs, _, hl, hm, hz, _, hcell, hwz⟩
  · simp [Value.cells] at hcs
    obtain ⟨rfl, rfl, rfl⟩ := hcs
    exact ⟨[], rfl, Nat.le_refl _, Nat.zero_le _, Byt.nil, Lies.nothing _ _⟩
  · simp [Value.cells] at hcs
    obtain ⟨rfl, rfl, rfl⟩ := hcs
    have hz' : zs.length = cap := by simpa using hz
    refine ⟨zs.take len, by simp; omega, hl, hm, fun b hb => wf_u8 (hwz b (List.mem_of_mem_take hb)), lies_of_nums hl hz' fun i hi => hcell i (by omega)⟩

theorem reach_bytes {t e : TypeId} {a : Option Addr} {len cap : Nat} (ht : P.underlying t = some (.slice e)) (he : P.underlying e = some (.int .u8)) (hc : P.cellsOf e = 1) (hb : P.bytesOf e = 1)
    (h : DataW.Trod enc P w base (fun _ => true) held t (.slice a len cap) d ps) (hsz : (DataW.weightsEach P ts ds).all (· ≤ reachBytes) = true) {j : Nat} (h1 : ts[j]? = some t) (h2 : ds[j]? = some d) : cap ≤ 140737488351232 := by
  obtain ⟨fuel, hf⟩ := h
  rcases open_ints ht he hc hf with ⟨hcs, _⟩ | ⟨x, l, c, zs, hcs, _, hl, hm, hz, hx, _, _⟩
  · simp [Value.cells] at hcs
    omega
  · simp [Value.cells] at hcs
    obtain ⟨rfl, rfl, rfl⟩ := hcs
    have hz' : zs.length = cap := by simpa using hz
    have hd : d = .slice (lits .u8 (zs.take len)) (lits .u8 (zs.drop len)) := by injection hx
    subst hd
    have := sized_slice hsz h1 h2 ht
    rw [hb] at this
    simp only [lits, List.length_map, List.length_take, List.length_drop, reachBytes] at this
    omega
end
end Go.Proofs.YtjilifodmmhnkaaDoor
