/- Closed facts on the program; what the listed table gives; the reading of a string argument. Conditions: none beyond the reading. -/
import Derived.Test.YtilmidjkjgeoeaaDoorRows
import Derived.Test.YtilmidjkjgeoeaaDoorCA
import Derived.Test.YtilmidjkjgeoeaaDoorOpen
import Derived.ProofKit
import Derived.LaidMore
import Derived.OpenShut
import Derived.Stop.Joined
import Derived.SizedLaws
import Derived.ChangeOld
import Derived.Below
import Derived.ChangeMaps5
namespace Go.Proofs.YtilmidjkjgeoeaaDoor
open Go.ChangeShapes Go.WideShapes Go.ChangeAt Go.RowKit
set_option linter.unusedSimpArgs false
set_option linter.unusedVariables false

theorem own : ownKnob Tryd.prog.godebug = none := by kernel_rfl
theorem laidOut : laidOutB Tryd.prog = true := by kernel_rfl
theorem cells5 : Tryd.prog.cellsOf 5 = 1 := by kernel_rfl
theorem cells9 : Tryd.prog.cellsOf 9 = 1 := by kernel_rfl
theorem bytes5 : Tryd.prog.bytesOf 5 = 1 := by kernel_rfl
theorem gSigns : Tryd.prog.globalNamed "covenant/code.signs" = some 0 := by kernel_rfl
theorem tSigns : (Tryd.prog.globals[0]?).map (·.type) = some 102 := by kernel_rfl

/-- the row's list -/
abbrev laid1 : List (String × DataW Unit) := [("covenant/code.signs", Rows.laid_covenant_code_signs)]
def litS (s : List Int) : DataW Unit := .lit (.string (s.map fun n => UInt8.ofNat n.toNat))
theorem signs_laid : (Rows.laid_covenant_code_signs : DataW Unit) = .agg (signsL.map litS) := by kernel_rfl

/-- The door's own heap meets the condition. -/
theorem door_met (os : Os) (args : Array Value) : laidMetH Tryd.prog laid1 ((World.doorLaid Tryd.prog 400 os).forCall (fun _ _ => 0) ⟨#[], args, []⟩).memory :=
  laidMetH_of_parts3 (fuel := 8) (laidMet_of_run' 8 (by kernel_rfl) (by kernel_rfl)) (by kernel_rfl) (by kernel_rfl)

theorem str_of_lit {s : ByteArray} {l : List Int} (h : (DataW.lit (.string s.data.toList) : DataW Unit) = litS l) : s = strOfNums l := by
  have h1 : s.data.toList = l.map fun n => UInt8.ofNat n.toNat := by
    simpa [litS] using h
  apply ByteArray.ext
  apply Array.toList_inj.1
  rw [strOfNums_data, ← h1]
/-- an array of strings that reads as listed -/
theorem row_of_laid {W : World} {g : Nat} {nm : String} {t : TypeId} {n : Nat} {cs : Array Value} {f : Nat} {q : List MemPlace} {L : List (List Int)} {d : DataW Unit} {b0 : Nat} {en : TypeId × Value → Unit} {sp : Nat → Bool} {hl : Bool}
    (hg : Tryd.prog.globalNamed nm = some g) (hv : W.var? Tryd.prog nm = some cs) (ht : Tryd.prog.underlying t = some (.array n 9)) (hd : DataW.trod en Tryd.prog W b0 sp hl f t cs.toList = some (d, q)) (hL : d = .agg (L.map litS)) (hn : L.length = n) :
    W.rangeAt g 0 (L.map fun s => Value.string (strOfNums s)) := by
  obtain ⟨xs, m1, rfl, hx1, hlen, hxn, hel⟩ := DataW.trod_array ht hd
  simp only [Prod.mk.injEq] at hx1
  rw [hL] at hx1
  have hagg : L.map litS = xs.map (fun x => x.fst) := by
    have := hx1.1
    injection this
  intro k v hk
  rw [Nat.zero_add, World.var?_cell hg hv k]
  obtain ⟨s, hs, rfl⟩ : ∃ s, L[k]? = some s ∧ Value.string (strOfNums s) = v := by
    rw [List.getElem?_map] at hk
    cases hL : L[k]? with
    | none => rw [hL] at hk; simp at hk
    | some s => rw [hL] at hk; exact ⟨s, rfl, by simpa using hk⟩
  have hkn : k < n := by rw [← hn]; exact (List.getElem?_eq_some_iff.1 hs).1
  have h0 := hel k hkn
  obtain ⟨x, hx⟩ : ∃ x, xs[k]? = some x := ⟨_, List.getElem?_eq_getElem (by omega)⟩
  rw [hx, cells9] at h0
  obtain ⟨sb, e1, e2, _⟩ := DataW.trod_string Tryd.underlying9 h0
  have h1 : (L.map litS)[k]? = some (litS s) := by rw [List.getElem?_map, hs]; rfl
  rw [hagg, List.getElem?_map, hx, e2] at h1
  have h2 : sb = strOfNums s := str_of_lit (by simpa using h1)
  have h3 : (cs.toList.drop (k * 1))[0]? = some (.string sb) := by
    have := congrArg (fun l : List Value => l[0]?) e1
    simpa using this
  show cs[k]? = some (.string (strOfNums s))
  rw [← h2]
  simpa using h3
/-- what the listed table gives the walks -/
theorem tab_of_laid {W : World} (h : laidMetH Tryd.prog laid1 W) : Tab W := by
  rw [MakeChecks.laidMetH_plain _ _ _ (by kernel_rfl)] at h
  obtain ⟨ps, ⟨g0, t0, cs0, f0, p0, q0, hg0, ht0, hv0, hd0, hrest, _⟩, _, _⟩ := h
  obtain rfl := Option.some.inj (gSigns.symm.trans hg0)
  obtain rfl := Option.some.inj (tSigns.symm.trans ht0)
  have r0 := row_of_laid hg0 hv0 Tryd.underlying102 hd0 signs_laid rfl
  exact ⟨World.block_lt_of_cell? W _ (r0 0 _ rfl), r0⟩
/-- a string is its bytes -/
theorem strO_of (sb : ByteArray) : ∃ s : List Int, Byt s ∧ sb = strOfNums s := by
  refine ⟨sb.data.toList.map fun b => (b.toNat : Int), fun x hx => ?_, ?_⟩
  · obtain ⟨b, _, rfl⟩ := List.mem_map.1 hx
    have := b.toNat_lt
    omega
  · apply ByteArray.ext
    apply Array.toList_inj.1
    rw [strOfNums_data, List.map_map]
    conv => lhs; rw [← List.map_id sb.data.toList]
    refine List.map_congr_left fun b _ => ?_
    simp

section
variable {H : Type} {enc : TypeId × Value → H} {P : Program} {w : World} {base : Nat} {held : Bool} {d : DataW H} {ps : List MemPlace} {ts : List TypeId} {ds : List (DataW H)}

theorem reach_bytes {t e : TypeId} {a : Option Addr} {len cap : Nat} (ht : P.underlying t = some (.slice e)) (he : P.underlying e = some (.int .u8)) (hc : P.cellsOf e = 1) (hb : P.bytesOf e = 1)
    (h : DataW.Trod enc P w base (fun _ => true) held t (.slice a len cap) d ps) (hsz : (DataW.weightsEach P ts ds).all (· ≤ reachBytes) = true) {j : Nat} (h1 : ts[j]? = some t) (h2 : ds[j]? = some d) : cap ≤ 140737488351232 := by
  obtain ⟨fuel, hf⟩ := h
  rcases open_ints ht he hc hf with ⟨hcs, _⟩ | ⟨x, l, c, zs, hcs, _, hl, hm, hz, hx, _, _⟩
  · simp [Value.cells] at hcs
    omega
  · simp [Value.cells] at hcs
    obtain ⟨rfl, rfl, rfl⟩ := hcs
    have hz' : zs.length = cap := by simpa using hz
    have hd : d = .slice (lits .u8 (zs.take len)) (lits .u8 (zs.drop len)) := by injection hx
    subst hd
    have := sized_slice hsz h1 h2 ht
    rw [hb] at this
    simp only [lits, List.length_map, List.length_take, List.length_drop, reachBytes] at this
    omega
end
end Go.Proofs.YtilmidjkjgeoeaaDoor
