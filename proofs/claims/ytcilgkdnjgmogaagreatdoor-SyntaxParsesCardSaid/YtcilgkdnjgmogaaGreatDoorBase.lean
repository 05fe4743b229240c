/- Closed facts on the program; the reading of an argument that is a byte string; what the listed tables give. -/
import Derived.Test.YtcilgkdnjgmogaaGreatDoorNJ
import Derived.ProofKit
import Derived.LaidMore
import Derived.OpenShut
import Derived.Stop.Joined
import Derived.SizedLaws
import Derived.ChangeOld
import Derived.Below
import Derived.ChangeMaps5
namespace Go.Proofs.YtcilgkdnjgmogaaGreatDoor
open Go.ChangeShapes Go.WideShapes Go.ChangeAt Go.RowKit
theorem own : ownKnob Tryz.prog.godebug = none := by kernel_rfl
theorem laidOut : laidOutB Tryz.prog = true := by kernel_rfl
theorem cells9 : Tryz.prog.cellsOf 9 = 1 := by kernel_rfl
theorem bytes5 : Tryz.prog.bytesOf 5 = 1 := by kernel_rfl
theorem gWords : Tryz.prog.globalNamed "covenant/token.keywords" = some 1 := by kernel_rfl
theorem tWords : (Tryz.prog.globals[1]?).map (·.type) = some 247 := by kernel_rfl
theorem gSigns : Tryz.prog.globalNamed "covenant/token.signs" = some 2 := by kernel_rfl
theorem tSigns : (Tryz.prog.globals[2]?).map (·.type) = some 248 := by kernel_rfl
abbrev laid1 : List (String × DataW Unit) := [("math/bits.deBruijn32tab", Rows.laid_math_bits_deBruijn32tab), ("math/bits.deBruijn64tab", Rows.laid_math_bits_deBruijn64tab), ("internal/strconv.uint64pow10", Rows.laid_internal_strconv_uint64pow10), ("covenant/token.keywords", Rows.laid_covenant_token_keywords), ("covenant/token.signs", Rows.laid_covenant_token_signs)]
def litS (s : List Nat) : DataW Unit := .lit (.string (s.map UInt8.ofNat))
theorem words_laid : (Rows.laid_covenant_token_keywords : DataW Unit) = .agg (wordsN.map litS) := by kernel_rfl
theorem signs_laid : (Rows.laid_covenant_token_signs : DataW Unit) = .agg (signsN.map litS) := by kernel_rfl
theorem door_met (os : Os) (args : Array Value) : laidMetH Tryz.prog laid1 ((World.doorLaid Tryz.prog 400 os).forCall (fun _ _ => 0) ⟨#[], args, []⟩).memory :=
 laidMetH_of_parts3 (fuel := 8) (laidMet_of_run' 8 (by kernel_rfl) (by kernel_rfl)) (by kernel_rfl) (by kernel_rfl)
theorem str_of_lit {s : ByteArray} {l : List Nat} (h : (DataW.lit (.string s.data.toList) : DataW Unit) = litS l) : s = strN l := by
 have h1 : s.data.toList = l.map UInt8.ofNat := by
  simpa [litS] using h
 apply ByteArray.ext
 rw [strN_data, ← h1]
theorem row_of_laid {W : World} {g : Nat} {nm : String} {t : TypeId} {n : Nat} {cs : Array Value} {f : Nat} {q : List MemPlace} {L : List (List Nat)} {d : DataW Unit} {b0 : Nat} {en : TypeId × Value → Unit} {sp : Nat → Bool} {hl : Bool}
  (hg : Tryz.prog.globalNamed nm = some g) (hv : W.var? Tryz.prog nm = some cs) (ht : Tryz.prog.underlying t = some (.array n 9)) (hd : DataW.trod en Tryz.prog W b0 sp hl f t cs.toList = some (d, q)) (hL : d = .agg (L.map litS)) (hn : L.length = n) :
  W.rangeAt g 0 (L.map strV) := by
 obtain ⟨xs, m1, rfl, hx1, hlen, hxn, hel⟩ := DataW.trod_array ht hd
 simp only [Prod.mk.injEq] at hx1
 rw [hL] at hx1
 have hagg : L.map litS = xs.map (fun x => x.fst) := by
  have := hx1.1
  injection this
 intro k v hk
 rw [Nat.zero_add, World.var?_cell hg hv k]
 obtain ⟨s, hs, rfl⟩ : ∃ s, L[k]? = some s ∧ strV s = v := by
  rw [List.getElem?_map] at hk
  cases hL : L[k]? with
  | none => rw [hL] at hk; simp at hk
  | some s => rw [hL] at hk; exact ⟨s, rfl, by simpa using hk⟩
 have hkn : k < n := by rw [← hn]; exact (List.getElem?_eq_some_iff.1 hs).1
 have h0 := hel k hkn
 obtain ⟨x, hx⟩ : ∃ x, xs[k]? = some x := ⟨_, List.getElem?_eq_getElem (by omega)⟩
 rw [hx, cells9] at h0
 obtain ⟨sb, e1, e2, _⟩ := DataW.trod_string Tryz.underlying9 h0
 have h1 : (L.map litS)[k]? = some (litS s) := by rw [List.getElem?_map, hs]; rfl
 rw [hagg, List.getElem?_map, hx, e2] at h1
 have h2 : sb = strN s := str_of_lit (by simpa using h1)
 have h3 : (cs.toList.drop (k * 1))[0]? = some (.string sb) := by
  have := congrArg (fun l : List Value => l[0]?) e1
  simpa using this
 show cs[k]? = some (.string (strN s))
 rw [← h2]
 simpa using h3
theorem tab_of_laid {W : World} (h : laidMetH Tryz.prog laid1 W) : Tab W := by
 rw [MakeChecks.laidMetH_plain _ _ _ (by kernel_rfl)] at h
 obtain ⟨ps, ⟨ga, ta, csa, fa, pa, qa, hga, hta, hva, hda, hresta, _⟩, _, _⟩ := h
 obtain ⟨gb, tb, csb, fb, pb, qb, hgb, htb, hvb, hdb, hrestb, _⟩ := hresta
 obtain ⟨gc, tc, csc, fc, pc, qc, hgc, htc, hvc, hdc, hrestc, _⟩ := hrestb
 obtain ⟨g0, t0, cs0, f0, p0, q0, hg0, ht0, hv0, hd0, hrest, _⟩ := hrestc
 obtain ⟨g1, t1, cs1, f1, p1, q1, hg1, ht1, hv1, hd1, _, _⟩ := hrest
 obtain rfl := Option.some.inj (gWords.symm.trans hg0)
 obtain rfl := Option.some.inj (tWords.symm.trans ht0)
 obtain rfl := Option.some.inj (gSigns.symm.trans hg1)
 obtain rfl := Option.some.inj (tSigns.symm.trans ht1)
 have r0 := row_of_laid hg0 hv0 Tryz.underlying247 hd0 words_laid rfl
 have r1 := row_of_laid hg1 hv1 Tryz.underlying248 hd1 signs_laid rfl
 exact ⟨World.block_lt_of_cell? W _ (r1 0 _ rfl), r0, r1⟩
theorem wf_u8 {n : Int} (h : (Lit.int .u8 n).wf = true) : 0 ≤ n ∧ n < 256 := by
 have := bounds_u8 h
 omega
section
variable {H : Type} {enc : TypeId × Value → H} {P : Program} {w : World} {base : Nat} {held : Bool} {d : DataW H} {ps : List MemPlace} {ts : List TypeId} {ds : List (DataW H)}
theorem lies_of_nums {w : World} {a : Addr} {len cap : Nat} {zs : List Int} (hl : len ≤ cap) (hz : zs.length = cap) (hc : ∀ i, i < cap → w.cell? (a.add i) = some (.int .u8 (zs.getD i 0))) :
  Lies w w.heap.size (some a) cap (cellsOf (zs.take len)) := by
 refine ⟨(fun e => by cases e), fun j u hu => ?_⟩
 have hj : j < len := by
  have := (List.getElem?_eq_some_iff.1 hu).1
  simp at this
  omega
 have hcj := hc j (by omega)
 refine ⟨a, rfl, by have := World.block_lt_of_cell? w _ hcj; rwa [addr_block] at this, ?_⟩
 rw [hcj]
 have : zs[j]? = some zs[j] := List.getElem?_eq_getElem (by omega)
 simp [hj, this] at hu
 simp [List.getD, this, hu]
theorem view_bytes {t e : TypeId} {a : Option Addr} {len cap : Nat} (ht : P.underlying t = some (.slice e)) (he : P.underlying e = some (.int .u8)) (hc : P.cellsOf e = 1)
  (h : DataW.Trod enc P w base (fun _ => true) held t (.slice a len cap) d ps) :
  ∃ s : List Int, s.length = len ∧ len ≤ cap ∧ cap ≤ maxLen ∧ Byt s ∧ Lies w w.heap.size a cap (cellsOf s) := by
 obtain ⟨fuel, hf⟩ := h
 rcases open_ints ht he hc hf with ⟨hcs, _⟩ | ⟨x, l, c, zs, hcs, _, hl, hm, hz, _, hcell, hwz⟩
 ·simp [Value.cells] at hcs
  obtain ⟨rfl, rfl, rfl⟩ := hcs
  exact ⟨[], rfl, Nat.le_refl _, Nat.zero_le _, Byt.nil, Lies.nothing _ _⟩
 ·simp [Value.cells] at hcs
  obtain ⟨rfl, rfl, rfl⟩ := hcs
  have hz' : zs.length = cap := by simpa using hz
  refine ⟨zs.take len, by simp; omega, hl, hm, fun b hb => wf_u8 (hwz b (List.mem_of_mem_take hb)), lies_of_nums hl hz' fun i hi => hcell i (by omega)⟩
theorem reach_bytes {t e : TypeId} {a : Option Addr} {len cap : Nat} (ht : P.underlying t = some (.slice e)) (he : P.underlying e = some (.int .u8)) (hc : P.cellsOf e = 1) (hb : P.bytesOf e = 1)
  (h : DataW.Trod enc P w base (fun _ => true) held t (.slice a len cap) d ps) (hsz : (DataW.weightsEach P ts ds).all (· ≤ reachBytes) = true) {j : Nat} (h1 : ts[j]? = some t) (h2 : ds[j]? = some d) : cap ≤ 140737488351232 := by
 obtain ⟨fuel, hf⟩ := h
 rcases open_ints ht he hc hf with ⟨hcs, _⟩ | ⟨x, l, c, zs, hcs, _, hl, hm, hz, hx, _, _⟩
 ·simp [Value.cells] at hcs
  omega
 ·simp [Value.cells] at hcs
  obtain ⟨rfl, rfl, rfl⟩ := hcs
  have hz' : zs.length = cap := by simpa using hz
  have hd : d = .slice (lits .u8 (zs.take len)) (lits .u8 (zs.drop len)) := by injection hx
  subst hd
  have := sized_slice hsz h1 h2 ht
  rw [hb] at this
  simp only [lits, List.length_map, List.length_take, List.length_drop, reachBytes] at this
  omega
theorem view_nats {t e : TypeId} {a : Option Addr} {len cap : Nat} (ht : P.underlying t = some (.slice e)) (he : P.underlying e = some (.int .u8)) (hc : P.cellsOf e = 1)
  (h : DataW.Trod enc P w base (fun _ => true) held t (.slice a len cap) d ps) :
  ∃ s : List Nat, s.length = len ∧ len ≤ cap ∧ cap ≤ maxLen ∧ Byn s ∧ Lies w w.heap.size a cap (bts s) := by
 obtain ⟨s, h1, h2, h3, h4, h5⟩ := view_bytes ht he hc h
 have hs : ints (s.map Int.toNat) = s := by
  simp only [ints, List.map_map]
  conv => rhs; rw [← List.map_id s]
  refine List.map_congr_left fun x hx => ?_
  have := h4 x hx
  simp
  omega
 refine ⟨s.map Int.toNat, by simpa using h1, h2, h3, fun b hb => ?_, ?_⟩
 ·obtain ⟨x, hx, rfl⟩ := List.mem_map.1 hb
  have := h4 x hx
  omega
 ·unfold bts
  rw [hs]
  exact h5
end
end Go.Proofs.YtcilgkdnjgmogaaGreatDoor
