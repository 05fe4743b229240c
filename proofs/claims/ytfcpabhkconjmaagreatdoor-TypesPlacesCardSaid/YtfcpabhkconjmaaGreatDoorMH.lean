/- What the checks keep in memory: a map that the program itself made, a fault, the checker, a function that says whether a type fits. Conditions: those in each theorem. The small functions of the checks: what a type is, what a sign takes and gives, how many kids and parts there must be. Conditions: what is handed in lies in memory. A name that is declared; the names of a scope, copied. Conditions: the names lie in memory. What 'operatorOf' returns for each sign. Conditions: none. The names of a scope, copied; how many kids and parts there must be. Conditions: the names lie in memory. What operatorOf returns for whatever text. Conditions: none. -/
import Derived.Test.YtfcpabhkconjmaaGreatDoorMA
import Derived.Test.YtfcpabhkconjmaaGreatDoorMC
import Derived.MapKept
import Derived.Carry
import Derived.Shelf.SlMaps.Clone
import Derived.Deep.DeepCutAuto
namespace Go.Proofs.YtfcpabhkconjmaaGreatDoor
section
open Go.RowKit Go.MapKept
set_option linter.unusedVariables false
set_option linter.unusedSimpArgs false
set_option maxRecDepth 100000

/-- the map at block b has these entries, in the order in which they were made -/
def MapAt (w : World) (b : Nat) (es : List (List Nat × Value)) : Prop :=
  ∃ arr clock, w.heap[b]? = some (.map arr clock) ∧ arr.toList.map (fun e => (e.key, e.val)) = es.map (fun p => (Value.string (strN p.1), p.2)) ∧ ∀ p ∈ es, Byn p.1
theorem MapAt.of {w w' : World} {b : Nat} {es : List (List Nat × Value)} (h : MapAt w b es) (hb : w'.heap[b]? = w.heap[b]?) : MapAt w' b es := by
  obtain ⟨arr, clock, h1, h2, h3⟩ := h
  exact ⟨arr, clock, by rw [hb]; exact h1, h2, h3⟩
theorem MapAt.lt {w : World} {b : Nat} {es : List (List Nat × Value)} (h : MapAt w b es) : b < w.heap.size := by
  obtain ⟨arr, clock, h1, _⟩ := h
  exact (Array.getElem?_eq_some_iff.1 h1).1
theorem MapAt.made (w : World) : MapAt (w.alloc (.map #[] 0)) w.heap.size [] := ⟨#[], 0, (MapKept.heap_alloc w _).1, rfl, by simp⟩
theorem beq_strN {a b : List Nat} (ha : Byn a) (hb : Byn b) : (strN a == strN b) = decide (a = b) := by
  by_cases h : a = b
  · subst h; simp [MapKept.bytes_beq]
  · rw [decide_eq_false h, Bool.eq_false_iff]
    intro e
    exact h (strN_inj ha hb ((MapKept.bytes_beq _ _).1 e))
theorem find_seek {s : List Nat} (hs : Byn s) : ∀ (l : List MapEntry) (es : List (List Nat × Value)) (i : Nat), l.map (fun e => (e.key, e.val)) = es.map (fun p => (Value.string (strN p.1), p.2)) → (∀ p ∈ es, Byn p.1) →
    (seek es s = none ∧ Instr.findNow .string (.string (strN s)) l i = some none) ∨ ∃ v j, seek es s = some v ∧ Instr.findNow .string (.string (strN s)) l i = some (some (j, v))
  | [], [], i, _, _ => .inl ⟨rfl, rfl⟩
  | [], p :: es, i, h, _ => by simp at h
  | e :: l, [], i, h, _ => by simp at h
  | e :: l, p :: es, i, h, hb => by
    simp only [List.map_cons, List.cons.injEq, Prod.mk.injEq] at h
    obtain ⟨⟨hk, hv⟩, h⟩ := h
    have hp := hb p (List.mem_cons_self ..)
    have hsn : Instr.sameNow .string (.string (strN s)) e.key = some (decide (s = p.1)) := by rw [hk]; simp [Instr.sameNow, beq_strN hs hp]
    by_cases he : s = p.1
    · rw [decide_eq_true he] at hsn
      refine .inr ⟨e.val, i, ?_, ?_⟩
      · unfold seek
        rw [List.find?_cons_of_pos (by simp [he])]
        rw [hv]; rfl
      · simp only [Instr.findNow, hsn]
    · rw [decide_eq_false he] at hsn
      have hse : seek (p :: es) s = seek es s := by
        unfold seek
        rw [List.find?_cons_of_neg (by simpa using fun e => he e.symm)]
      have hf : Instr.findNow .string (.string (strN s)) (e :: l) i = Instr.findNow .string (.string (strN s)) l (i + 1) := by simp [Instr.findNow, hsn]
      rw [hse, hf]
      exact find_seek hs l es (i + 1) h fun q hq => hb q (List.mem_cons_of_mem _ hq)
theorem run_lookup {w : World} {b : Nat} {es : List (List Nat × Value)} (h : MapAt w b es) {s : List Nat} (hs : Byn s) {t e : TypeId} {z : Value} (ht : Tryz.prog.underlying t = some (.map 9 e)) (hz : (zeroValue e).run Tryz.prog w = .ok z w) :
    (Instr.lookup t (.map (some b)) (.string (strN s)) true).run Tryz.prog w = .ok (.tuple #[(seek es s).getD z, .bool (seek es s).isSome]) w := by
  obtain ⟨arr, clock, h1, h2, h3⟩ := h
  have hd : Tryz.prog.underlying 9 = some .string := Tryz.underlying9
  have hk : IsKey .string (.string (strN s)) := trivial
  rcases find_seek hs arr.toList es 0 h2 h3 with ⟨g1, g2⟩ | ⟨v, j, g1, g2⟩
  · rw [g1]
    simp [Instr.lookup, run_underlying ht, MapKept.run_getObj_map h1, MapKept.run_checkKey hd hk, MapKept.run_findKey hd g2, Result.andThen, hz]
  · rw [g1]
    simp [Instr.lookup, run_underlying ht, MapKept.run_getObj_map h1, MapKept.run_checkKey hd hk, MapKept.run_findKey hd g2, Result.andThen]
theorem run_update {w : World} {b : Nat} {es : List (List Nat × Value)} (h : MapAt w b es) {s : List Nat} (hs : Byn s) (hn : seek es s = none) {t e : TypeId} (ht : Tryz.prog.underlying t = some (.map 9 e)) (v : Value) :
    ∃ w', (Instr.mapUpdate t (.map (some b)) (.string (strN s)) v).run Tryz.prog w = .ok () w' ∧ MapAt w' b (es ++ [(s, v)]) ∧ w.grownBy w' (some b) ∧ w'.heap.size = w.heap.size := by
  obtain ⟨arr, clock, h1, h2, h3⟩ := h
  have hd : Tryz.prog.underlying 9 = some .string := Tryz.underlying9
  have hk : IsKey .string (.string (strN s)) := trivial
  rcases find_seek hs arr.toList es 0 h2 h3 with ⟨g1, g2⟩ | ⟨u, j, g1, g2⟩
  · refine ⟨{ w with heap := w.heap.setIfInBounds b (.map (arr.push { key := .string (strN s), val := v, born := clock }) (clock + 1)) }, ?_, ⟨_, _, (MapKept.heap_set h1).1, ?_, ?_⟩, ⟨rfl, rfl, rfl, by simp, fun i _ hi => (MapKept.heap_set h1).2 i (fun e => hi (by rw [e]))⟩, by simp⟩
    · simp [Instr.mapUpdate, run_underlying ht, MapKept.run_getObj_map h1, MapKept.run_checkKey hd hk, MapKept.run_findKey hd g2, MapKept.run_setObj_map _ h1, Result.andThen]
    · simp [h2]
    · intro p hp
      rcases List.mem_append.1 hp with hp | hp
      · exact h3 p hp
      · simp at hp; subst hp; exact hs
  · rw [hn] at g1; cases g1

theorem below_grown {w w' : World} (h : Below w.heap.size w w') : w.grownBy w' none := ⟨h.os, h.tape, h.output, h.size, fun i hi _ => h.block i hi⟩
theorem grown_below {w w' : World} (h : w.grownBy w' none) : Below w.heap.size w w' := ⟨h.os, h.tape, h.output, h.size, fun i hi => h.block i hi (by intro e; cases e)⟩
theorem grown_any {w w' : World} (h : Below w.heap.size w w') (ro : Option Nat) : w.grownBy w' ro := ⟨h.os, h.tape, h.output, h.size, fun i hi _ => h.block i hi⟩

theorem bthen5 {w w1 w2 : World} {B : Nat} (h : Below B w w1) (h2 : Below w1.heap.size w1 w2) (hB : B ≤ w1.heap.size) : Below B w w2 := h.trans (h2.mono hB)
/-- the blocks below B -/
def Lo (B : Nat) : Nat → Prop := fun k => k < B
/-- no fault, or the one that stands there -/
def FV (w : World) (r : Er) (v : Value) : Prop :=
  match r with
  | none => v = .pointer none
  | some e => ∃ b, v = .pointer (some ⟨b, 0, none⟩) ∧ w.heap[b]? = some (.cells #[.int .i64 e.1, .int .i64 e.2] 73)
def FOut (r : Er) (e : Ending) (w' : World) : Prop := ∃ v, e = .returned v ∧ FV w' r v
def Rt.err : Rt → Er
  | .ok _ => none
  | .bad c p => some (c, p)
def Rt.val : Rt → Int
  | .ok t => t
  | .bad _ _ => 0
def TOut (r : Rt) (e : Ending) (w' : World) : Prop := ∃ v, e = .returned (.tuple #[.int .i64 r.val, v]) ∧ FV w' r.err v
theorem FV.lt {w : World} {e : Int × Int} {v : Value} (h : FV w (some e) v) : ∃ b, v = .pointer (some ⟨b, 0, none⟩) ∧ b < w.heap.size ∧ w.heap[b]? = some (.cells #[.int .i64 e.1, .int .i64 e.2] 73) := by
  obtain ⟨b, h1, h2⟩ := h
  exact ⟨b, h1, (Array.getElem?_eq_some_iff.1 h2).1, h2⟩
theorem FV.below {w w' : World} {r : Er} {v : Value} (h : FV w r v) (hb : Below w.heap.size w w') : FV w' r v := by
  cases r with
  | none => exact h
  | some e =>
    obtain ⟨b, h1, h3, h2⟩ := h.lt
    exact ⟨b, h1, by rw [hb.block b h3]; exact h2⟩
theorem fv_new (w : World) (c p : Int) : FV (w.alloc (.cells #[.int .i64 c, .int .i64 p] 73)) (some (c, p)) (.pointer (some ⟨w.heap.size, 0, none⟩)) := ⟨_, rfl, heap_alloc_new w _⟩

/-- a function of functions' parameters by name, as the program keeps it -/
def tabC (fs : List Xf) (ks : List Two) : List (List Nat × Value) := List.zipWith (fun f k => (f.name, .agg (xfC f k.p k.b).toArray)) fs ks
/-- the checker at block cB, with the functions fs (their map at block g), and the result of the function that is checked -/
structure Cx (w : World) (B cB g : Nat) (fs : List Xf) (res : Int) : Prop where
  cell : w.heap[cB]? = some (.cells #[.map (some g), .int .i64 res] 124)
  tab : ∃ ks : List Two, ks.length = fs.length ∧ MapAt w g (tabC fs ks) ∧ ∀ (i : Nat) (f : Xf) (k : Two), fs[i]? = some f → ks[i]? = some k → RowF w (Lo B) f.params.length (xpsC f.params) k.p ∧ ∃ A n c, k.b = .slice A n c
  hc : B ≤ cB
  hg : B ≤ g
theorem Cx.lt {w : World} {B cB g : Nat} {fs : List Xf} {res : Int} (h : Cx w B cB g fs res) : cB < w.heap.size ∧ g < w.heap.size := by
  obtain ⟨h1, ⟨ks, _, h2, _⟩, _, _⟩ := h
  exact ⟨(Array.getElem?_eq_some_iff.1 h1).1, h2.lt⟩
theorem Cx.of {w w' : World} {B cB g : Nat} {fs : List Xf} {res : Int} (h : Cx w B cB g fs res) (h1 : w'.heap[cB]? = w.heap[cB]?) (h2 : w'.heap[g]? = w.heap[g]?) (h3 : Same (Lo B) w w') : Cx w' B cB g fs res := by
  obtain ⟨c, ⟨ks, e1, e2, e3⟩, a, b⟩ := h
  exact ⟨by rw [h1]; exact c, ⟨ks, e1, e2.of h2, fun i f k hf hk => ⟨(e3 i f k hf hk).1.same h3, (e3 i f k hf hk).2⟩⟩, a, b⟩
theorem same_below {w w' : World} {B : Nat} (h : Below w.heap.size w w') (hB : B ≤ w.heap.size) : Same (Lo B) w w' := fun k hk => h.block k (by unfold Lo at hk; omega)
theorem Cx.below {w w' : World} {B cB g : Nat} {fs : List Xf} {res : Int} (h : Cx w B cB g fs res) (hb : Below w.heap.size w w') : Cx w' B cB g fs res :=
  h.of (hb.block _ h.lt.1) (hb.block _ h.lt.2) (same_below hb (by have := h.lt; have := h.hc; omega))
theorem Cx.moves {w w' : World} {B cB g b : Nat} {fs : List Xf} {res : Int} (h : Cx w B cB g fs res) (hb : w.grownBy w' (some b)) (h1 : cB ≠ b) (h2 : g ≠ b) (h3 : B ≤ b) : Cx w' B cB g fs res :=
  h.of (hb.block _ h.lt.1 (by intro e; injection e with e; exact h1 e)) (hb.block _ h.lt.2 (by intro e; injection e with e; exact h2 e)) fun k hk => hb.block k (by have := h.lt; have := h.hc; unfold Lo at hk; omega) (by intro e; injection e with e; unfold Lo at hk; omega)
/-- the names in scope, as the program keeps them -/
def scC (sc : Scope) : List (List Nat × Value) := sc.map fun p => (p.1, .agg #[.int .i64 p.2.1, .bool p.2.2])
def Sco (w : World) (b : Nat) (sc : Scope) : Prop := MapAt w b (scC sc)
theorem Sco.below {w w' : World} {b : Nat} {sc : Scope} (h : Sco w b sc) (hb : Below w.heap.size w w') : Sco w' b sc := MapAt.of h (hb.block _ (MapAt.lt h))
theorem seek_map {α β : Type} (f : α → β) (s : List Nat) : ∀ l : List (List Nat × α), seek (l.map fun p => (p.1, f p.2)) s = (seek l s).map f
  | [] => rfl
  | p :: l => by
    unfold seek
    by_cases h : p.1 = s
    · rw [List.map_cons, List.find?_cons_of_pos (by simpa using h), List.find?_cons_of_pos (by simpa using h)]; rfl
    · rw [List.map_cons, List.find?_cons_of_neg (by simpa using h), List.find?_cons_of_neg (by simpa using h)]
      exact seek_map f s l
theorem seek_sc (sc : Scope) (s : List Nat) : seek (scC sc) s = (seek sc s).map fun d => .agg #[.int .i64 d.1, .bool d.2] := seek_map (fun d : Int × Bool => Value.agg #[.int .i64 d.1, .bool d.2]) s sc
theorem seek_tab (s : List Nat) : ∀ (fs : List Xf) (ks : List Two), ks.length = fs.length → (fs.find? (fun f => f.name == s) = none ∧ seek (tabC fs ks) s = none) ∨ ∃ (i : Nat) (f : Xf) (k : Two), fs[i]? = some f ∧ ks[i]? = some k ∧ fs.find? (fun f => f.name == s) = some f ∧ seek (tabC fs ks) s = some (.agg (xfC f k.p k.b).toArray)
  | [], [], _ => .inl ⟨rfl, rfl⟩
  | [], k :: ks, h => by simp at h
  | f :: fs, [], h => by simp at h
  | f :: fs, k :: ks, h => by
    by_cases he : f.name = s
    · refine .inr ⟨0, f, k, rfl, rfl, ?_, ?_⟩
      · rw [List.find?_cons_of_pos (by simpa using he)]
      · unfold seek tabC
        rw [List.zipWith_cons_cons, List.find?_cons_of_pos (by simpa using he)]; rfl
    · have e1 : (f :: fs).find? (fun f => f.name == s) = fs.find? (fun f => f.name == s) := by rw [List.find?_cons_of_neg (by simpa using he)]
      have e2 : seek (tabC (f :: fs) (k :: ks)) s = seek (tabC fs ks) s := by
        unfold seek tabC
        rw [List.zipWith_cons_cons, List.find?_cons_of_neg (by simpa using he)]
      rw [e1, e2]
      rcases seek_tab s fs ks (by simpa using h) with h | ⟨i, f', k', h1, h2, h3, h4⟩
      · exact .inl h
      · exact .inr ⟨i + 1, f', k', by simpa using h1, by simpa using h2, h3, h4⟩

/-- a function value that says whether a type fits, as long as its own blocks (from lo on) stay -/
def FitL (w : World) (lo : Nat) (v : Value) (f : Int → Bool) : Prop :=
  ∃ fn caps, ∃ D : Nat → Prop, v = .func (.func fn) #[] caps ∧ Ent fn ∧ (∀ k, D k → lo ≤ k ∧ k < w.heap.size) ∧ ∀ (t : Int) (w1 : World), Same D w w1 → w.heap.size ≤ w1.heap.size → Calls Tryz.prog fn (#[.int .i64 t] ++ caps) w1 fun e w' => e = .returned (.bool (f t)) ∧ Below w1.heap.size w1 w'
abbrev FitV (w : World) (v : Value) (f : Int → Bool) : Prop := FitL w 0 v f
theorem Same.trans5 {D : Nat → Prop} {a b c : World} (h : Same D a b) (h2 : Same D b c) : Same D a c := fun k hk => (h2 k hk).trans (h k hk)
theorem FitL.same {w w' : World} {lo : Nat} {v : Value} {f : Int → Bool} (h : FitL w lo v f) (hs : ∀ k, lo ≤ k → k < w.heap.size → w'.heap[k]? = w.heap[k]?) (hz : w.heap.size ≤ w'.heap.size) : FitL w' lo v f := by
  obtain ⟨fn, caps, D, h1, h2, h3, h4⟩ := h
  exact ⟨fn, caps, D, h1, h2, fun k hk => ⟨(h3 k hk).1, Nat.lt_of_lt_of_le (h3 k hk).2 hz⟩, fun t w1 g1 g2 => h4 t w1 (fun k hk => (g1 k hk).trans (hs k (h3 k hk).1 (h3 k hk).2)) (Nat.le_trans hz g2)⟩
theorem FitL.below {w w' : World} {lo : Nat} {v : Value} {f : Int → Bool} (h : FitL w lo v f) (hb : Below w.heap.size w w') : FitL w' lo v f := h.same (fun k _ hk => hb.block k hk) hb.size
theorem FitL.less {w : World} {lo : Nat} {v : Value} {f : Int → Bool} (h : FitL w lo v f) : FitV w v f := by
  obtain ⟨fn, caps, D, h1, h2, h3, h4⟩ := h
  exact ⟨fn, caps, D, h1, h2, fun k hk => ⟨Nat.zero_le _, (h3 k hk).2⟩, h4⟩
/-- a function value that gives a type for a type, likewise -/
def GivL (w : World) (lo : Nat) (v : Value) (f : Int → Int) : Prop :=
  ∃ fn caps, ∃ D : Nat → Prop, v = .func (.func fn) #[] caps ∧ Ent fn ∧ (∀ k, D k → lo ≤ k ∧ k < w.heap.size) ∧ ∀ (t : Int) (w1 : World), Same D w w1 → w.heap.size ≤ w1.heap.size → Calls Tryz.prog fn (#[.int .i64 t] ++ caps) w1 fun e w' => e = .returned (.int .i64 (f t)) ∧ Below w1.heap.size w1 w'
abbrev GivV (w : World) (v : Value) (f : Int → Int) : Prop := GivL w 0 v f
theorem GivL.same {w w' : World} {lo : Nat} {v : Value} {f : Int → Int} (h : GivL w lo v f) (hs : ∀ k, lo ≤ k → k < w.heap.size → w'.heap[k]? = w.heap[k]?) (hz : w.heap.size ≤ w'.heap.size) : GivL w' lo v f := by
  obtain ⟨fn, caps, D, h1, h2, h3, h4⟩ := h
  exact ⟨fn, caps, D, h1, h2, fun k hk => ⟨(h3 k hk).1, Nat.lt_of_lt_of_le (h3 k hk).2 hz⟩, fun t w1 g1 g2 => h4 t w1 (fun k hk => (g1 k hk).trans (hs k (h3 k hk).1 (h3 k hk).2)) (Nat.le_trans hz g2)⟩
theorem GivL.below {w w' : World} {lo : Nat} {v : Value} {f : Int → Int} (h : GivL w lo v f) (hb : Below w.heap.size w w') : GivL w' lo v f := h.same (fun k _ hk => hb.block k hk) hb.size
theorem GivL.less {w : World} {lo : Nat} {v : Value} {f : Int → Int} (h : GivL w lo v f) : GivV w v f := by
  obtain ⟨fn, caps, D, h1, h2, h3, h4⟩ := h
  exact ⟨fn, caps, D, h1, h2, fun k hk => ⟨Nat.zero_le _, (h3 k hk).2⟩, h4⟩
theorem same_one {w w1 : World} {k : Nat} (h : Same (fun j => j = k) w w1) : w1.heap[k]? = w.heap[k]? := h k rfl
/-- a text held against a constant -/
theorem eqLit {text : List Nat} (ht : Byn text) (l : List Nat) (hl : Byn l) : ((strN text).toList == l.map UInt8.ofNat) = decide (text = l) := by
  rw [show l.map UInt8.ofNat = (strN l).toList by rw [ByteArray.toList_eq, strN_data]]
  exact strN_eq ht hl
/-- an expression, a statement, as a value -/
def XeV (w : World) (D : Nat → Prop) (e : Xe) (v : Value) : Prop := ∃ k, v = .agg (xeC e k).toArray ∧ Byn e.text ∧ XesC w D e.kids k
theorem XeV.same {w w' : World} {D : Nat → Prop} {e : Xe} {v : Value} (h : XeV w D e v) (hs : Same D w w') : XeV w' D e v := by
  obtain ⟨k, h1, h2, h3⟩ := h
  exact ⟨k, h1, h2, h3.same hs⟩
def XsV (w : World) (D : Nat → Prop) (s : Xs) (v : Value) : Prop := ∃ k : Three, v = .agg (xsC s k.e k.b k.f).toArray ∧ Byn s.text ∧ XesC w D s.exprs k.e ∧ XssC w D s.body k.b ∧ XssC w D s.els k.f
theorem XsV.same {w w' : World} {D : Nat → Prop} {e : Xs} {v : Value} (h : XsV w D e v) (hs : Same D w w') : XsV w' D e v := by
  obtain ⟨k, h1, h2, h3, h4, h5⟩ := h
  exact ⟨k, h1, h2, h3.same hs, h4.same hs, h5.same hs⟩
end

section
open Go.RowKit
set_option maxRecDepth 100000
set_option linter.unusedSimpArgs false
set_option linter.unusedVariables false

theorem hmf5 : ∀ (fn : Fn) (first cap : Array Value) (w : World), (Instr.makeFunc fn first cap).run Tryz.prog w = .ok (.func fn first cap) w := fun _ _ _ _ => rfl
theorem ret_b {a b : Bool} (h : a = b) : Ending.returned (.bool a) = .returned (.bool b) := by rw [h]
set_option maxHeartbeats 400000 in
theorem knownC (t : Int) (w : World) : Calls Tryz.prog 81 #[.int .i64 t] w fun e w' => e = .returned (.bool (knownR t)) ∧ w' = w := by
  by_cases h0 : t = 0
  · subst h0; go_enter Tryz.func81, Tryz.ntmps81; go_wp2; go_ret; exact ⟨rfl, rfl⟩
  by_cases h1 : t = 1
  · subst h1; go_enter Tryz.func81, Tryz.ntmps81; go_wp2; go_ret; exact ⟨rfl, rfl⟩
  by_cases h2 : t = 2
  · subst h2; go_enter Tryz.func81, Tryz.ntmps81; go_wp2; go_ret; exact ⟨rfl, rfl⟩
  by_cases h3 : t = 3
  · subst h3; go_enter Tryz.func81, Tryz.ntmps81; go_wp2; go_ret; exact ⟨rfl, rfl⟩
  have q0 : (t == 0) = false := by rw [beq_eq_false_iff_ne]; exact h0
  have q1 : (t == 1) = false := by rw [beq_eq_false_iff_ne]; exact h1
  have q2 : (t == 2) = false := by rw [beq_eq_false_iff_ne]; exact h2
  have q3 : (t == 3) = false := by rw [beq_eq_false_iff_ne]; exact h3
  have HE : Hid (knownR t = false) := by show _ = _; simp [knownR, q0, q1, q2, q3]
  clear h0 h1 h2 h3
  go_enter Tryz.func81, Tryz.ntmps81
  go_wp2
  go_ret
  exact ⟨by rw [HE.out]; rfl, rfl⟩
set_option maxHeartbeats 400000 in
theorem isValueC (t : Int) (w : World) : Calls Tryz.prog 139 #[.int .i64 t] w fun e w' => e = .returned (.bool (t != 0)) ∧ w' = w := by
  go_enter Tryz.func139, Tryz.ntmps139
  go_wp2
  go_ret
  exact ⟨rfl, rfl⟩
theorem isValueV (w : World) (lo : Nat) : FitL w lo (.func (.func 139) #[] #[]) (fun t => t != 0) :=
  ⟨139, #[], fun _ => False, rfl, by intro args w; simp, fun k hk => hk.elim, fun t w1 _ _ => (isValueC t w1).mono fun e w' ⟨h1, h2⟩ => ⟨h1, by subst h2; exact Below.refl _ _⟩⟩
set_option maxHeartbeats 400000 in
theorem is1C (t x : Int) (B : Nat) (w : World) (hc : w.cell? ⟨B, 0, none⟩ = some (.int .i64 x)) : Calls Tryz.prog 145 #[.int .i64 t, .pointer (some ⟨B, 0, none⟩)] w fun e w' => e = .returned (.bool (t == x)) ∧ w' = w := by
  go_enter Tryz.func145, Tryz.ntmps145
  go_wp2
  go_ret
  exact ⟨rfl, rfl⟩
set_option maxHeartbeats 400000 in
theorem isC (x : Int) (w : World) : Calls Tryz.prog 125 #[.int .i64 x] w fun e w' => ∃ v, e = .returned v ∧ FitL w' w.heap.size v (fun t => t == x) ∧ Below w.heap.size w w' := by
  have hmf := hmf5
  go_enter Tryz.func125, Tryz.ntmps125
  go_wp2
  go_ret
  refine ⟨_, rfl, ⟨145, #[.pointer (some ⟨w.heap.size, 0, none⟩)], fun k => k = w.heap.size, rfl, by intro args w; simp, fun k hk => by subst hk; simp, fun t w1 hb _ => ?_⟩, below_alloc _ _⟩
  refine (is1C t x w.heap.size w1 ?_).mono fun e w' ⟨h1, h2⟩ => ⟨h1, by subst h2; exact Below.refl _ _⟩
  rw [World.cell?_of_block (same_one hb), cell_of_row _ _ _ _ _ _ (heap_alloc_new w _)]
  rfl
set_option maxHeartbeats 400000 in
theorem joinsC (t : Int) (w : World) : Calls Tryz.prog 186 #[.int .i64 t] w fun e w' => e = .returned (.bool (t == 1 || t == 3)) ∧ w' = w := by
  by_cases h1 : t = 1
  · subst h1; go_enter Tryz.func186, Tryz.ntmps186; go_wp2; go_ret; exact ⟨rfl, rfl⟩
  have q1 : (t == 1) = false := by rw [beq_eq_false_iff_ne]; exact h1
  have HE : Hid ((t == 1 || t == 3) = (t == 3)) := by show _ = _; rw [q1, Bool.false_or]
  clear h1
  go_enter Tryz.func186, Tryz.ntmps186
  go_wp2
  go_ret
  exact ⟨by rw [HE.out]; rfl, rfl⟩
theorem joinsV (w : World) (lo : Nat) : FitL w lo (.func (.func 186) #[] #[]) (fun t => t == 1 || t == 3) :=
  ⟨186, #[], fun _ => False, rfl, by intro args w; simp, fun k hk => hk.elim, fun t w1 _ _ => (joinsC t w1).mono fun e w' ⟨h1, h2⟩ => ⟨h1, by subst h2; exact Below.refl _ _⟩⟩
set_option maxHeartbeats 400000 in
theorem sameTC (t : Int) (w : World) : Calls Tryz.prog 187 #[.int .i64 t] w fun e w' => e = .returned (.int .i64 t) ∧ w' = w := by
  go_enter Tryz.func187, Tryz.ntmps187
  go_wp2
  go_ret
  exact ⟨rfl, rfl⟩
theorem sameTV (w : World) (lo : Nat) : GivL w lo (.func (.func 187) #[] #[]) (fun t => t) :=
  ⟨187, #[], fun _ => False, rfl, by intro args w; simp, fun k hk => hk.elim, fun t w1 _ _ => (sameTC t w1).mono fun e w' ⟨h1, h2⟩ => ⟨h1, by subst h2; exact Below.refl _ _⟩⟩
set_option maxHeartbeats 400000 in
theorem always1C (t x : Int) (B : Nat) (w : World) (hc : w.cell? ⟨B, 0, none⟩ = some (.int .i64 x)) : Calls Tryz.prog 185 #[.int .i64 t, .pointer (some ⟨B, 0, none⟩)] w fun e w' => e = .returned (.int .i64 x) ∧ w' = w := by
  go_enter Tryz.func185, Tryz.ntmps185
  go_wp2
  go_ret
  exact ⟨rfl, rfl⟩
set_option maxHeartbeats 400000 in
theorem alwaysC (x : Int) (w : World) : Calls Tryz.prog 184 #[.int .i64 x] w fun e w' => ∃ v, e = .returned v ∧ GivL w' w.heap.size v (fun _ => x) ∧ Below w.heap.size w w' := by
  have hmf := hmf5
  go_enter Tryz.func184, Tryz.ntmps184
  go_wp2
  go_ret
  refine ⟨_, rfl, ⟨185, #[.pointer (some ⟨w.heap.size, 0, none⟩)], fun k => k = w.heap.size, rfl, by intro args w; simp, fun k hk => by subst hk; simp, fun t w1 hb _ => ?_⟩, below_alloc _ _⟩
  refine (always1C t x w.heap.size w1 ?_).mono fun e w' ⟨h1, h2⟩ => ⟨h1, by subst h2; exact Below.refl _ _⟩
  rw [World.cell?_of_block (same_one hb), cell_of_row _ _ _ _ _ _ (heap_alloc_new w _)]
  rfl
set_option maxHeartbeats 800000 in
theorem unaryC (op num : Int) (text : List Nat) (k : Value) (place : Int) (w : World) (ht : Byn text) : Calls Tryz.prog 176 #[.agg #[.int .i64 op, .int .i64 num, .string (strN text), k, .int .i64 place]] w fun e w' => e = .returned (.tuple #[.int .i64 (unaryR op text).1, .int .i64 (unaryR op text).2]) ∧ Below w.heap.size w w' := by
  by_cases h8 : op = 8
  · subst h8; go_enter Tryz.func176, Tryz.ntmps176; go_wp2; go_ret2; exact ⟨rfl, below_alloc _ _⟩
  by_cases h9 : op = 9
  · subst h9; go_enter Tryz.func176, Tryz.ntmps176; go_wp2; go_ret2; exact ⟨rfl, below_alloc _ _⟩
  by_cases h10 : op = 10
  · subst h10; go_enter Tryz.func176, Tryz.ntmps176; go_wp2; go_ret2; exact ⟨rfl, below_alloc _ _⟩
  have q8 : (op == 8) = false := by rw [beq_eq_false_iff_ne]; exact h8
  have q9 : (op == 9) = false := by rw [beq_eq_false_iff_ne]; exact h9
  have q10 : (op == 10) = false := by rw [beq_eq_false_iff_ne]; exact h10
  have hq : ((strN text).toList == [45]) = decide (text = [45]) := eqLit ht [45] (by unfold Byn; decide)
  by_cases ht1 : text = [45]
  · have HE : Hid (unaryR op text = (1, 1)) := by show _ = _; unfold unaryR; rw [if_neg h8, if_neg h9, if_neg h10, if_pos ht1]
    rw [decide_eq_true ht1] at hq
    clear h8 h9 h10 ht1 ht
    go_enter Tryz.func176, Tryz.ntmps176
    go_wp2
    go_ret2
    exact ⟨by rw [HE.out]; rfl, below_alloc _ _⟩
  · have HE : Hid (unaryR op text = (2, 2)) := by show _ = _; unfold unaryR; rw [if_neg h8, if_neg h9, if_neg h10, if_neg ht1]
    rw [decide_eq_false ht1] at hq
    clear h8 h9 h10 ht1 ht
    go_enter Tryz.func176, Tryz.ntmps176
    go_wp2
    go_ret2
    exact ⟨by rw [HE.out]; rfl, below_alloc _ _⟩
end

section
open Go.RowKit
set_option maxRecDepth 100000
set_option linter.unusedSimpArgs false
set_option linter.unusedVariables false


theorem fv_at (w : World) (c p : Int) (n : Nat) (hn : n = w.heap.size) : FV (w.alloc (.cells #[.int .i64 c, .int .i64 p] 73)) (some (c, p)) (.pointer (some ⟨n, 0, none⟩)) := by subst hn; exact fv_new w c p
theorem Sco.of {w w' : World} {b : Nat} {sc : Scope} (h : Sco w b sc) (hb : w'.heap[b]? = w.heap[b]?) : Sco w' b sc := MapAt.of h hb
theorem Sco.lt {w : World} {b : Nat} {sc : Scope} (h : Sco w b sc) : b < w.heap.size := MapAt.lt h
theorem run_look118 {w : World} {b : Nat} {sc : Scope} (h : Sco w b sc) {s : List Nat} (hs : Byn s) :
    (Instr.lookup 118 (.map (some b)) (.string (strN s)) true).run Tryz.prog w = .ok (.tuple #[(((seek sc s).map fun d => Value.agg #[.int .i64 d.1, .bool d.2]).getD (.agg #[.int .i64 0, .bool false])), .bool (seek sc s).isSome]) w := by
  have hz : (zeroValue 140).run Tryz.prog w = .ok (.agg #[.int .i64 0, .bool false]) w := by simp [Tryz.zeroValue140]
  have := run_lookup h hs Tryz.underlying118 hz
  rw [seek_sc] at this
  rw [this]
  cases seek sc s <;> rfl
theorem eql_map (d : Nat) (p : Option Nat) (w : World) : (Op.equalIn (d + 1) 118 (.map p) (.map none)).run Tryz.prog w = .ok p.isNone w := by
  cases p <;> simp [Op.equalIn, run_underlying Tryz.underlying118]

set_option maxHeartbeats 800000 in
theorem declareC (b : Nat) (sc : Scope) (s : List Nat) (hs : Byn s) (k : Int) (l : Bool) (place : Int) (w : World) (h : Sco w b sc) :
    Calls Tryz.prog 102 #[.map (some b), .string (strN s), .agg #[.int .i64 k, .bool l], .int .i64 place] w fun e w' => FOut (declareR sc s (k, l) place).1 e w' ∧ Sco w' b (declareR sc s (k, l) place).2 ∧ w.grownBy w' (some b) := by
  have hl := h.lt
  go_enter Tryz.func102, Tryz.ntmps102
  go_upto_region 1 with fail
  have BW := Lib.hid (below_alloc w (.cells #[.int .i64 k, .bool l] 140))
  have HS := Lib.hid (h.below BW.out)
  have c0 : (w.alloc (.cells #[.int .i64 k, .bool l] 140)).cell? ⟨w.heap.size, 0, none⟩ = some (.int .i64 k) := by rw [cell_of_row _ _ _ _ _ _ (heap_alloc_new w _)]; rfl
  have c1 : (w.alloc (.cells #[.int .i64 k, .bool l] 140)).cell? ⟨w.heap.size, 1, none⟩ = some (.bool l) := by rw [cell_of_row _ _ _ _ _ _ (heap_alloc_new w _)]; rfl
  generalize w.alloc (.cells #[.int .i64 k, .bool l] 140) = w0 at *
  have hrun := run_look118 HS.out hs
  cases hk : seek sc s with
  | some d =>
    rw [hk] at hrun
    simp only [Option.map_some, Option.getD_some, Option.isSome_some] at hrun
    have HE : Hid (declareR sc s (k, l) place = (some (53, place), sc)) := by show _ = _; simp [declareR, hk]
    clear hk h hl
    go_wp2
    go_ret
    refine ⟨⟨_, rfl, ?_⟩, ?_, ?_⟩
    · rw [HE.out]
      exact fv_at _ 53 place _ (by simp)
    · rw [HE.out]
      exact (HS.out.below (below_alloc _ _)).below (below_alloc _ _)
    · exact grown_any (bthen5 BW.out (bthen5 (below_alloc _ _) (below_alloc _ _) (by simp)) BW.out.size) _
  | none =>
    rw [hk] at hrun
    simp only [Option.map_none, Option.getD_none, Option.isSome_none] at hrun
    have HN := Lib.hid hk
    have HE : Hid (declareR sc s (k, l) place = (none, sc ++ [(s, (k, l))])) := by show _ = _; simp [declareR, hk]
    go_upto_region 4 with fail
    have BX := Lib.hid (below_alloc w0 (.cells #[.int .i64 0, .bool false] 140))
    have HL : Hid (w.heap.size < w0.heap.size) := World.block_lt_of_cell? w0 _ c0
    have c0' : (w0.alloc (.cells #[.int .i64 0, .bool false] 140)).cell? ⟨w.heap.size, 0, none⟩ = some (.int .i64 k) := by rw [BX.out.cell (by exact HL.out)]; exact c0
    have c1' : (w0.alloc (.cells #[.int .i64 0, .bool false] 140)).cell? ⟨w.heap.size, 1, none⟩ = some (.bool l) := by rw [BX.out.cell (by exact HL.out)]; exact c1
    have HS1 := Lib.hid (HS.out.below BX.out)
    have B1 := Lib.hid (bthen5 BW.out BX.out BW.out.size)
    clear c0 c1 hrun hl HS BX h HL BW hk
    generalize w0.alloc (.cells #[.int .i64 0, .bool false] 140) = w1 at *
    obtain ⟨w2, hup, hm, hg, hz⟩ := run_update HS1.out hs (by rw [seek_sc]; show Option.map _ (seek sc s) = none; rw [show seek sc s = none from HN.out]; rfl) Tryz.underlying118 (.agg #[.int .i64 k, .bool l])
    have HM := Lib.hid hm
    have HG := Lib.hid hg
    clear hm hg hz HS1
    go_wp2
    go_ret
    rw [HE.out]
    exact ⟨⟨_, rfl, rfl⟩, by have := HM.out; unfold Sco scC; rw [List.map_append]; exact this, grown_trans (grown_any B1.out _) HG.out⟩
end

section
open Go.RowKit
set_option maxRecDepth 100000
set_option linter.unusedSimpArgs false
set_option linter.unusedVariables false

theorem info187s : (Tryz.prog.info? 187).map (·.size) = some 2 := by kernel_rfl

theorem range_below5 {w w' : World} {B g : Nat} {cs : List Value} (h : w.rangeAt g 0 cs) (hb : Below B w w') (hg : g < B) : w'.rangeAt g 0 cs := by
  intro j v hv
  rw [hb.cell (by exact hg)]
  exact h j v hv
theorem there_below5 {w w' : World} {B g n : Nat} (h : w.there g 0 n) (hb : Below B w w') (hg : g < B) : w'.there g 0 n := by
  intro j hj
  have e := hb.block g hg
  refine ⟨?_, ?_⟩
  · rw [hb.cell (by exact hg)]; exact (h j hj).1
  · have := (h j hj).2
    unfold World.frozen? at this ⊢
    rw [e]; exact this
theorem ret_cell25 {fn : Func} {s T u : Nat} {d : TypeDesc} {cs : List Value} (h : fn.results = #[.cell s T, .tmp u]) (hu : Tryz.prog.underlying T = some d) (hd : d.isRow = true) (hi : (Tryz.prog.info? T).map (·.size) = some cs.length) (tmps : Array Value) (w : World) (g : Nat) (hp : tmps.getD s undef = .pointer (some ⟨g, 0, none⟩)) (hr : w.rangeAt g 0 cs) :
    (results fn tmps).run Tryz.prog w = .ok (.tuple #[.agg cs.toArray, tmps.getD u undef]) w := by
  have hp' : tmps[s]?.getD undef = .pointer (some ⟨g, 0, none⟩) := by simpa using hp
  have h1 := run_loadVar_mid (P := Tryz.prog) w g 0 T cs _ hr hu hd hi
  simp [results, h, hp', asAddr, h1]
/-- what it returns for a sign that there is -/
def Signed (g : Sg) (w : World) (e : Ending) (w' : World) : Prop :=
  ∃ v1 v2, e = .returned (.tuple #[.agg #[v1, v2], .bool true]) ∧ FitV w' v1 g.takes ∧ GivV w' v2 g.gives ∧ Below w.heap.size w w'
theorem fit_one {w : World} {lo : Nat} {v : Value} {f : Int → Bool} (h : FitL w lo v f) : v.oneCell' = true := by obtain ⟨fn, caps, D, rfl, _⟩ := h; rfl
theorem giv_one {w : World} {lo : Nat} {v : Value} {f : Int → Int} (h : GivL w lo v f) : v.oneCell' = true := by obtain ⟨fn, caps, D, rfl, _⟩ := h; rfl
abbrev opO : Obj := .cells #[.nilFunc, .nilFunc] 187
theorem there_op (w : World) : (w.alloc opO).there w.heap.size 0 2 := there_cells (cs := [.nilFunc, .nilFunc]) (heap_alloc_new w _) rfl
theorem stored {g : Nat} {w w' : World} (h : ∀ k, k ≠ g → w'.heap[k]? = w.heap[k]?) (k : Nat) (hk : g + 1 ≤ k) : w'.heap[k]? = w.heap[k]? := h k (by omega)
set_option maxHeartbeats 800000 in
theorem sign_plus (w : World) : Calls Tryz.prog 175 #[.string ⟨#[43]⟩] w (Signed ⟨fun t => t == 1 || t == 3, fun t => t⟩ w) := by
  have hmf := hmf5
  go_enter Tryz.func175, Tryz.ntmps175
  go_wp2_with (refine wpList_storeN info187s rfl (.tmp 2) (.tmp 10) rfl rfl w.heap.size rfl [_, _] rfl rfl (there_op w) (by simp [Value.oneCell']) ?_; intro w2 g1 g2 g3 g4 g5)
  refine bodyPost_ret (ret_cell25 (cs := [_, _]) Tryz.results175 Tryz.underlying187 rfl info187s _ _ w.heap.size rfl g1) rfl ?_
  exact ⟨_, _, rfl, joinsV _ _, sameTV _ _, (below_alloc w opO).trans g3⟩
set_option maxHeartbeats 800000 in
theorem sign_minus (w : World) : Calls Tryz.prog 175 #[.string ⟨#[45]⟩] w (Signed ⟨fun t => t == 1, fun _ => 1⟩ w) := by
  have hmf := hmf5
  have I := Lib.hid (isC 1)
  have A := Lib.hid (alwaysC 1)
  have HT := Lib.hid (there_op w)
  have BO := Lib.hid (below_alloc w opO)
  have SO : Hid (w.heap.size + 1 ≤ (w.alloc opO).heap.size) := by show _ ≤ _; simp
  go_enter Tryz.func175, Tryz.ntmps175
  go_wp2_with fail
  generalize w.alloc (Obj.cells #[Value.nilFunc, Value.nilFunc] 187) = w0 at *
  with_reducible refine (I.out _).mono ?_
  rintro e w1 ⟨v1, rfl, f1, b1⟩
  have F1 : Hid (FitL w1 (w.heap.size + 1) v1 (fun t => t == 1)) := by
    obtain ⟨fn, caps, D, h1, h2, h3, h4⟩ := f1
    exact ⟨fn, caps, D, h1, h2, fun k hk => ⟨Nat.le_trans SO.out (h3 k hk).1, (h3 k hk).2⟩, h4⟩
  have B1 := Lib.hid (bthen5 BO.out b1 BO.out.size)
  have T1 := Lib.hid (there_below5 HT.out b1 SO.out)
  have S1 : Hid (w.heap.size + 1 ≤ w1.heap.size) := Nat.le_trans SO.out b1.size
  obtain ⟨fn1, caps1, D1, rfl, _⟩ := f1
  clear b1 BO HT SO
  go_wp2_with fail
  with_reducible refine (A.out _).mono ?_
  rintro e w2 ⟨v2, rfl, f2, b2⟩
  have F2 : Hid (GivL w2 (w.heap.size + 1) v2 (fun _ => 1)) := by
    obtain ⟨fn, caps, D, h1, h2, h3, h4⟩ := f2
    exact ⟨fn, caps, D, h1, h2, fun k hk => ⟨Nat.le_trans S1.out (h3 k hk).1, (h3 k hk).2⟩, h4⟩
  have B2 := Lib.hid (bthen5 B1.out b2 B1.out.size)
  have T2 := Lib.hid (there_below5 T1.out b2 S1.out)
  have F3 := Lib.hid (F1.out.below b2)
  obtain ⟨fn2, caps2, D2, rfl, _⟩ := f2
  clear b2 F1 B1 T1 S1
  go_wp2_with (refine wpList_storeN info187s rfl (.tmp 2) (.tmp 19) rfl rfl w.heap.size rfl [_, _] rfl rfl T2.out (by simp [Value.oneCell']) ?_; intro w3 g1 g2 g3 g4 g5)
  refine bodyPost_ret (ret_cell25 (cs := [_, _]) Tryz.results175 Tryz.underlying187 rfl info187s _ _ w.heap.size rfl g1) rfl ?_
  exact ⟨_, _, rfl, (F3.out.same (fun k h1 _ => stored g4 k h1) (Nat.le_of_eq g5.symm)).less, (F2.out.same (fun k h1 _ => stored g4 k h1) (Nat.le_of_eq g5.symm)).less, B2.out.trans g3⟩
set_option maxHeartbeats 800000 in
theorem sign_times (w : World) : Calls Tryz.prog 175 #[.string ⟨#[42]⟩] w (Signed ⟨fun t => t == 1, fun _ => 1⟩ w) := by
  have hmf := hmf5
  have I := Lib.hid (isC 1)
  have A := Lib.hid (alwaysC 1)
  have HT := Lib.hid (there_op w)
  have BO := Lib.hid (below_alloc w opO)
  have SO : Hid (w.heap.size + 1 ≤ (w.alloc opO).heap.size) := by show _ ≤ _; simp
  go_enter Tryz.func175, Tryz.ntmps175
  go_wp2_with fail
  generalize w.alloc (Obj.cells #[Value.nilFunc, Value.nilFunc] 187) = w0 at *
  with_reducible refine (I.out _).mono ?_
  rintro e w1 ⟨v1, rfl, f1, b1⟩
  have F1 : Hid (FitL w1 (w.heap.size + 1) v1 (fun t => t == 1)) := by
    obtain ⟨fn, caps, D, h1, h2, h3, h4⟩ := f1
    exact ⟨fn, caps, D, h1, h2, fun k hk => ⟨Nat.le_trans SO.out (h3 k hk).1, (h3 k hk).2⟩, h4⟩
  have B1 := Lib.hid (bthen5 BO.out b1 BO.out.size)
  have T1 := Lib.hid (there_below5 HT.out b1 SO.out)
  have S1 : Hid (w.heap.size + 1 ≤ w1.heap.size) := Nat.le_trans SO.out b1.size
  obtain ⟨fn1, caps1, D1, rfl, _⟩ := f1
  clear b1 BO HT SO
  go_wp2_with fail
  with_reducible refine (A.out _).mono ?_
  rintro e w2 ⟨v2, rfl, f2, b2⟩
  have F2 : Hid (GivL w2 (w.heap.size + 1) v2 (fun _ => 1)) := by
    obtain ⟨fn, caps, D, h1, h2, h3, h4⟩ := f2
    exact ⟨fn, caps, D, h1, h2, fun k hk => ⟨Nat.le_trans S1.out (h3 k hk).1, (h3 k hk).2⟩, h4⟩
  have B2 := Lib.hid (bthen5 B1.out b2 B1.out.size)
  have T2 := Lib.hid (there_below5 T1.out b2 S1.out)
  have F3 := Lib.hid (F1.out.below b2)
  obtain ⟨fn2, caps2, D2, rfl, _⟩ := f2
  clear b2 F1 B1 T1 S1
  go_wp2_with (refine wpList_storeN info187s rfl (.tmp 2) (.tmp 19) rfl rfl w.heap.size rfl [_, _] rfl rfl T2.out (by simp [Value.oneCell']) ?_; intro w3 g1 g2 g3 g4 g5)
  refine bodyPost_ret (ret_cell25 (cs := [_, _]) Tryz.results175 Tryz.underlying187 rfl info187s _ _ w.heap.size rfl g1) rfl ?_
  exact ⟨_, _, rfl, (F3.out.same (fun k h1 _ => stored g4 k h1) (Nat.le_of_eq g5.symm)).less, (F2.out.same (fun k h1 _ => stored g4 k h1) (Nat.le_of_eq g5.symm)).less, B2.out.trans g3⟩
set_option maxHeartbeats 800000 in
theorem sign_quo (w : World) : Calls Tryz.prog 175 #[.string ⟨#[47]⟩] w (Signed ⟨fun t => t == 1, fun _ => 1⟩ w) := by
  have hmf := hmf5
  have I := Lib.hid (isC 1)
  have A := Lib.hid (alwaysC 1)
  have HT := Lib.hid (there_op w)
  have BO := Lib.hid (below_alloc w opO)
  have SO : Hid (w.heap.size + 1 ≤ (w.alloc opO).heap.size) := by show _ ≤ _; simp
  go_enter Tryz.func175, Tryz.ntmps175
  go_wp2_with fail
  generalize w.alloc (Obj.cells #[Value.nilFunc, Value.nilFunc] 187) = w0 at *
  with_reducible refine (I.out _).mono ?_
  rintro e w1 ⟨v1, rfl, f1, b1⟩
  have F1 : Hid (FitL w1 (w.heap.size + 1) v1 (fun t => t == 1)) := by
    obtain ⟨fn, caps, D, h1, h2, h3, h4⟩ := f1
    exact ⟨fn, caps, D, h1, h2, fun k hk => ⟨Nat.le_trans SO.out (h3 k hk).1, (h3 k hk).2⟩, h4⟩
  have B1 := Lib.hid (bthen5 BO.out b1 BO.out.size)
  have T1 := Lib.hid (there_below5 HT.out b1 SO.out)
  have S1 : Hid (w.heap.size + 1 ≤ w1.heap.size) := Nat.le_trans SO.out b1.size
  obtain ⟨fn1, caps1, D1, rfl, _⟩ := f1
  clear b1 BO HT SO
  go_wp2_with fail
  with_reducible refine (A.out _).mono ?_
  rintro e w2 ⟨v2, rfl, f2, b2⟩
  have F2 : Hid (GivL w2 (w.heap.size + 1) v2 (fun _ => 1)) := by
    obtain ⟨fn, caps, D, h1, h2, h3, h4⟩ := f2
    exact ⟨fn, caps, D, h1, h2, fun k hk => ⟨Nat.le_trans S1.out (h3 k hk).1, (h3 k hk).2⟩, h4⟩
  have B2 := Lib.hid (bthen5 B1.out b2 B1.out.size)
  have T2 := Lib.hid (there_below5 T1.out b2 S1.out)
  have F3 := Lib.hid (F1.out.below b2)
  obtain ⟨fn2, caps2, D2, rfl, _⟩ := f2
  clear b2 F1 B1 T1 S1
  go_wp2_with (refine wpList_storeN info187s rfl (.tmp 2) (.tmp 19) rfl rfl w.heap.size rfl [_, _] rfl rfl T2.out (by simp [Value.oneCell']) ?_; intro w3 g1 g2 g3 g4 g5)
  refine bodyPost_ret (ret_cell25 (cs := [_, _]) Tryz.results175 Tryz.underlying187 rfl info187s _ _ w.heap.size rfl g1) rfl ?_
  exact ⟨_, _, rfl, (F3.out.same (fun k h1 _ => stored g4 k h1) (Nat.le_of_eq g5.symm)).less, (F2.out.same (fun k h1 _ => stored g4 k h1) (Nat.le_of_eq g5.symm)).less, B2.out.trans g3⟩
set_option maxHeartbeats 800000 in
theorem sign_rem (w : World) : Calls Tryz.prog 175 #[.string ⟨#[37]⟩] w (Signed ⟨fun t => t == 1, fun _ => 1⟩ w) := by
  have hmf := hmf5
  have I := Lib.hid (isC 1)
  have A := Lib.hid (alwaysC 1)
  have HT := Lib.hid (there_op w)
  have BO := Lib.hid (below_alloc w opO)
  have SO : Hid (w.heap.size + 1 ≤ (w.alloc opO).heap.size) := by show _ ≤ _; simp
  go_enter Tryz.func175, Tryz.ntmps175
  go_wp2_with fail
  generalize w.alloc (Obj.cells #[Value.nilFunc, Value.nilFunc] 187) = w0 at *
  with_reducible refine (I.out _).mono ?_
  rintro e w1 ⟨v1, rfl, f1, b1⟩
  have F1 : Hid (FitL w1 (w.heap.size + 1) v1 (fun t => t == 1)) := by
    obtain ⟨fn, caps, D, h1, h2, h3, h4⟩ := f1
    exact ⟨fn, caps, D, h1, h2, fun k hk => ⟨Nat.le_trans SO.out (h3 k hk).1, (h3 k hk).2⟩, h4⟩
  have B1 := Lib.hid (bthen5 BO.out b1 BO.out.size)
  have T1 := Lib.hid (there_below5 HT.out b1 SO.out)
  have S1 : Hid (w.heap.size + 1 ≤ w1.heap.size) := Nat.le_trans SO.out b1.size
  obtain ⟨fn1, caps1, D1, rfl, _⟩ := f1
  clear b1 BO HT SO
  go_wp2_with fail
  with_reducible refine (A.out _).mono ?_
  rintro e w2 ⟨v2, rfl, f2, b2⟩
  have F2 : Hid (GivL w2 (w.heap.size + 1) v2 (fun _ => 1)) := by
    obtain ⟨fn, caps, D, h1, h2, h3, h4⟩ := f2
    exact ⟨fn, caps, D, h1, h2, fun k hk => ⟨Nat.le_trans S1.out (h3 k hk).1, (h3 k hk).2⟩, h4⟩
  have B2 := Lib.hid (bthen5 B1.out b2 B1.out.size)
  have T2 := Lib.hid (there_below5 T1.out b2 S1.out)
  have F3 := Lib.hid (F1.out.below b2)
  obtain ⟨fn2, caps2, D2, rfl, _⟩ := f2
  clear b2 F1 B1 T1 S1
  go_wp2_with (refine wpList_storeN info187s rfl (.tmp 2) (.tmp 19) rfl rfl w.heap.size rfl [_, _] rfl rfl T2.out (by simp [Value.oneCell']) ?_; intro w3 g1 g2 g3 g4 g5)
  refine bodyPost_ret (ret_cell25 (cs := [_, _]) Tryz.results175 Tryz.underlying187 rfl info187s _ _ w.heap.size rfl g1) rfl ?_
  exact ⟨_, _, rfl, (F3.out.same (fun k h1 _ => stored g4 k h1) (Nat.le_of_eq g5.symm)).less, (F2.out.same (fun k h1 _ => stored g4 k h1) (Nat.le_of_eq g5.symm)).less, B2.out.trans g3⟩
set_option maxHeartbeats 800000 in
theorem sign_eq (w : World) : Calls Tryz.prog 175 #[.string ⟨#[61, 61]⟩] w (Signed ⟨fun t => t != 0, fun _ => 2⟩ w) := by
  have hmf := hmf5
  have I := Lib.hid (isC 0)
  have A := Lib.hid (alwaysC 2)
  have HT := Lib.hid (there_op w)
  have BO := Lib.hid (below_alloc w opO)
  have SO : Hid (w.heap.size + 1 ≤ (w.alloc opO).heap.size) := by show _ ≤ _; simp
  go_enter Tryz.func175, Tryz.ntmps175
  go_wp2_with fail
  generalize w.alloc (Obj.cells #[Value.nilFunc, Value.nilFunc] 187) = w0 at *
  have B1 := BO
  have T1 := HT
  have S1 := SO
  have F1 := Lib.hid (isValueV w0 (w.heap.size + 1))
  with_reducible refine (A.out _).mono ?_
  rintro e w2 ⟨v2, rfl, f2, b2⟩
  have F2 : Hid (GivL w2 (w.heap.size + 1) v2 (fun _ => 2)) := by
    obtain ⟨fn, caps, D, h1, h2, h3, h4⟩ := f2
    exact ⟨fn, caps, D, h1, h2, fun k hk => ⟨Nat.le_trans S1.out (h3 k hk).1, (h3 k hk).2⟩, h4⟩
  have B2 := Lib.hid (bthen5 B1.out b2 B1.out.size)
  have T2 := Lib.hid (there_below5 T1.out b2 S1.out)
  have F3 := Lib.hid (F1.out.below b2)
  obtain ⟨fn2, caps2, D2, rfl, _⟩ := f2
  clear b2 F1 B1 T1 S1
  go_wp2_with (refine wpList_storeN info187s rfl (.tmp 2) (.tmp 25) rfl rfl w.heap.size rfl [_, _] rfl rfl T2.out (by simp [Value.oneCell']) ?_; intro w3 g1 g2 g3 g4 g5)
  refine bodyPost_ret (ret_cell25 (cs := [_, _]) Tryz.results175 Tryz.underlying187 rfl info187s _ _ w.heap.size rfl g1) rfl ?_
  exact ⟨_, _, rfl, (F3.out.same (fun k h1 _ => stored g4 k h1) (Nat.le_of_eq g5.symm)).less, (F2.out.same (fun k h1 _ => stored g4 k h1) (Nat.le_of_eq g5.symm)).less, B2.out.trans g3⟩
set_option maxHeartbeats 800000 in
theorem sign_ne (w : World) : Calls Tryz.prog 175 #[.string ⟨#[33, 61]⟩] w (Signed ⟨fun t => t != 0, fun _ => 2⟩ w) := by
  have hmf := hmf5
  have I := Lib.hid (isC 0)
  have A := Lib.hid (alwaysC 2)
  have HT := Lib.hid (there_op w)
  have BO := Lib.hid (below_alloc w opO)
  have SO : Hid (w.heap.size + 1 ≤ (w.alloc opO).heap.size) := by show _ ≤ _; simp
  go_enter Tryz.func175, Tryz.ntmps175
  go_wp2_with fail
  generalize w.alloc (Obj.cells #[Value.nilFunc, Value.nilFunc] 187) = w0 at *
  have B1 := BO
  have T1 := HT
  have S1 := SO
  have F1 := Lib.hid (isValueV w0 (w.heap.size + 1))
  with_reducible refine (A.out _).mono ?_
  rintro e w2 ⟨v2, rfl, f2, b2⟩
  have F2 : Hid (GivL w2 (w.heap.size + 1) v2 (fun _ => 2)) := by
    obtain ⟨fn, caps, D, h1, h2, h3, h4⟩ := f2
    exact ⟨fn, caps, D, h1, h2, fun k hk => ⟨Nat.le_trans S1.out (h3 k hk).1, (h3 k hk).2⟩, h4⟩
  have B2 := Lib.hid (bthen5 B1.out b2 B1.out.size)
  have T2 := Lib.hid (there_below5 T1.out b2 S1.out)
  have F3 := Lib.hid (F1.out.below b2)
  obtain ⟨fn2, caps2, D2, rfl, _⟩ := f2
  clear b2 F1 B1 T1 S1
  go_wp2_with (refine wpList_storeN info187s rfl (.tmp 2) (.tmp 25) rfl rfl w.heap.size rfl [_, _] rfl rfl T2.out (by simp [Value.oneCell']) ?_; intro w3 g1 g2 g3 g4 g5)
  refine bodyPost_ret (ret_cell25 (cs := [_, _]) Tryz.results175 Tryz.underlying187 rfl info187s _ _ w.heap.size rfl g1) rfl ?_
  exact ⟨_, _, rfl, (F3.out.same (fun k h1 _ => stored g4 k h1) (Nat.le_of_eq g5.symm)).less, (F2.out.same (fun k h1 _ => stored g4 k h1) (Nat.le_of_eq g5.symm)).less, B2.out.trans g3⟩
set_option maxHeartbeats 800000 in
theorem sign_lt (w : World) : Calls Tryz.prog 175 #[.string ⟨#[60]⟩] w (Signed ⟨fun t => t == 1, fun _ => 2⟩ w) := by
  have hmf := hmf5
  have I := Lib.hid (isC 1)
  have A := Lib.hid (alwaysC 2)
  have HT := Lib.hid (there_op w)
  have BO := Lib.hid (below_alloc w opO)
  have SO : Hid (w.heap.size + 1 ≤ (w.alloc opO).heap.size) := by show _ ≤ _; simp
  go_enter Tryz.func175, Tryz.ntmps175
  go_wp2_with fail
  generalize w.alloc (Obj.cells #[Value.nilFunc, Value.nilFunc] 187) = w0 at *
  with_reducible refine (I.out _).mono ?_
  rintro e w1 ⟨v1, rfl, f1, b1⟩
  have F1 : Hid (FitL w1 (w.heap.size + 1) v1 (fun t => t == 1)) := by
    obtain ⟨fn, caps, D, h1, h2, h3, h4⟩ := f1
    exact ⟨fn, caps, D, h1, h2, fun k hk => ⟨Nat.le_trans SO.out (h3 k hk).1, (h3 k hk).2⟩, h4⟩
  have B1 := Lib.hid (bthen5 BO.out b1 BO.out.size)
  have T1 := Lib.hid (there_below5 HT.out b1 SO.out)
  have S1 : Hid (w.heap.size + 1 ≤ w1.heap.size) := Nat.le_trans SO.out b1.size
  obtain ⟨fn1, caps1, D1, rfl, _⟩ := f1
  clear b1 BO HT SO
  go_wp2_with fail
  with_reducible refine (A.out _).mono ?_
  rintro e w2 ⟨v2, rfl, f2, b2⟩
  have F2 : Hid (GivL w2 (w.heap.size + 1) v2 (fun _ => 2)) := by
    obtain ⟨fn, caps, D, h1, h2, h3, h4⟩ := f2
    exact ⟨fn, caps, D, h1, h2, fun k hk => ⟨Nat.le_trans S1.out (h3 k hk).1, (h3 k hk).2⟩, h4⟩
  have B2 := Lib.hid (bthen5 B1.out b2 B1.out.size)
  have T2 := Lib.hid (there_below5 T1.out b2 S1.out)
  have F3 := Lib.hid (F1.out.below b2)
  obtain ⟨fn2, caps2, D2, rfl, _⟩ := f2
  clear b2 F1 B1 T1 S1
  go_wp2_with (refine wpList_storeN info187s rfl (.tmp 2) (.tmp 34) rfl rfl w.heap.size rfl [_, _] rfl rfl T2.out (by simp [Value.oneCell']) ?_; intro w3 g1 g2 g3 g4 g5)
  refine bodyPost_ret (ret_cell25 (cs := [_, _]) Tryz.results175 Tryz.underlying187 rfl info187s _ _ w.heap.size rfl g1) rfl ?_
  exact ⟨_, _, rfl, (F3.out.same (fun k h1 _ => stored g4 k h1) (Nat.le_of_eq g5.symm)).less, (F2.out.same (fun k h1 _ => stored g4 k h1) (Nat.le_of_eq g5.symm)).less, B2.out.trans g3⟩
set_option maxHeartbeats 800000 in
theorem sign_le (w : World) : Calls Tryz.prog 175 #[.string ⟨#[60, 61]⟩] w (Signed ⟨fun t => t == 1, fun _ => 2⟩ w) := by
  have hmf := hmf5
  have I := Lib.hid (isC 1)
  have A := Lib.hid (alwaysC 2)
  have HT := Lib.hid (there_op w)
  have BO := Lib.hid (below_alloc w opO)
  have SO : Hid (w.heap.size + 1 ≤ (w.alloc opO).heap.size) := by show _ ≤ _; simp
  go_enter Tryz.func175, Tryz.ntmps175
  go_wp2_with fail
  generalize w.alloc (Obj.cells #[Value.nilFunc, Value.nilFunc] 187) = w0 at *
  with_reducible refine (I.out _).mono ?_
  rintro e w1 ⟨v1, rfl, f1, b1⟩
  have F1 : Hid (FitL w1 (w.heap.size + 1) v1 (fun t => t == 1)) := by
    obtain ⟨fn, caps, D, h1, h2, h3, h4⟩ := f1
    exact ⟨fn, caps, D, h1, h2, fun k hk => ⟨Nat.le_trans SO.out (h3 k hk).1, (h3 k hk).2⟩, h4⟩
  have B1 := Lib.hid (bthen5 BO.out b1 BO.out.size)
  have T1 := Lib.hid (there_below5 HT.out b1 SO.out)
  have S1 : Hid (w.heap.size + 1 ≤ w1.heap.size) := Nat.le_trans SO.out b1.size
  obtain ⟨fn1, caps1, D1, rfl, _⟩ := f1
  clear b1 BO HT SO
  go_wp2_with fail
  with_reducible refine (A.out _).mono ?_
  rintro e w2 ⟨v2, rfl, f2, b2⟩
  have F2 : Hid (GivL w2 (w.heap.size + 1) v2 (fun _ => 2)) := by
    obtain ⟨fn, caps, D, h1, h2, h3, h4⟩ := f2
    exact ⟨fn, caps, D, h1, h2, fun k hk => ⟨Nat.le_trans S1.out (h3 k hk).1, (h3 k hk).2⟩, h4⟩
  have B2 := Lib.hid (bthen5 B1.out b2 B1.out.size)
  have T2 := Lib.hid (there_below5 T1.out b2 S1.out)
  have F3 := Lib.hid (F1.out.below b2)
  obtain ⟨fn2, caps2, D2, rfl, _⟩ := f2
  clear b2 F1 B1 T1 S1
  go_wp2_with (refine wpList_storeN info187s rfl (.tmp 2) (.tmp 34) rfl rfl w.heap.size rfl [_, _] rfl rfl T2.out (by simp [Value.oneCell']) ?_; intro w3 g1 g2 g3 g4 g5)
  refine bodyPost_ret (ret_cell25 (cs := [_, _]) Tryz.results175 Tryz.underlying187 rfl info187s _ _ w.heap.size rfl g1) rfl ?_
  exact ⟨_, _, rfl, (F3.out.same (fun k h1 _ => stored g4 k h1) (Nat.le_of_eq g5.symm)).less, (F2.out.same (fun k h1 _ => stored g4 k h1) (Nat.le_of_eq g5.symm)).less, B2.out.trans g3⟩
set_option maxHeartbeats 800000 in
theorem sign_gt (w : World) : Calls Tryz.prog 175 #[.string ⟨#[62]⟩] w (Signed ⟨fun t => t == 1, fun _ => 2⟩ w) := by
  have hmf := hmf5
  have I := Lib.hid (isC 1)
  have A := Lib.hid (alwaysC 2)
  have HT := Lib.hid (there_op w)
  have BO := Lib.hid (below_alloc w opO)
  have SO : Hid (w.heap.size + 1 ≤ (w.alloc opO).heap.size) := by show _ ≤ _; simp
  go_enter Tryz.func175, Tryz.ntmps175
  go_wp2_with fail
  generalize w.alloc (Obj.cells #[Value.nilFunc, Value.nilFunc] 187) = w0 at *
  with_reducible refine (I.out _).mono ?_
  rintro e w1 ⟨v1, rfl, f1, b1⟩
  have F1 : Hid (FitL w1 (w.heap.size + 1) v1 (fun t => t == 1)) := by
    obtain ⟨fn, caps, D, h1, h2, h3, h4⟩ := f1
    exact ⟨fn, caps, D, h1, h2, fun k hk => ⟨Nat.le_trans SO.out (h3 k hk).1, (h3 k hk).2⟩, h4⟩
  have B1 := Lib.hid (bthen5 BO.out b1 BO.out.size)
  have T1 := Lib.hid (there_below5 HT.out b1 SO.out)
  have S1 : Hid (w.heap.size + 1 ≤ w1.heap.size) := Nat.le_trans SO.out b1.size
  obtain ⟨fn1, caps1, D1, rfl, _⟩ := f1
  clear b1 BO HT SO
  go_wp2_with fail
  with_reducible refine (A.out _).mono ?_
  rintro e w2 ⟨v2, rfl, f2, b2⟩
  have F2 : Hid (GivL w2 (w.heap.size + 1) v2 (fun _ => 2)) := by
    obtain ⟨fn, caps, D, h1, h2, h3, h4⟩ := f2
    exact ⟨fn, caps, D, h1, h2, fun k hk => ⟨Nat.le_trans S1.out (h3 k hk).1, (h3 k hk).2⟩, h4⟩
  have B2 := Lib.hid (bthen5 B1.out b2 B1.out.size)
  have T2 := Lib.hid (there_below5 T1.out b2 S1.out)
  have F3 := Lib.hid (F1.out.below b2)
  obtain ⟨fn2, caps2, D2, rfl, _⟩ := f2
  clear b2 F1 B1 T1 S1
  go_wp2_with (refine wpList_storeN info187s rfl (.tmp 2) (.tmp 34) rfl rfl w.heap.size rfl [_, _] rfl rfl T2.out (by simp [Value.oneCell']) ?_; intro w3 g1 g2 g3 g4 g5)
  refine bodyPost_ret (ret_cell25 (cs := [_, _]) Tryz.results175 Tryz.underlying187 rfl info187s _ _ w.heap.size rfl g1) rfl ?_
  exact ⟨_, _, rfl, (F3.out.same (fun k h1 _ => stored g4 k h1) (Nat.le_of_eq g5.symm)).less, (F2.out.same (fun k h1 _ => stored g4 k h1) (Nat.le_of_eq g5.symm)).less, B2.out.trans g3⟩
set_option maxHeartbeats 800000 in
theorem sign_ge (w : World) : Calls Tryz.prog 175 #[.string ⟨#[62, 61]⟩] w (Signed ⟨fun t => t == 1, fun _ => 2⟩ w) := by
  have hmf := hmf5
  have I := Lib.hid (isC 1)
  have A := Lib.hid (alwaysC 2)
  have HT := Lib.hid (there_op w)
  have BO := Lib.hid (below_alloc w opO)
  have SO : Hid (w.heap.size + 1 ≤ (w.alloc opO).heap.size) := by show _ ≤ _; simp
  go_enter Tryz.func175, Tryz.ntmps175
  go_wp2_with fail
  generalize w.alloc (Obj.cells #[Value.nilFunc, Value.nilFunc] 187) = w0 at *
  with_reducible refine (I.out _).mono ?_
  rintro e w1 ⟨v1, rfl, f1, b1⟩
  have F1 : Hid (FitL w1 (w.heap.size + 1) v1 (fun t => t == 1)) := by
    obtain ⟨fn, caps, D, h1, h2, h3, h4⟩ := f1
    exact ⟨fn, caps, D, h1, h2, fun k hk => ⟨Nat.le_trans SO.out (h3 k hk).1, (h3 k hk).2⟩, h4⟩
  have B1 := Lib.hid (bthen5 BO.out b1 BO.out.size)
  have T1 := Lib.hid (there_below5 HT.out b1 SO.out)
  have S1 : Hid (w.heap.size + 1 ≤ w1.heap.size) := Nat.le_trans SO.out b1.size
  obtain ⟨fn1, caps1, D1, rfl, _⟩ := f1
  clear b1 BO HT SO
  go_wp2_with fail
  with_reducible refine (A.out _).mono ?_
  rintro e w2 ⟨v2, rfl, f2, b2⟩
  have F2 : Hid (GivL w2 (w.heap.size + 1) v2 (fun _ => 2)) := by
    obtain ⟨fn, caps, D, h1, h2, h3, h4⟩ := f2
    exact ⟨fn, caps, D, h1, h2, fun k hk => ⟨Nat.le_trans S1.out (h3 k hk).1, (h3 k hk).2⟩, h4⟩
  have B2 := Lib.hid (bthen5 B1.out b2 B1.out.size)
  have T2 := Lib.hid (there_below5 T1.out b2 S1.out)
  have F3 := Lib.hid (F1.out.below b2)
  obtain ⟨fn2, caps2, D2, rfl, _⟩ := f2
  clear b2 F1 B1 T1 S1
  go_wp2_with (refine wpList_storeN info187s rfl (.tmp 2) (.tmp 34) rfl rfl w.heap.size rfl [_, _] rfl rfl T2.out (by simp [Value.oneCell']) ?_; intro w3 g1 g2 g3 g4 g5)
  refine bodyPost_ret (ret_cell25 (cs := [_, _]) Tryz.results175 Tryz.underlying187 rfl info187s _ _ w.heap.size rfl g1) rfl ?_
  exact ⟨_, _, rfl, (F3.out.same (fun k h1 _ => stored g4 k h1) (Nat.le_of_eq g5.symm)).less, (F2.out.same (fun k h1 _ => stored g4 k h1) (Nat.le_of_eq g5.symm)).less, B2.out.trans g3⟩
set_option maxHeartbeats 800000 in
theorem sign_and (w : World) : Calls Tryz.prog 175 #[.string ⟨#[38, 38]⟩] w (Signed ⟨fun t => t == 2, fun _ => 2⟩ w) := by
  have hmf := hmf5
  have I := Lib.hid (isC 2)
  have A := Lib.hid (alwaysC 2)
  have HT := Lib.hid (there_op w)
  have BO := Lib.hid (below_alloc w opO)
  have SO : Hid (w.heap.size + 1 ≤ (w.alloc opO).heap.size) := by show _ ≤ _; simp
  go_enter Tryz.func175, Tryz.ntmps175
  go_wp2_with fail
  generalize w.alloc (Obj.cells #[Value.nilFunc, Value.nilFunc] 187) = w0 at *
  with_reducible refine (I.out _).mono ?_
  rintro e w1 ⟨v1, rfl, f1, b1⟩
  have F1 : Hid (FitL w1 (w.heap.size + 1) v1 (fun t => t == 2)) := by
    obtain ⟨fn, caps, D, h1, h2, h3, h4⟩ := f1
    exact ⟨fn, caps, D, h1, h2, fun k hk => ⟨Nat.le_trans SO.out (h3 k hk).1, (h3 k hk).2⟩, h4⟩
  have B1 := Lib.hid (bthen5 BO.out b1 BO.out.size)
  have T1 := Lib.hid (there_below5 HT.out b1 SO.out)
  have S1 : Hid (w.heap.size + 1 ≤ w1.heap.size) := Nat.le_trans SO.out b1.size
  obtain ⟨fn1, caps1, D1, rfl, _⟩ := f1
  clear b1 BO HT SO
  go_wp2_with fail
  with_reducible refine (A.out _).mono ?_
  rintro e w2 ⟨v2, rfl, f2, b2⟩
  have F2 : Hid (GivL w2 (w.heap.size + 1) v2 (fun _ => 2)) := by
    obtain ⟨fn, caps, D, h1, h2, h3, h4⟩ := f2
    exact ⟨fn, caps, D, h1, h2, fun k hk => ⟨Nat.le_trans S1.out (h3 k hk).1, (h3 k hk).2⟩, h4⟩
  have B2 := Lib.hid (bthen5 B1.out b2 B1.out.size)
  have T2 := Lib.hid (there_below5 T1.out b2 S1.out)
  have F3 := Lib.hid (F1.out.below b2)
  obtain ⟨fn2, caps2, D2, rfl, _⟩ := f2
  clear b2 F1 B1 T1 S1
  go_wp2_with (refine wpList_storeN info187s rfl (.tmp 2) (.tmp 41) rfl rfl w.heap.size rfl [_, _] rfl rfl T2.out (by simp [Value.oneCell']) ?_; intro w3 g1 g2 g3 g4 g5)
  refine bodyPost_ret (ret_cell25 (cs := [_, _]) Tryz.results175 Tryz.underlying187 rfl info187s _ _ w.heap.size rfl g1) rfl ?_
  exact ⟨_, _, rfl, (F3.out.same (fun k h1 _ => stored g4 k h1) (Nat.le_of_eq g5.symm)).less, (F2.out.same (fun k h1 _ => stored g4 k h1) (Nat.le_of_eq g5.symm)).less, B2.out.trans g3⟩
set_option maxHeartbeats 800000 in
theorem sign_or (w : World) : Calls Tryz.prog 175 #[.string ⟨#[124, 124]⟩] w (Signed ⟨fun t => t == 2, fun _ => 2⟩ w) := by
  have hmf := hmf5
  have I := Lib.hid (isC 2)
  have A := Lib.hid (alwaysC 2)
  have HT := Lib.hid (there_op w)
  have BO := Lib.hid (below_alloc w opO)
  have SO : Hid (w.heap.size + 1 ≤ (w.alloc opO).heap.size) := by show _ ≤ _; simp
  go_enter Tryz.func175, Tryz.ntmps175
  go_wp2_with fail
  generalize w.alloc (Obj.cells #[Value.nilFunc, Value.nilFunc] 187) = w0 at *
  with_reducible refine (I.out _).mono ?_
  rintro e w1 ⟨v1, rfl, f1, b1⟩
  have F1 : Hid (FitL w1 (w.heap.size + 1) v1 (fun t => t == 2)) := by
    obtain ⟨fn, caps, D, h1, h2, h3, h4⟩ := f1
    exact ⟨fn, caps, D, h1, h2, fun k hk => ⟨Nat.le_trans SO.out (h3 k hk).1, (h3 k hk).2⟩, h4⟩
  have B1 := Lib.hid (bthen5 BO.out b1 BO.out.size)
  have T1 := Lib.hid (there_below5 HT.out b1 SO.out)
  have S1 : Hid (w.heap.size + 1 ≤ w1.heap.size) := Nat.le_trans SO.out b1.size
  obtain ⟨fn1, caps1, D1, rfl, _⟩ := f1
  clear b1 BO HT SO
  go_wp2_with fail
  with_reducible refine (A.out _).mono ?_
  rintro e w2 ⟨v2, rfl, f2, b2⟩
  have F2 : Hid (GivL w2 (w.heap.size + 1) v2 (fun _ => 2)) := by
    obtain ⟨fn, caps, D, h1, h2, h3, h4⟩ := f2
    exact ⟨fn, caps, D, h1, h2, fun k hk => ⟨Nat.le_trans S1.out (h3 k hk).1, (h3 k hk).2⟩, h4⟩
  have B2 := Lib.hid (bthen5 B1.out b2 B1.out.size)
  have T2 := Lib.hid (there_below5 T1.out b2 S1.out)
  have F3 := Lib.hid (F1.out.below b2)
  obtain ⟨fn2, caps2, D2, rfl, _⟩ := f2
  clear b2 F1 B1 T1 S1
  go_wp2_with (refine wpList_storeN info187s rfl (.tmp 2) (.tmp 41) rfl rfl w.heap.size rfl [_, _] rfl rfl T2.out (by simp [Value.oneCell']) ?_; intro w3 g1 g2 g3 g4 g5)
  refine bodyPost_ret (ret_cell25 (cs := [_, _]) Tryz.results175 Tryz.underlying187 rfl info187s _ _ w.heap.size rfl g1) rfl ?_
  exact ⟨_, _, rfl, (F3.out.same (fun k h1 _ => stored g4 k h1) (Nat.le_of_eq g5.symm)).less, (F2.out.same (fun k h1 _ => stored g4 k h1) (Nat.le_of_eq g5.symm)).less, B2.out.trans g3⟩
end

section
open Go.RowKit
set_option maxRecDepth 100000
set_option linter.unusedSimpArgs false
set_option linter.unusedVariables false

set_option maxHeartbeats 800000 in
theorem cloneC (b : Nat) (sc : Scope) (w : World) (h : Sco w b sc) :
    Calls Tryz.prog 140 #[.map (some b)] w fun e w' => e = .returned (.map (some w.heap.size)) ∧ Sco w' w.heap.size sc ∧ Below w.heap.size w w' := by
  obtain ⟨es, clock, hb, hm, hn⟩ := h
  have HM := Lib.hid hm
  have hq := fun w => run_eql_map_nil_sl (P := Tryz.prog) w 118 _ _ (some b) Tryz.underlying118
  go_enter Tryz.func140, Tryz.ntmps140
  go_wp2
  rw [run_callFunc_extern Tryz.func155 (by kernel_rfl) (by kernel_rfl) (by kernel_rfl) (e := Extern.MapsClone.clone) (by kernel_rfl), run_maps_clone_sl w 118 hb]
  simp only [Result.andThen]
  rw [Oper.upon_value]
  go_wp2
  rw [run_typeAssert_map_sl _ 118 20 _ _ _ Tryz.underlying118]
  simp only [Result.andThen]
  rw [Oper.upon_value]
  go_wp2
  go_ret
  exact ⟨rfl, ⟨es, clock, (MapKept.heap_alloc w _).1, HM.out, hn⟩, below_alloc _ _⟩
end

section
open Go.RowKit
set_option maxRecDepth 100000
set_option linter.unusedSimpArgs false
set_option linter.unusedVariables false
set_option maxHeartbeats 1600000 in
theorem sign_other (s : List Nat) (hs : Byn s) (hn : signR s = none) (w : World) : Calls Tryz.prog 175 #[.string (strN s)] w fun e w' => e = .returned (.tuple #[.agg #[.nilFunc, .nilFunc], .bool false]) ∧ Below w.heap.size w w' := by
  have qplus : ((strN s).toList == [43]) = false := (eqLit hs [43] (by unfold Byn; decide)).trans (decide_eq_false (by rintro rfl; simp [signR] at hn))
  have qminus : ((strN s).toList == [45]) = false := (eqLit hs [45] (by unfold Byn; decide)).trans (decide_eq_false (by rintro rfl; simp [signR] at hn))
  have qtimes : ((strN s).toList == [42]) = false := (eqLit hs [42] (by unfold Byn; decide)).trans (decide_eq_false (by rintro rfl; simp [signR] at hn))
  have qquo : ((strN s).toList == [47]) = false := (eqLit hs [47] (by unfold Byn; decide)).trans (decide_eq_false (by rintro rfl; simp [signR] at hn))
  have qrem : ((strN s).toList == [37]) = false := (eqLit hs [37] (by unfold Byn; decide)).trans (decide_eq_false (by rintro rfl; simp [signR] at hn))
  have qeq : ((strN s).toList == [61, 61]) = false := (eqLit hs [61, 61] (by unfold Byn; decide)).trans (decide_eq_false (by rintro rfl; simp [signR] at hn))
  have qne : ((strN s).toList == [33, 61]) = false := (eqLit hs [33, 61] (by unfold Byn; decide)).trans (decide_eq_false (by rintro rfl; simp [signR] at hn))
  have qlt : ((strN s).toList == [60]) = false := (eqLit hs [60] (by unfold Byn; decide)).trans (decide_eq_false (by rintro rfl; simp [signR] at hn))
  have qle : ((strN s).toList == [60, 61]) = false := (eqLit hs [60, 61] (by unfold Byn; decide)).trans (decide_eq_false (by rintro rfl; simp [signR] at hn))
  have qgt : ((strN s).toList == [62]) = false := (eqLit hs [62] (by unfold Byn; decide)).trans (decide_eq_false (by rintro rfl; simp [signR] at hn))
  have qge : ((strN s).toList == [62, 61]) = false := (eqLit hs [62, 61] (by unfold Byn; decide)).trans (decide_eq_false (by rintro rfl; simp [signR] at hn))
  have qand : ((strN s).toList == [38, 38]) = false := (eqLit hs [38, 38] (by unfold Byn; decide)).trans (decide_eq_false (by rintro rfl; simp [signR] at hn))
  have qor : ((strN s).toList == [124, 124]) = false := (eqLit hs [124, 124] (by unfold Byn; decide)).trans (decide_eq_false (by rintro rfl; simp [signR] at hn))
  clear hn hs
  go_enter Tryz.func175, Tryz.ntmps175
  go_wp2_with (refine wpList_storeN info187s rfl (.tmp 2) (.tmp 42) rfl rfl w.heap.size rfl [_, _] rfl rfl (there_op w) (by simp [Value.oneCell']) ?_; intro w2 g1 g2 g3 g4 g5)
  refine bodyPost_ret (ret_cell25 (cs := [_, _]) Tryz.results175 Tryz.underlying187 rfl info187s _ _ w.heap.size rfl g1) rfl ?_
  exact ⟨rfl, (below_alloc w opO).trans g3⟩
/-- what 'operatorOf' returns -/
theorem signC (s : List Nat) (hs : Byn s) (w : World) : Calls Tryz.prog 175 #[.string (strN s)] w fun e w' => (∃ g, signR s = some g ∧ Signed g w e w') ∨ (signR s = none ∧ e = .returned (.tuple #[.agg #[.nilFunc, .nilFunc], .bool false]) ∧ Below w.heap.size w w') := by
  by_cases hplus : s = [43]
  · subst hplus
    rw [show strN [43] = ⟨#[43]⟩ by kernel_rfl]
    exact (sign_plus w).mono fun e w' h => .inl ⟨_, by simp [signR], h⟩
  by_cases hminus : s = [45]
  · subst hminus
    rw [show strN [45] = ⟨#[45]⟩ by kernel_rfl]
    exact (sign_minus w).mono fun e w' h => .inl ⟨_, by simp [signR], h⟩
  by_cases htimes : s = [42]
  · subst htimes
    rw [show strN [42] = ⟨#[42]⟩ by kernel_rfl]
    exact (sign_times w).mono fun e w' h => .inl ⟨_, by simp [signR], h⟩
  by_cases hquo : s = [47]
  · subst hquo
    rw [show strN [47] = ⟨#[47]⟩ by kernel_rfl]
    exact (sign_quo w).mono fun e w' h => .inl ⟨_, by simp [signR], h⟩
  by_cases hrem : s = [37]
  · subst hrem
    rw [show strN [37] = ⟨#[37]⟩ by kernel_rfl]
    exact (sign_rem w).mono fun e w' h => .inl ⟨_, by simp [signR], h⟩
  by_cases heq : s = [61, 61]
  · subst heq
    rw [show strN [61, 61] = ⟨#[61, 61]⟩ by kernel_rfl]
    exact (sign_eq w).mono fun e w' h => .inl ⟨_, by simp [signR], h⟩
  by_cases hne : s = [33, 61]
  · subst hne
    rw [show strN [33, 61] = ⟨#[33, 61]⟩ by kernel_rfl]
    exact (sign_ne w).mono fun e w' h => .inl ⟨_, by simp [signR], h⟩
  by_cases hlt : s = [60]
  · subst hlt
    rw [show strN [60] = ⟨#[60]⟩ by kernel_rfl]
    exact (sign_lt w).mono fun e w' h => .inl ⟨_, by simp [signR], h⟩
  by_cases hle : s = [60, 61]
  · subst hle
    rw [show strN [60, 61] = ⟨#[60, 61]⟩ by kernel_rfl]
    exact (sign_le w).mono fun e w' h => .inl ⟨_, by simp [signR], h⟩
  by_cases hgt : s = [62]
  · subst hgt
    rw [show strN [62] = ⟨#[62]⟩ by kernel_rfl]
    exact (sign_gt w).mono fun e w' h => .inl ⟨_, by simp [signR], h⟩
  by_cases hge : s = [62, 61]
  · subst hge
    rw [show strN [62, 61] = ⟨#[62, 61]⟩ by kernel_rfl]
    exact (sign_ge w).mono fun e w' h => .inl ⟨_, by simp [signR], h⟩
  by_cases hand : s = [38, 38]
  · subst hand
    rw [show strN [38, 38] = ⟨#[38, 38]⟩ by kernel_rfl]
    exact (sign_and w).mono fun e w' h => .inl ⟨_, by simp [signR], h⟩
  by_cases hor : s = [124, 124]
  · subst hor
    rw [show strN [124, 124] = ⟨#[124, 124]⟩ by kernel_rfl]
    exact (sign_or w).mono fun e w' h => .inl ⟨_, by simp [signR], h⟩
  have hn : signR s = none := by simp [signR, hplus, hminus, htimes, hquo, hrem, heq, hne, hlt, hle, hgt, hge, hand, hor]
  exact (sign_other s hs hn w).mono fun e w' h => .inr ⟨hn, h⟩
end
end Go.Proofs.YtfcpabhkconjmaaGreatDoor
