/- Names as keys of a map: which are there. Conditions: those in each theorem. -/
import Derived.Test.YtilmidjkjgeoeaaDoorWC
namespace Go.Proofs.YtilmidjkjgeoeaaDoor
open Go.RowKit Go.MapKept
set_option maxRecDepth 100000
set_option linter.unusedVariables false
set_option linter.unusedSimpArgs false
/-- the map at block b has these keys, in the order in which they came -/
def MapN (w : World) (b : Nat) (ks : List ByteArray) : Prop :=
  ∃ arr clock, w.heap[b]? = some (.map arr clock) ∧ arr.toList.map (fun e => e.key) = ks.map Value.string
theorem MapN.of {w w' : World} {b : Nat} {es : List ByteArray} (h : MapN w b es) (hb : w'.heap[b]? = w.heap[b]?) : MapN w' b es := by
  obtain ⟨arr, clock, h1, h2⟩ := h
  exact ⟨arr, clock, by rw [hb]; exact h1, h2⟩
theorem MapN.lt {w : World} {b : Nat} {es : List ByteArray} (h : MapN w b es) : b < w.heap.size := by
  obtain ⟨arr, clock, h1, _⟩ := h
  exact (Array.getElem?_eq_some_iff.1 h1).1
theorem MapN.made (w : World) : MapN (w.alloc (.map #[] 0)) w.heap.size [] := ⟨#[], 0, (MapKept.heap_alloc w _).1, rfl⟩
theorem find_name (s : ByteArray) : ∀ (l : List MapEntry) (ks : List ByteArray) (i : Nat), l.map (fun e => e.key) = ks.map Value.string →
    (s ∉ ks ∧ Instr.findNow .string (.string s) l i = some none) ∨ ∃ v j, s ∈ ks ∧ Instr.findNow .string (.string s) l i = some (some (i + j, v)) ∧ (l[j]?).map (fun e => e.key) = some (.string s)
  | [], [], i, _ => .inl ⟨by simp, rfl⟩
  | [], p :: es, i, h => by simp at h
  | e :: l, [], i, h => by simp at h
  | e :: l, p :: ks, i, h => by
    simp only [List.map_cons, List.cons.injEq] at h
    obtain ⟨hk, h⟩ := h
    by_cases he : s = p
    · subst he
      have hsn : Instr.sameNow .string (.string s) e.key = some true := by rw [hk]; simp [Instr.sameNow, MapKept.bytes_beq]
      exact .inr ⟨e.val, 0, List.mem_cons_self, by simp only [Instr.findNow, hsn]; rfl, by simp [hk]⟩
    · have hsn : Instr.sameNow .string (.string s) e.key = some false := by
        rw [hk]
        simp only [Instr.sameNow, Option.some.injEq]
        rw [Bool.eq_false_iff]
        exact fun e => he ((MapKept.bytes_beq _ _).1 e)
      have hf : Instr.findNow .string (.string s) (e :: l) i = Instr.findNow .string (.string s) l (i + 1) := by simp [Instr.findNow, hsn]
      rw [hf]
      rcases find_name s l ks (i + 1) h with ⟨g1, g2⟩ | ⟨v, j, g1, g2, g3⟩
      · exact .inl ⟨by simp [he, g1], g2⟩
      · exact .inr ⟨v, j + 1, List.mem_cons_of_mem _ g1, by rw [g2, show i + 1 + j = i + (j + 1) by omega], by simpa using g3⟩
open Classical in
noncomputable def addK (ks : List ByteArray) (s : ByteArray) : List ByteArray := if s ∈ ks then ks else ks ++ [s]
theorem run_addN {w : World} {b : Nat} {ks : List ByteArray} (h : MapN w b ks) (s : ByteArray) (v : Value) :
    ∃ w', (Instr.mapUpdate 51 (.map (some b)) (.string s) v).run Tryd.prog w = .ok () w' ∧ MapN w' b (addK ks s) ∧ w.grownBy w' (some b) ∧ w'.heap.size = w.heap.size := by
  obtain ⟨arr, clock, h1, h2⟩ := h
  have ht : Tryd.prog.underlying 51 = some (.map 9 52) := Tryd.underlying51
  have hd : Tryd.prog.underlying 9 = some .string := Tryd.underlying9
  have hk : IsKey .string (.string s) := trivial
  unfold addK
  rcases find_name s arr.toList ks 0 h2 with ⟨g1, g2⟩ | ⟨u, j, g1, g2, g3⟩
  · rw [if_neg g1]
    refine ⟨{ w with heap := w.heap.setIfInBounds b (.map (arr.push { key := .string s, val := v, born := clock }) (clock + 1)) }, ?_, ⟨_, _, (MapKept.heap_set h1).1, ?_⟩, ⟨rfl, rfl, rfl, by simp, fun i _ hi => (MapKept.heap_set h1).2 i (fun e => hi (by rw [e]))⟩, by simp⟩
    · simp [Instr.mapUpdate, run_underlying ht, MapKept.run_getObj_map h1, MapKept.run_checkKey hd hk, MapKept.run_findKey hd g2, MapKept.run_setObj_map _ h1, Result.andThen]
    · simp [h2]
  · rw [if_pos g1]
    rw [Nat.zero_add] at g2
    obtain ⟨e, he, hek⟩ : ∃ e, arr[j]? = some e ∧ e.key = .string s := by
      cases hj : arr.toList[j]? with
      | none => rw [hj] at g3; cases g3
      | some e =>
        rw [hj] at g3
        injection g3 with g3
        exact ⟨e, by simpa using hj, g3⟩
    refine ⟨{ w with heap := w.heap.setIfInBounds b (.map (arr.modify j fun e => { e with key := .string s, val := v }) clock) }, ?_, ⟨_, _, (MapKept.heap_set h1).1, ?_⟩, ⟨rfl, rfl, rfl, by simp, fun i _ hi => (MapKept.heap_set h1).2 i (fun e => hi (by rw [e]))⟩, by simp⟩
    · simp [Instr.mapUpdate, run_underlying ht, MapKept.run_getObj_map h1, MapKept.run_checkKey hd hk, MapKept.run_findKey hd g2, MapKept.run_setObj_map _ h1, Result.andThen, he, hek, MapKept.run_keyThatStays hk]
    · rw [← h2]
      apply List.ext_getElem?
      intro k
      simp only [Array.toList_modify, List.getElem?_map, List.getElem?_modify]
      by_cases hkj : j = k
      · subst hkj
        have : arr.toList[j]? = some e := by simpa using he
        rw [this]
        simp [hek]
      · simp [hkj]
/-- the keys that stand there behind a row of names -/
noncomputable def ksOf (xs : List ByteArray) : List ByteArray := xs.foldl addK []
theorem ks_snoc (xs : List ByteArray) (s : ByteArray) : ksOf (xs ++ [s]) = addK (ksOf xs) s := by simp [ksOf]
theorem snoc_ind {α : Type} {p : List α → Prop} (h0 : p []) (h1 : ∀ xs s, p xs → p (xs ++ [s])) (xs : List α) : p xs := by
  have h : ∀ ys : List α, p ys.reverse := fun ys => by
    induction ys with
    | nil => exact h0
    | cons y ys ih => rw [List.reverse_cons]; exact h1 _ _ ih
  have := h xs.reverse
  rwa [List.reverse_reverse] at this
theorem ks_spec (xs : List ByteArray) : (∀ s, s ∈ ksOf xs ↔ s ∈ xs) ∧ (ksOf xs).length ≤ xs.length ∧ ((ksOf xs).length = xs.length ↔ xs.Nodup) := by
  refine snoc_ind (p := fun xs => (∀ s, s ∈ ksOf xs ↔ s ∈ xs) ∧ (ksOf xs).length ≤ xs.length ∧ ((ksOf xs).length = xs.length ↔ xs.Nodup)) (by simp [ksOf]) (fun xs s ih => ?_) xs
  · obtain ⟨h1, h2, h3⟩ := ih
    rw [ks_snoc]
    unfold addK
    by_cases hs : s ∈ ksOf xs
    · rw [if_pos hs]
      have hx := (h1 s).1 hs
      refine ⟨fun t => ?_, by simp; omega, ?_⟩
      · rw [h1 t, List.mem_append, List.mem_singleton]
        exact ⟨.inl, fun h => h.elim id (fun e => e ▸ hx)⟩
      · rw [List.length_append, List.length_singleton]
        constructor
        · intro e; omega
        · intro hn
          rw [List.nodup_append] at hn
          exact absurd rfl (hn.2.2 s hx s (List.mem_singleton.2 rfl))
    · rw [if_neg hs]
      have hx : s ∉ xs := fun h => hs ((h1 s).2 h)
      refine ⟨fun t => ?_, by simp; omega, ?_⟩
      · rw [List.mem_append, List.mem_append, h1 t]
      · rw [List.length_append, List.length_append, List.length_singleton, List.nodup_append]
        constructor
        · intro e
          refine ⟨h3.1 (by omega), by simp, fun a ha b hb e => ?_⟩
          rw [List.mem_singleton.1 hb] at e
          exact hx (e ▸ ha)
        · intro hn
          rw [h3.2 hn.1]
def nmOf (c : Cd) : ByteArray := strOfNums c.name
theorem info30s : (Tryd.prog.info? 30).map (·.size) = some 5 := by kernel_rfl
theorem info9s : (Tryd.prog.info? 9).map (·.size) = some 1 := by kernel_rfl
theorem low_grown {w w' w'' : World} {B : Nat} (h : Below B w w') (hg : w'.grownBy w'' (some B)) (hB : B ≤ w'.heap.size) : Below B w w'' :=
  h.trans ⟨hg.os, hg.tape, hg.output, hg.size, fun i hi => hg.block i (Nat.lt_of_lt_of_le hi hB) (fun e => by injection e with e; omega)⟩
open Classical in
set_option maxHeartbeats 800000 in
theorem distinctC (l : List Cd) (V : Value) (w : World) (h : CodesV w w.heap.size l V) : Calls Tryd.prog 14 #[V] w (Says (decide (l.map nmOf).Nodup) w) := by
  obtain ⟨A, c, vs, rfl, h1, h2, h3, h4⟩ := h
  have hmm : ∀ (t : TypeId) (w : World), (Instr.makeMap t none).run Tryd.prog w = .ok (.map (some w.heap.size)) (w.alloc (.map #[] 0)) := fun t w => rfl
  have HM := Lib.hid (And.intro (MapN.made w) (below_alloc w (.map #[] 0)))
  have HL := Lib.hid (And.intro h3 h4)
  unfold maxLen at h2
  clear h3 h4
  go_enter Tryd.func14, Tryd.ntmps14
  go_wp2_with fail
  generalize w.alloc (.map #[] 0) = w1 at *
  go_wp2_with fail
  go_loopw [9] (fun i wr => ∃ k : Nat, i = .int .i64 k ∧ k ≤ l.length ∧ Hid (MapN wr w.heap.size (ksOf ((l.map nmOf).take k)) ∧ Below w.heap.size w wr)) (fun i _ => l.length - (intOf i).toNat)
  case atStart => exact ⟨0, rfl, by omega, HM⟩
  case round =>
    obtain ⟨k, rfl, hk, HQ⟩ := hrel
    by_cases hlt : k < l.length
    · obtain ⟨d, hd⟩ : ∃ d, l[k]? = some d := ⟨_, List.getElem?_eq_getElem hlt⟩
      obtain ⟨P, I, hP, hI, hc⟩ := HL.out.2.get hd
      obtain ⟨b, o, rfl, hb, hcl⟩ := lies_flat HL.out.1 (hc 0 _ rfl)
      have HR : Hid (wr.rangeAt b (o + k * 5) (coC d P I)) := Lib.hid (fun j v hv => by
        have := HQ.out.2.cell_is hb (hcl _ _ (hc j v hv))
        rwa [show o + (k * 5 + j) = o + k * 5 + j by omega] at this)
      have hkI : (k : Int) < (l.length : Int) := by omega
      obtain ⟨AP, cP, rfl⟩ := hP.is
      obtain ⟨AI, cI, rfl⟩ := hI.is
      have Z1 := heap_alloc_new wr (.cells #[.string ⟨#[]⟩, .slice none 0 0, .int .i64 0, .int .i64 0, .slice none 0 0] 30)
      have Z2 := below_alloc wr (.cells #[.string ⟨#[]⟩, .slice none 0 0, .int .i64 0, .int .i64 0, .slice none 0 0] 30)
      have HZ := Lib.hid (And.intro Z1 Z2)
      have lm : w.heap.size < wr.heap.size := HQ.out.1.lt
      clear hc hcl hP hI Z1 Z2
      go_upto_region 5 with (first | (refine wpList_load_mid rfl 30 (.tmp 11) rfl b (o + k * 5) rfl (coC d (.slice AP d.params.length cP) (.slice AI d.instrs.length cI)) _ HR.out Tryd.underlying30 rfl (by exact info30s) ?_) | (refine wpList_storeA info30s rfl (.tmp 5) (.tmp 12) rfl rfl wr.heap.size rfl (coC d (.slice AP d.params.length cP) (.slice AI d.instrs.length cI)) [.string ⟨#[]⟩, .slice none 0 0, .int .i64 0, .int .i64 0, .slice none 0 0] rfl rfl HZ.out.1 rfl (by intro u hu; simp [coC] at hu; rcases hu with rfl | rfl | rfl | rfl | rfl <;> rfl) ?_; intro w4 g4 o4; have HG := Lib.hid (And.intro g4 o4); clear g4 o4) | fail)
      have c0 : w4.cell? ⟨wr.heap.size, 0, none⟩ = some (.string (nmOf d)) := cell_at HG.out.1 rfl
      have hm4 : MapN w4 w.heap.size (ksOf ((l.map nmOf).take k)) := HQ.out.1.of ((HG.out.2.far _ (by omega)).trans (HZ.out.2.block _ lm))
      have hb4 : Below w.heap.size w w4 := (HQ.out.2.trans (HZ.out.2.mono (by omega))).trans (HG.out.2.below (by omega))
      obtain ⟨w5, hr, hm5, hg5, hs5⟩ := run_addN hm4 (nmOf d) (.agg #[])
      have HN : Hid (MapN w5 w.heap.size (ksOf ((l.map nmOf).take (k + 1))) ∧ Below w.heap.size w w5) := by
        have e : (l.map nmOf).take (k + 1) = (l.map nmOf).take k ++ [nmOf d] := by
          rw [List.take_add_one, List.getElem?_map, hd]
          rfl
        rw [e, ks_snoc]
        exact ⟨hm5, low_grown hb4 hg5 (Nat.le_of_lt hm4.lt)⟩
      clear hm4 hb4 hm5 hg5 hs5 HR
      go_wp2_with fail
      go_round
      case measure => simp [intOf]; omega
      case rel => exact ⟨k + 1, by go_num, by omega, HN⟩
    · obtain rfl : k = l.length := by omega
      obtain ⟨arr, clock, ha, hks⟩ := HQ.out.1
      have hsz : arr.size = (ksOf (l.map nmOf)).length := by
        have := congrArg List.length hks
        rw [List.take_of_length_le (by simp)] at this
        simpa using this
      have HD : Hid (((arr.size : Int) == (l.length : Int)) = decide (l.map nmOf).Nodup) := by
        have h3 := (ks_spec (l.map nmOf)).2.2
        rw [← hsz, List.length_map] at h3
        show _ = _
        rw [Bool.eq_iff_iff, beq_iff_eq, decide_eq_true_iff, ← h3]
        omega
      have HB := Lib.hid HQ.out.2
      have hlen : (Builtin.len_ #[51] 3 #[.map (some w.heap.size)]).run Tryd.prog wr = .ok (.int .i64 arr.size) wr := run_len_map wr 51 3 w.heap.size arr clock (by rfl) ha
      clear hks hsz HQ
      go_wp2_with fail
      go_ret
      exact ⟨by (try rw [HD.out]); rfl, HB.out⟩
end Go.Proofs.YtilmidjkjgeoeaaDoor
