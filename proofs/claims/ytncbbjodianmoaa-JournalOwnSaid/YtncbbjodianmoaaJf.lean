/- 'slices.Delete' of the end of a row of closures; 'slices.Backward'. Conditions: the row is the call's own. -/
import Derived.Test.YtncbbjodianmoaaJe
import Derived.Test.YtncbbjodianmoaaTu
import Derived.Lib.SliceRun
namespace Go.Proofs.Ytncbbjodianmoaa
open Go.RowKit
set_option linter.unusedSimpArgs false
set_option linter.unusedVariables false

theorem heap_setCells {g : Nat} {T : TypeId} : ∀ (vs : List Value) (o : Nat) (w : World) (cur : Array Value), w.heap[g]? = some (.cells cur T (0, 0)) →
    ∃ cur', (w.setCells g o vs).heap[g]? = some (.cells cur' T (0, 0)) ∧ cur'.size = cur.size ∧ (∀ j, j < o → cur'[j]? = cur[j]?) ∧ (NoI cur → (∀ v ∈ vs, ∀ q y, v ≠ Value.int q y) → NoI cur')
  | [], o, w, cur, h => ⟨cur, h, rfl, fun _ _ => rfl, fun h _ => h⟩
  | v :: vs, o, w, cur, h => by
    obtain ⟨cur', h1, h2, h3, h4⟩ := heap_setCells vs (o + 1) (w.setCell ⟨g, o, none⟩ v) (cur.setIfInBounds o v) (heap_setCell_same w g o cur T v h)
    refine ⟨cur', h1, by rw [h2]; simp, fun j hj => ?_, fun hn hv => h4 (fun x hx q y => ?_) fun u hu => hv u (List.mem_cons_of_mem _ hu)⟩
    · rw [h3 j (by omega), Array.getElem?_setIfInBounds_ne (by omega)]
    · rcases Array.mem_or_eq_of_mem_setIfInBounds hx with e | e
      · exact hn x e q y
      · subst e; exact hv _ (List.mem_cons_self ..) q y
/-- the first m of a row, whatever becomes of those behind -/
theorem Rws.cut {n0 : Nat} {w : World} {T : TypeId} {A : Option Addr} {n c : Nat} {xs : List Value} (h : Rws n0 w T (.slice A n c) n xs) {m : Nat} (hm : m ≤ n) : Rws n0 w T (.slice A m c) m (xs.take m) :=
  ⟨by have := own_cut h.1 hm; rwa [Nat.mul_one] at this, fun g hg => h.2 g (by cases A <;> exact hg)⟩
theorem Rws.cleared {n0 : Nat} {w : World} {T : TypeId} {g n c : Nat} {xs : List Value} (h : Rws n0 w T (.slice (some ⟨g, 0, none⟩) n c) n xs) {m : Nat} (hm : m ≤ n) (vs : List Value) (hv : ∀ v ∈ vs, ∀ q y, v ≠ Value.int q y) :
    Rws n0 (w.setCells g m vs) T (.slice (some ⟨g, 0, none⟩) m c) m (xs.take m) := by
  have hc := h.cut hm
  rcases hc.1.2 with ⟨h', _⟩ | ⟨g', cap, cur, h1, h2, h3, h4, h5, h6, h7⟩
  · cases h'
  · injection h1 with h1 _ h1'
    injection h1 with h1
    injection h1 with h1 _
    subst h1 h1'
    obtain ⟨cur', k1, k2, k3, k4⟩ := heap_setCells vs m w cur h3
    refine ⟨⟨hc.1.1, .inr ⟨g, c, cur', rfl, h2, k1, h4, h5, by omega, ?_⟩⟩, fun g' hg' cs T' z h' => ?_⟩
    · rw [← h7, Nat.mul_one]
      refine List.ext_getElem? fun j => ?_
      rw [List.getElem?_take, List.getElem?_take]
      split
      · rw [Array.getElem?_toList, Array.getElem?_toList]; exact k3 j (by assumption)
      · rfl
    · obtain rfl : g = g' := by injection hg'
      rw [k1] at h'
      injection h' with h'
      injection h' with h' _ _
      subst h'
      exact k4 (h.2 g rfl _ _ _ h3) hv
theorem setCells_grown (g o : Nat) (vs : List Value) (w : World) : w.grownBy (w.setCells g o vs) (some g) := by
  obtain ⟨h1, h2, h3⟩ := below_cells g o vs w
  exact ⟨h1.os, h1.tape, h1.output, h1.size, fun k _ hk => h2 k fun e => hk (by rw [e])⟩
/-- what 'Delete' leaves -/
def Deld (n0 : Nat) (R : Option Addr) (m cr : Nat) (fs : List Value) (w : World) (e : Ending) (w' : World) : Prop :=
  e = .returned (.slice R m cr) ∧ Rws n0 w' 60 (.slice R m cr) m (fs.take m) ∧ Off n0 w w' ∧ w.grownBy w' (Value.slice R m cr).ownBlock

/-- append of nothing, as an operation -/
theorem wp_append_zero {w : World} {o : Oper} {a : Act} {K : Act → World → Prop} {Q : Exit → Act → World → Prop} (s x : Operand) (ho : o.op = .call { callee := .builtin .append, args := #[s, x], argTypes := #[52, 52] }) (i : TypeInfo) (hi : Try.prog.info? 60 = some i)
    {A M : Option Addr} {n cap cm : Nat} (hs : a.eval s = .slice A n cap) (hx : a.eval x = .slice M 0 cm) (hn : n ≤ cap) (hA : A = none → n = 0) (hK : K (a.put o.dst (.slice A n cap)) w) : o.wp Try.prog a w K Q := by
  have hr := run_append_zero (P := Try.prog) w 52 o.type 60 i Try.underlying52 hi A M n cap cm hn hA
  unfold Oper.wp execOp
  simp only [ho, resolve, invoke, builtin, Sem.run_bind, Sem.run_pure, Result.andThen_ok, List.map_toArray, List.map_cons, List.map_nil, hs, hx, hr]
  exact hK

theorem zero60 (w : World) : (zeroValue 60).run Try.prog w = .ok Value.nilFunc w := by kernel_rfl

set_option maxHeartbeats 1600000 in
theorem deleteC (n0 : Nat) (w : World) (R : Option Addr) (n m cr : Nat) (fs : List Value) (h : Rws n0 w 60 (.slice R n cr) n fs) (hm : m ≤ n) (hn : n ≤ 1000) :
    Calls Try.prog 39 #[.slice R n cr, .int .i64 m, .int .i64 n] w (Deld n0 R m cr fs w) := by
  obtain ⟨A', c', e, q1, q2, q3⟩ := own_lies h.1
  injection e with e _ e'
  subst e e'
  obtain ⟨i0, hi, hz0, hz1, hz2⟩ := info_parts info60
  unfold Deld
  have HH := Lib.hid h
  unfold maxLen at q2
  by_cases hmn : m = n
  · subst hmn
    have hfl : fs.length = m := by have := h.1.1; omega
    have HF : Hid (Rws n0 w 60 (.slice R m cr) m (fs.take m)) := by rw [← hfl, List.take_length, hfl]; exact h
    clear h q3
    go_enter Try.func39, Try.ntmps39
    go_wp2
    go_ret
    exact ⟨rfl, HF.out, .refl _ _, ⟨rfl, rfl, rfl, Nat.le_refl _, fun _ _ _ => rfl⟩⟩
  · have hlt : m < n := by omega
    cases R with
    | none => 
      have := q3.none_nil.2
      omega
    | some ad =>
      obtain ⟨g, rfl⟩ : ∃ g, ad = ⟨g, 0, none⟩ := by
        rcases h.1.2 with ⟨h', _⟩ | ⟨g, cap, cur, h', _⟩
        · cases h'
        · injection h' with h' _ _
          injection h' with h'
          exact ⟨g, h'⟩
      have hb : ((m : Int) == (n : Int)) = false := by simp; omega
      clear h q3
      go_enter Try.func39, Try.ntmps39
      go_wp2
      have HF : Hid (Rws n0 (w.drew.setCells g m (List.replicate (n - m) Value.nilFunc)) 60 (.slice (some ⟨g, 0, none⟩) m cr) m (fs.take m) ∧ Off n0 w (w.drew.setCells g m (List.replicate (n - m) Value.nilFunc)) ∧ w.grownBy (w.drew.setCells g m (List.replicate (n - m) Value.nilFunc)) (some g)) := by
        have hd : Rws n0 w.drew 60 (.slice (some ⟨g, 0, none⟩) n cr) n fs := HH.out.on ((Below.refl _ _).drew)
        have hc := hd.cleared hm (List.replicate (n - m) Value.nilFunc) (fun v hv q y => by rw [List.eq_of_mem_replicate hv]; simp)
        have hg := setCells_grown g m (List.replicate (n - m) Value.nilFunc) w.drew
        have ho : Off n0 w.drew _ := .grown hg (hd.spb (.inr (.inr (.inl rfl))) rfl) (hc.spb (.inr (.inr (.inl rfl))) rfl)
        exact ⟨hc, (Off.of (Below.refl _ _).drew).trans ho, ⟨hg.os, hg.tape, hg.output, hg.size, hg.block⟩⟩
      have hcl : ∀ ty, (Builtin.clear_ #[52] ty #[.slice (some ⟨g, m, none⟩) (n - m) (cr - m)]).run Try.prog w.drew = .ok (.tuple #[]) (w.drew.setCells g m (List.replicate (n - m) Value.nilFunc)) := fun ty => by
        have hd : Rws n0 w.drew 60 (.slice (some ⟨g, 0, none⟩) n cr) n fs := HH.out.on ((Below.refl _ _).drew)
        refine Lib.run_clear_slice w.drew 52 60 ty Value.nilFunc Try.underlying52 zero60 rfl rfl g m (n - m) (cr - m) (by omega) (fun j hj => ?_) fun j hj => hd.1.frozenAt _
        have := hd.1.1
        rw [hd.1.cellAt (m + j) (by omega), List.getElem?_eq_getElem (by omega)]
        rfl
      by_cases hcr : cr = n
      · subst hcr
        refine wp_region_held_drew (S := fun w' => True) (by kernel_rfl) trivial (fun hHeld => ?_)
        refine wpAnyH_take (i := 0) (v := ?vea1) rfl (by kernel_rfl) (by kernel_rfl) (by kernel_rfl) (fun _ _ _ h => h) (Or.inl ⟨by kernel_rfl, ?yea1⟩) (by assumption) ?rea1
        case yea1 => (intro w hSw; (try dsimp only at hSw); go_simp; (try with_reducible rfl))
        try simp only [Act.put, List.getElem_toArray, List.getElem_cons_zero, List.getElem_cons_succ, List.setIfInBounds_toArray, List.set_cons_zero, List.set_cons_succ]
        refine wpAnyH_take (i := 1) (v := ?vea2) rfl (by kernel_rfl) (by kernel_rfl) (by kernel_rfl) (fun _ _ _ h => h) (Or.inl ⟨by kernel_rfl, ?yea2⟩) (by assumption) ?rea2
        case yea2 => (intro w hSw; (try dsimp only at hSw); go_simp; (try with_reducible rfl))
        try simp only [Act.put, List.getElem_toArray, List.getElem_cons_zero, List.getElem_cons_succ, List.setIfInBounds_toArray, List.set_cons_zero, List.set_cons_succ]
        refine wpAnyH_take (i := 2) (v := ?vea3) rfl (by kernel_rfl) (by kernel_rfl) (by kernel_rfl) (fun _ _ _ h => h) (Or.inl ⟨by kernel_rfl, ?yea3⟩) (by assumption) ?rea3
        case yea3 => (intro w hSw; (try dsimp only at hSw); go_simp; (try with_reducible rfl))
        try simp only [Act.put, List.getElem_toArray, List.getElem_cons_zero, List.getElem_cons_succ, List.setIfInBounds_toArray, List.set_cons_zero, List.set_cons_succ]
        refine wpAnyH_take (i := 3) (v := ?vea4) rfl (by kernel_rfl) (by kernel_rfl) (by kernel_rfl) (fun _ _ _ h => h) (Or.inl ⟨by kernel_rfl, ?yea4⟩) (by assumption) ?rea4
        case yea4 => (intro w hSw; (try dsimp only at hSw); go_simp; (try with_reducible rfl))
        try simp only [Act.put, List.getElem_toArray, List.getElem_cons_zero, List.getElem_cons_succ, List.setIfInBounds_toArray, List.set_cons_zero, List.set_cons_succ]
        refine wpAnyH_take (i := 4) (v := ?vea5) rfl (by kernel_rfl) (by kernel_rfl) (by kernel_rfl) (fun _ _ _ h => h) (Or.inl ⟨by kernel_rfl, ?yea5⟩) (by assumption) ?rea5
        case yea5 => (intro w hSw; (try dsimp only at hSw); go_simp; (try with_reducible rfl))
        try simp only [Act.put, List.getElem_toArray, List.getElem_cons_zero, List.getElem_cons_succ, List.setIfInBounds_toArray, List.set_cons_zero, List.set_cons_succ]
        refine wpAnyH_take (i := 5) (v := ?vea6) rfl (by kernel_rfl) (by kernel_rfl) (by kernel_rfl) (fun _ _ _ h => h) (Or.inl ⟨by kernel_rfl, ?yea6⟩) (by assumption) ?rea6
        case yea6 => (intro w hSw; (try dsimp only at hSw); go_simp; (try with_reducible rfl))
        try simp only [Act.put, List.getElem_toArray, List.getElem_cons_zero, List.getElem_cons_succ, List.setIfInBounds_toArray, List.set_cons_zero, List.set_cons_succ]
        refine wpAnyH_ready (rs := [6]) (by kernel_rfl) (by simp) ?_
        refine AllReadyH.cons rfl (fun K hK => ?_) AllReadyH.nil
        rw [if_pos (by rfl)]
        refine wp_append_zero (.tmp 22) (.tmp 25) rfl i0 hi (A := some ⟨g, 0, none⟩) (M := some ⟨g, 0, none⟩) (n := m) (cap := cr) (cm := 0) rfl (by first | rfl | simp) (by omega) (fun e => by cases e) ?_
        refine hK.out _ _ trivial (fun hHeld => ?_)
        clear hK K
        refine wpAnyH_take (i := 7) (v := ?vea7) rfl (by kernel_rfl) (by kernel_rfl) (by kernel_rfl) (fun _ _ _ h => h) (Or.inl ⟨by kernel_rfl, ?yea7⟩) (by assumption) ?rea7
        case yea7 => (intro w hSw; (try dsimp only at hSw); go_simp; (try with_reducible rfl))
        try simp only [Act.put, List.getElem_toArray, List.getElem_cons_zero, List.getElem_cons_succ, List.setIfInBounds_toArray, List.set_cons_zero, List.set_cons_succ]
        refine wpAnyH_done (by kernel_rfl) ?_ _
        go_wp2_with (simp only [hcl])
        go_ret
        exact ⟨rfl, HF.out⟩
      · have f1 : m ≤ cr := by omega
        refine wp_region_held_drew (S := fun w' => True) (by kernel_rfl) trivial (fun hHeld => ?_)
        refine wpAnyH_take (i := 0) (v := ?veb1) rfl (by kernel_rfl) (by kernel_rfl) (by kernel_rfl) (fun _ _ _ h => h) (Or.inl ⟨by kernel_rfl, ?yeb1⟩) (by assumption) ?reb1
        case yeb1 => (intro w hSw; (try dsimp only at hSw); go_simp; (try with_reducible rfl))
        try simp only [Act.put, List.getElem_toArray, List.getElem_cons_zero, List.getElem_cons_succ, List.setIfInBounds_toArray, List.set_cons_zero, List.set_cons_succ]
        refine wpAnyH_take (i := 1) (v := ?veb2) rfl (by kernel_rfl) (by kernel_rfl) (by kernel_rfl) (fun _ _ _ h => h) (Or.inl ⟨by kernel_rfl, ?yeb2⟩) (by assumption) ?reb2
        case yeb2 => (intro w hSw; (try dsimp only at hSw); go_simp; (try with_reducible rfl))
        try simp only [Act.put, List.getElem_toArray, List.getElem_cons_zero, List.getElem_cons_succ, List.setIfInBounds_toArray, List.set_cons_zero, List.set_cons_succ]
        refine wpAnyH_take (i := 2) (v := ?veb3) rfl (by kernel_rfl) (by kernel_rfl) (by kernel_rfl) (fun _ _ _ h => h) (Or.inl ⟨by kernel_rfl, ?yeb3⟩) (by assumption) ?reb3
        case yeb3 => (intro w hSw; (try dsimp only at hSw); go_simp; (try with_reducible rfl))
        try simp only [Act.put, List.getElem_toArray, List.getElem_cons_zero, List.getElem_cons_succ, List.setIfInBounds_toArray, List.set_cons_zero, List.set_cons_succ]
        refine wpAnyH_take (i := 3) (v := ?veb4) rfl (by kernel_rfl) (by kernel_rfl) (by kernel_rfl) (fun _ _ _ h => h) (Or.inl ⟨by kernel_rfl, ?yeb4⟩) (by assumption) ?reb4
        case yeb4 => (intro w hSw; (try dsimp only at hSw); go_simp; (try with_reducible rfl))
        try simp only [Act.put, List.getElem_toArray, List.getElem_cons_zero, List.getElem_cons_succ, List.setIfInBounds_toArray, List.set_cons_zero, List.set_cons_succ]
        refine wpAnyH_take (i := 4) (v := ?veb5) rfl (by kernel_rfl) (by kernel_rfl) (by kernel_rfl) (fun _ _ _ h => h) (Or.inl ⟨by kernel_rfl, ?yeb5⟩) (by assumption) ?reb5
        case yeb5 => (intro w hSw; (try dsimp only at hSw); go_simp; (try with_reducible rfl))
        try simp only [Act.put, List.getElem_toArray, List.getElem_cons_zero, List.getElem_cons_succ, List.setIfInBounds_toArray, List.set_cons_zero, List.set_cons_succ]
        refine wpAnyH_take (i := 5) (v := ?veb6) rfl (by kernel_rfl) (by kernel_rfl) (by kernel_rfl) (fun _ _ _ h => h) (Or.inl ⟨by kernel_rfl, ?yeb6⟩) (by assumption) ?reb6
        case yeb6 => (intro w hSw; (try dsimp only at hSw); go_simp; (try with_reducible rfl))
        try simp only [Act.put, List.getElem_toArray, List.getElem_cons_zero, List.getElem_cons_succ, List.setIfInBounds_toArray, List.set_cons_zero, List.set_cons_succ]
        refine wpAnyH_ready (rs := [6]) (by kernel_rfl) (by simp) ?_
        refine AllReadyH.cons rfl (fun K hK => ?_) AllReadyH.nil
        rw [if_pos (by rfl)]
        refine wp_append_zero (.tmp 22) (.tmp 25) rfl i0 hi (A := some ⟨g, 0, none⟩) (M := some ⟨g, n, none⟩) (n := m) (cap := cr) (cm := cr - n) rfl (by first | rfl | simp) (by omega) (fun e => by cases e) ?_
        refine hK.out _ _ trivial (fun hHeld => ?_)
        clear hK K
        refine wpAnyH_take (i := 7) (v := ?veb7) rfl (by kernel_rfl) (by kernel_rfl) (by kernel_rfl) (fun _ _ _ h => h) (Or.inl ⟨by kernel_rfl, ?yeb7⟩) (by assumption) ?reb7
        case yeb7 => (intro w hSw; (try dsimp only at hSw); go_simp; (try with_reducible rfl))
        try simp only [Act.put, List.getElem_toArray, List.getElem_cons_zero, List.getElem_cons_succ, List.setIfInBounds_toArray, List.set_cons_zero, List.set_cons_succ]
        refine wpAnyH_done (by kernel_rfl) ?_ _
        go_wp2_with (simp only [hcl])
        go_ret
        exact ⟨rfl, HF.out⟩
end Go.Proofs.Ytncbbjodianmoaa
