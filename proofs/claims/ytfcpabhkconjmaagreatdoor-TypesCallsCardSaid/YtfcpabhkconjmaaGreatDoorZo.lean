/- TypesCalls: what its loop keeps in memory. Conditions: those in each theorem. -/
import Derived.Test.YtfcpabhkconjmaaGreatDoorZn
namespace Go.Proofs.YtfcpabhkconjmaaGreatDoor
open Go.RowKit
set_option maxRecDepth 100000
set_option linter.unusedSimpArgs false
set_option linter.unusedVariables false

/-- the cells of expressions without kids -/
def kC (os : List Int) : List Value := os.flatMap fun o => [.int .i64 o, .int .i64 0, .string ⟨#[]⟩, .slice none 0 0, .int .i64 0]
theorem kC_x : ∀ os : List Int, xesC (os.map kidX) (List.replicate os.length (.slice none 0 0)) = kC os
  | [] => rfl
  | o :: os => by
    have ih := kC_x os
    unfold xesC kC at *
    simp only [List.map_cons, List.length_cons, List.replicate_succ, List.zipWith_cons_cons, List.flatten_cons, List.flatMap_cons, ih]
    rfl
theorem kC_len (os : List Int) : (kC os).length = os.length * 5 := by
  unfold kC
  induction os with
  | nil => rfl
  | cons o os ih => simp only [List.flatMap_cons, List.length_append, ih, List.length_cons, List.length_nil]; omega
theorem kC_snoc (os : List Int) (o : Int) : kC (os ++ [o]) = kC os ++ [.int .i64 o, .int .i64 0, .string ⟨#[]⟩, .slice none 0 0, .int .i64 0] := by simp [kC]
theorem kC_one (os : List Int) : ∀ u ∈ kC os, u.oneCell' = true := by
  intro u hu
  unfold kC at hu
  obtain ⟨o, _, h⟩ := List.mem_flatMap.1 hu
  exact one5 u h
theorem kC_get (os : List Int) : ∀ (k : Nat) (o : Int), os[k]? = some o → (kC os)[k * 5]? = some (.int .i64 o) := by
  induction os with
  | nil => intro k o h; simp at h
  | cons a os ih =>
    intro k o h
    cases k with
    | zero => simp at h; subst h; simp [kC]
    | succ k =>
      have := ih k o (by simpa using h)
      rw [show (k + 1) * 5 = k * 5 + 5 by omega]
      unfold kC at this ⊢
      simp only [List.flatMap_cons]
      rw [List.getElem?_append_right (by simp)]
      simpa using this
theorem kC_set (os : List Int) : ∀ (k : Nat) (o : Int), k < os.length → kC (os.set k o) = (kC os).set (k * 5) (.int .i64 o) := by
  induction os with
  | nil => intro k o h; simp at h
  | cons a os ih =>
    intro k o h
    cases k with
    | zero => simp [kC]
    | succ k =>
      have := ih k o (by simpa using h)
      unfold kC at this ⊢
      rw [show (k + 1) * 5 = k * 5 + 1 + 1 + 1 + 1 + 1 by omega]
      simp [this]
theorem kC_sets (os : List Int) : ∀ (k : Nat) (o : Int), k < os.length → (((((kC os).set (k * 5) (.int .i64 o)).set (k * 5 + 1) (.int .i64 0)).set (k * 5 + 1 + 1) (.string ⟨#[]⟩)).set (k * 5 + 1 + 1 + 1) (.slice none 0 0)).set (k * 5 + 1 + 1 + 1 + 1) (.int .i64 0) = kC (os.set k o) := by
  induction os with
  | nil => intro k o h; simp at h
  | cons a os ih =>
    intro k o h
    cases k with
    | zero => simp [kC]
    | succ k =>
      have := ih k o (by simpa using h)
      unfold kC at this ⊢
      rw [show (k + 1) * 5 = k * 5 + 1 + 1 + 1 + 1 + 1 by omega]
      simp [this]
def setsL (xs : List Value) : Nat → List Value → List Value
  | _, [] => xs
  | i, c :: cs => setsL (xs.set i c) (i + 1) cs
theorem VarAt.sets {b : Nat} : ∀ (cs : List Value) (i : Nat) (w : World) (xs : List Value), VarAt w b xs → VarAt (w.setCells b i cs) b (setsL xs i cs)
  | [], _, _, _, h => h
  | c :: cs, i, w, xs, h => VarAt.sets cs (i + 1) (w.setCell ⟨b, i, none⟩ c) (xs.set i c) (h.set i c)
theorem VarAt.mid {w : World} {b : Nat} {xs : List Value} (h : VarAt w b xs) {o n : Nat} (hn : o + n ≤ xs.length) : w.there b o n := by
  intro j hj
  have := h.2 (o + j) (by omega)
  rw [Nat.zero_add] at this
  exact this
theorem own_varG {w : World} {base n size : Nat} {e : TypeId} {V : Value} {xs : List Value} (h : w.ownsRow base e size V n xs) (hn : 0 < n) : ∃ b c, V = .slice (some ⟨b, 0, none⟩) n c ∧ base ≤ b ∧ n ≤ c ∧ c ≤ maxLen ∧ VarAt w b xs ∧ b < w.heap.size := by
  obtain ⟨hl, ⟨_, h0⟩ | ⟨g, cap, cur, rfl, h1, h2, h3, h4, h5, h6⟩⟩ := h
  · omega
  · have hr := range_of (cs := cur.toList) (by simpa using h2)
    have ht := there_cells (cs := cur.toList) (n := cur.size) (by simpa using h2) (by simp)
    refine ⟨g, cap, rfl, h1, h3, h4, ⟨fun j v hv => hr j v ?_, fun j hj => ht j ?_⟩, (Array.getElem?_eq_some_iff.1 h2).1⟩
    · rw [← h6, List.getElem?_take] at hv
      split at hv
      · exact hv
      · cases hv
    · rw [hl] at hj
      rw [h5]
      exact Nat.lt_of_lt_of_le hj (Nat.mul_le_mul_right _ h3)
/-- append of a row of expressions onto a row of the call's own -/
theorem put46L {base : Nat} {u : World} {V : Value} {n : Nat} {xs : List Value} (own : u.ownsRow base 46 5 V n xs) (hB : base ≤ u.heap.size) {ops : Array Oper} {rest : List Oper} {o : Oper} {a : Act} {Q : Exit → Act → World → Prop} (hgd : o.guard = none) (s x : Operand)
    (ho : o.op = .call { callee := .builtin .append, args := #[s, x], argTypes := #[44, 44] }) (hs : a.eval s = V) (A : Option Addr) (m c : Nat) (hx : a.eval x = .slice A m c) {D : Nat → Prop}
    (ys : List Value) (hF : RowF u D m ys (.slice A m c)) (hl : ys.length = m * 5) (h1 : ∀ y ∈ ys, y.oneCell' = true) (hn : n + m ≤ 100000) (n' : Nat) (hn' : n + m = n') (zs : List Value) (hzs : xs ++ ys = zs)
    (h : ∀ A' c' u', u'.ownsRow base 46 5 (.slice A' n' c') n' zs → u.grownBy u' V.ownBlock → wpList Tryz.prog ops Q rest (a.put o.dst (.slice A' n' c')) u') : wpList Tryz.prog ops Q (o :: rest) a u := by
  subst hn' hzs
  refine wpList_plain hgd fun K hK => ?_
  obtain ⟨i0, hi, hz0, hz1, hz2⟩ := info_parts info39
  obtain ⟨A0, c0, e, hmc, hcm, hnil, hc⟩ := hF
  injection e with e1 e2 e3
  subst e1 e3
  cases A with
  | none =>
    have hc0 := hnil rfl
    subst hc0
    have hm0 : m = 0 := by omega
    subst hm0
    have hys : ys = [] := List.eq_nil_of_length_eq_zero (by simpa using hl)
    subst hys
    have hr := run_append_owned_none (P := Tryz.prog) (w := u) base 44 o.type 46 i0 5 Tryz.underlying44 hi V n xs own
    unfold Oper.wp execOp
    simp only [ho, resolve, invoke, builtin, Sem.run_bind, Sem.run_pure, Result.andThen_ok, List.map_toArray, List.map_cons, List.map_nil, hs, hx, hr]
    obtain ⟨A1, c1, e1⟩ := own_shape own
    subst e1
    have := hK _ _ (h A1 c1 u (by simpa using own) ⟨rfl, rfl, rfl, Nat.le_refl _, fun k _ _ => rfl⟩)
    exact this
  | some ad =>
    have hnews : ∀ j v, ys[j]? = some v → u.cell? (ad.add j) = some v := by
      intro j v hv
      obtain ⟨ad', e, hb, hcell⟩ := hc j v hv
      injection e with e
      subst e
      exact hcell
    obtain ⟨v', u', hr, h2, h3, h4, h5⟩ := run_append_own_at (P := Tryz.prog) u base 44 o.type 46 i0 _ 5 64 Tryz.underlying44 hi hz0 hz1 hz2 rfl (by omega) V n xs own ad m c ys hl hnews h1 (by unfold maxLen; omega) (by omega) hB
    unfold Oper.wp execOp
    simp only [ho, resolve, invoke, builtin, Sem.run_bind, Sem.run_pure, Result.andThen_ok, List.map_toArray, List.map_cons, List.map_nil, hs, hx, hr]
    obtain ⟨A1, c1, e1⟩ := own_shape h2
    subst e1
    exact hK _ _ (h A1 c1 u' h2 h3)
theorem own_none (w : World) : (w.alloc (.cells #[] 46)).ownsRow w.heap.size 46 5 (.slice (some ⟨w.heap.size, 0, none⟩) 0 0) 0 [] :=
  ⟨rfl, .inr ⟨w.heap.size, 0, #[], rfl, Nat.le_refl _, heap_alloc_new w _, Nat.le_refl _, Nat.zero_le _, rfl, rfl⟩⟩
theorem kC_drop (os : List Int) : kC (os.drop 1) = (kC os).drop 5 := by
  cases os with
  | nil => rfl
  | cons a os => simp [kC]
theorem kids_lie {w : World} {D : Nat → Prop} {os : List Int} {V : Value} (h : RowF w D os.length (kC os) V) : XesC w D (os.map kidX) V := by
  refine .mk _ (List.replicate os.length (.slice none 0 0)) V (by simp) (by rw [kC_x, List.length_map]; exact h) ?_ ?_
  · intro e he
    obtain ⟨o, _, rfl⟩ := List.mem_map.1 he
    exact bynB_iff.1 rfl
  · intro i e k he hk
    have hmem := List.mem_of_getElem? he
    obtain ⟨o, _, rfl⟩ := List.mem_map.1 hmem
    have : k = .slice none 0 0 := List.eq_of_mem_replicate (List.mem_of_getElem? hk)
    subst this
    exact XesC.none _ _
theorem xpsC_snoc (ps : List Int) (t : Int) : xpsC (parsAt 0 (ps ++ [t])) = xpsC (parsAt 0 ps) ++ [.string (strN [97 + ps.length]), .int .i64 t] := by
  rw [parsAt_snoc]
  simp [xpsC, xpC]
/-- the function's variable, its parameters' row, the arguments' row -/
structure CL (w1 wr : World) (fb : Nat) (V1 V2 : Value) (ps ks : List Int) : Prop where
  old : Below fb w1 wr
  var : VarAt wr fb [.string ⟨#[102]⟩, V1, .int .i64 0, .slice none 0 0, .int .i64 0]
  r1 : wr.ownsRow (fb + 1) 52 2 V1 ps.length (xpsC (parsAt 0 ps))
  r2 : wr.ownsRow (fb + 1) 46 5 V2 ks.length (kC ks)
  ne : ∀ b, V1.ownBlock = some b → V2.ownBlock ≠ some b
theorem CL.lt {w1 wr : World} {fb : Nat} {V1 V2 : Value} {ps ks : List Int} (h : CL w1 wr fb V1 V2 ps ks) : fb < wr.heap.size := h.var.lt (by simp)
theorem CL.low {w1 wr wy : World} {fb : Nat} {V1 V2 : Value} {ps ks : List Int} (h : CL w1 wr fb V1 V2 ps ks) (hb : Below wr.heap.size wr wy) : CL w1 wy fb V1 V2 ps ks :=
  ⟨h.old.trans (hb.mono (Nat.le_of_lt h.lt)), h.var.of (hb.block _ h.lt), own_below h.r1 hb (Nat.le_refl _), own_below h.r2 hb (Nat.le_refl _), h.ne⟩
theorem own_other {w w' : World} {base : Nat} {e : TypeId} {size : Nat} {v : Value} {n : Nat} {xs : List Value} (h : w.ownsRow base e size v n xs) (hs : ∀ b, v.ownBlock = some b → w'.heap[b]? = w.heap[b]?) : w'.ownsRow base e size v n xs := by
  refine ⟨h.1, ?_⟩
  rcases h.2 with h' | ⟨g, cap, cur, rfl, h1, hg, rest⟩
  · exact .inl h'
  · exact .inr ⟨g, cap, cur, rfl, h1, (hs g rfl).trans hg, rest⟩
theorem CL.addP {w1 wr u : World} {fb : Nat} {V1 V2 V1' : Value} {ps ks : List Int} {t : Int} {n : Nat} {news : List Value} (h : CL w1 wr fb V1 V2 ps ks) (hn : n = ps.length + 1) (ho : u.ownsRow (fb + 1) 52 2 V1' n (xpsC (parsAt 0 ps) ++ news)) (hg : wr.grownBy u V1.ownBlock)
    (hv : V1'.ownBlock = V1.ownBlock ∨ ∃ g, V1'.ownBlock = some g ∧ wr.heap.size ≤ g) (hnews : news = [.string (strN [97 + ps.length]), .int .i64 t]) : CL w1 (u.setCell ⟨fb, 1, none⟩ V1') fb V1' V2 (ps ++ [t]) ks := by
  have hfb : V1.ownBlock ≠ some fb := fun e => by have := (h.r1.lt fb e).1; omega
  have hfb' : V1'.ownBlock ≠ some fb := fun e => by have := (ho.lt fb e).1; omega
  have hfb2 : V2.ownBlock ≠ some fb := fun e => by have := (h.r2.lt fb e).1; omega
  refine ⟨(h.old.grown hg (Nat.le_of_lt h.lt) (fun b hb => by have := (h.r1.lt b hb).1; omega)).trans set_below, (h.var.of (hg.block fb h.lt (fun e => hfb e.symm))).set 1 V1', ?_, ?_, ?_⟩
  · have : u.ownsRow (fb + 1) 52 2 V1' (ps ++ [t]).length (xpsC (parsAt 0 (ps ++ [t]))) := by
      rw [xpsC_snoc, ← hnews, List.length_append]
      subst hn
      exact ho
    exact own_other this fun b hb => set_other b (fun e => hfb' (by rw [hb, e]))
  · exact own_other h.r2 fun b hb => (set_other b (fun e => hfb2 (by rw [hb, e]))).trans (hg.block b (h.r2.lt b hb).2 (fun e => h.ne b e.symm hb))
  · intro b hb hb2
    rcases hv with e | ⟨g, e, hge⟩
    · exact h.ne b (e ▸ hb) hb2
    · rw [e] at hb
      injection hb with hb
      have := (h.r2.lt b hb2).2
      omega
theorem CL.addK {w1 wr u : World} {fb : Nat} {V1 V2 V2' : Value} {ps ks : List Int} {t : Int} {n : Nat} {news : List Value} (h : CL w1 wr fb V1 V2 ps ks) (hn : n = ks.length + 1) (ho : u.ownsRow (fb + 1) 46 5 V2' n (kC ks ++ news)) (hg : wr.grownBy u V2.ownBlock)
    (hv : V2'.ownBlock = V2.ownBlock ∨ ∃ g, V2'.ownBlock = some g ∧ wr.heap.size ≤ g) (hnews : news = [.int .i64 t, .int .i64 0, .string ⟨#[]⟩, .slice none 0 0, .int .i64 0]) : CL w1 u fb V1 V2' ps (ks ++ [t]) := by
  have hfb : V2.ownBlock ≠ some fb := fun e => by have := (h.r2.lt fb e).1; omega
  refine ⟨h.old.grown hg (Nat.le_of_lt h.lt) (fun b hb => by have := (h.r2.lt b hb).1; omega), h.var.of (hg.block fb h.lt (fun e => hfb e.symm)), ?_, ?_, ?_⟩
  · exact own_other h.r1 fun b hb => hg.block b (h.r1.lt b hb).2 (fun e => h.ne b hb e.symm)
  · rw [kC_snoc, ← hnews, List.length_append]
    subst hn
    exact ho
  · intro b hb hb2
    rcases hv with e | ⟨g, e, hge⟩
    · exact h.ne b hb (e ▸ hb2)
    · rw [e] at hb2
      injection hb2 with hb2
      have := (h.r1.lt b hb).2
      omega
theorem rowf_below {w w' : World} {n : Nat} {xs : List Value} {V : Value} (h : RowF w (Lo w.heap.size) n xs V) (hb : Below w.heap.size w w') : RowF w' (Lo w'.heap.size) n xs V :=
  (h.same (same_below hb (Nat.le_refl _))).more fun k hk => Nat.lt_of_lt_of_le hk hb.size
/-- the closure's answer, in any later world -/
theorem call_any {w1 w9 : World} {fb : Nat} {Vp V2 V : Value} {ps ks os : List Int} {n : Nat} (hC : CL w1 w9 fb Vp V2 ps ks) (ho : Good3 os) (ht : Good3 ps) (hn : ps.length ≤ 15) (hl : os.length = n) (hr : RowF w9 (Lo w9.heap.size) n (kC os) V) (wy : World) (hb : Below w9.heap.size w9 wy) :
    Calls Tryz.prog 18 #[V, .pointer (some ⟨fb, 0, none⟩)] wy fun e w' => e = .returned (.int .i64 (if os = ps then 0 else 51)) ∧ Below wy.heap.size wy w' := by
  subst hl
  have hC' := hC.low hb
  exact callOne V Vp os ps fb wy ho ht hn (kids_lie (rowf_below hr hb)) ((RowF.own hC'.r1).more fun q h => h.2) hC'.var
theorem CL.start (w : World) : CL w (w.alloc (.cells #[.string ⟨#[102]⟩, .slice none 0 0, .int .i64 0, .slice none 0 0, .int .i64 0] 36)) w.heap.size (.slice none 0 0) (.slice none 0 0) [] [] :=
  ⟨below_alloc w _, VarAt.block (cs := [_, _, _, _, _]) (heap_alloc_new w _), ⟨rfl, .inl ⟨rfl, rfl⟩⟩, ⟨rfl, .inl ⟨rfl, rfl⟩⟩, fun b hb => by cases hb⟩
end Go.Proofs.YtfcpabhkconjmaaGreatDoor
