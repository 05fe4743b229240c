/- Rows of statements that grow in memory; a program of which one body is another one. Conditions: those in each theorem. -/
import Derived.Test.YtfcpabhkconjmaaGreatDoorZb
import Derived.Test.YtfcpabhkconjmaaGreatDoorMO
namespace Go.Proofs.YtfcpabhkconjmaaGreatDoor
open Go.RowKit
set_option maxRecDepth 100000
set_option linter.unusedSimpArgs false
set_option linter.unusedVariables false

theorem Rg.putL {B : Nat} {w9 u : World} {V : Value} {n : Nat} {xs : List Value} {b : Option Nat} (hR : Rg B w9 V n xs b u) {ops : Array Oper} {rest : List Oper} {o : Oper} {a : Act} {Q : Exit → Act → World → Prop} (hgd : o.guard = none) (s x : Operand)
    (ho : o.op = .call { callee := .builtin .append, args := #[s, x], argTypes := #[24, 24] }) (hs : a.eval s = V) (A : Option Addr) (m c : Nat) (hx : a.eval x = .slice A m c)
    (ys : List Value) (hF : RowF w9 (· < B) m ys (.slice A m c)) (hl : ys.length = m * 5) (h1 : ∀ y ∈ ys, y.oneCell' = true) (hn : n + m ≤ 100000) (n' : Nat) (hn' : n + m = n') (zs : List Value) (hzs : xs ++ ys = zs)
    (h : ∀ A' c' u', Rg B w9 (.slice A' n' c') n' zs b u' → wpList Tryz.prog ops Q rest (a.put o.dst (.slice A' n' c')) u') : wpList Tryz.prog ops Q (o :: rest) a u :=
  wpList_plain hgd fun _ hK => hR.put s x ho hs A m c hx ys hF hl h1 hn n' hn' zs hzs fun A' c' u' hr => hK _ _ (h A' c' u' hr)

theorem xssC_lenz (l : List Xs) : ∀ ks : List Three, ks.length = l.length → (xssC l ks).length = l.length * 6 := by
  induction l with
  | nil => intro ks _; simp [xssC]
  | cons f l ih =>
    intro ks hk
    cases ks with
    | nil => simp at hk
    | cons k ks =>
      have := ih ks (by simpa using hk)
      simp only [xssC, List.zipWith_cons_cons, List.flatten_cons, List.length_append, List.length_cons] at this ⊢
      rw [this]
      simp only [xsC, List.length_cons, List.length_nil]
      omega
theorem xssC_onez {w : World} {D : Nat → Prop} (l : List Xs) : ∀ ks : List Three, ks.length = l.length → (∀ (i : Nat) (s : Xs) (k : Three), l[i]? = some s → ks[i]? = some k → XesC w D s.exprs k.e) → (∀ (i : Nat) (s : Xs) (k : Three), l[i]? = some s → ks[i]? = some k → XssC w D s.body k.b) → (∀ (i : Nat) (s : Xs) (k : Three), l[i]? = some s → ks[i]? = some k → XssC w D s.els k.f) → ∀ y ∈ xssC l ks, y.oneCell' = true := by
  induction l with
  | nil => intro ks _ _ _ _ y hy; simp [xssC] at hy
  | cons f l ih =>
    intro ks hk he hb hf y hy
    cases ks with
    | nil => simp at hk
    | cons k ks =>
      simp only [xssC, List.zipWith_cons_cons, List.flatten_cons, List.mem_append] at hy
      rcases hy with hy | hy
      · obtain ⟨A1, c1, e1⟩ := xesC_slice (he 0 f k rfl rfl)
        obtain ⟨A2, c2, e2⟩ := xssC_slice (hb 0 f k rfl rfl)
        obtain ⟨A3, c3, e3⟩ := xssC_slice (hf 0 f k rfl rfl)
        rw [xsC, e1, e2, e3] at hy
        exact one6 y hy
      · exact ih ks (by simpa using hk) (fun i f' k' a b => he (i + 1) f' k' (by simpa using a) (by simpa using b)) (fun i f' k' a b => hb (i + 1) f' k' (by simpa using a) (by simpa using b)) (fun i f' k' a b => hf (i + 1) f' k' (by simpa using a) (by simpa using b)) y hy
/-- append of a row of statements onto a row of the call's own -/
theorem put48 {base : Nat} {u : World} {V : Value} {n : Nat} {xs : List Value} (own : u.ownsRow base 48 6 V n xs) (hB : base ≤ u.heap.size) {o : Oper} {a : Act} {K : Act → World → Prop} {Q : Exit → Act → World → Prop} (s x : Operand)
    (ho : o.op = .call { callee := .builtin .append, args := #[s, x], argTypes := #[34, 34] }) (hs : a.eval s = V) (A : Option Addr) (m c : Nat) (hx : a.eval x = .slice A m c) {D : Nat → Prop}
    (ys : List Value) (hF : RowF u D m ys (.slice A m c)) (hl : ys.length = m * 6) (h1 : ∀ y ∈ ys, y.oneCell' = true) (hn : n + m ≤ 100000) (n' : Nat) (hn' : n + m = n')
    (h : ∀ A' c' u', u'.ownsRow base 48 6 (.slice A' n' c') n' (xs ++ ys) → u.grownBy u' V.ownBlock → K (a.put o.dst (.slice A' n' c')) u') : o.wp Tryz.prog a u K Q := by
  subst hn'
  obtain ⟨i0, hi, hz0, hz1, hz2⟩ := info_parts info43
  obtain ⟨A0, c0, e, hmc, hcm, hnil, hc⟩ := hF
  injection e with e1 e2 e3
  subst e1 e3
  cases A with
  | none =>
    have hc0 := hnil rfl
    subst hc0
    have hm0 : m = 0 := by omega
    subst hm0
    have hys : ys = [] := List.eq_nil_of_length_eq_zero (by simpa using hl)
    subst hys
    have hr := run_append_owned_none (P := Tryz.prog) (w := u) base 34 o.type 48 i0 6 Tryz.underlying34 hi V n xs own
    unfold Oper.wp execOp
    simp only [ho, resolve, invoke, builtin, Sem.run_bind, Sem.run_pure, Result.andThen_ok, List.map_toArray, List.map_cons, List.map_nil, hs, hx, hr]
    obtain ⟨A1, c1, e1⟩ := own_shape own
    subst e1
    have := h A1 c1 u (by simpa using own) ⟨rfl, rfl, rfl, Nat.le_refl _, fun k _ _ => rfl⟩
    exact this
  | some ad =>
    have hnews : ∀ j v, ys[j]? = some v → u.cell? (ad.add j) = some v := by
      intro j v hv
      obtain ⟨ad', e, hb, hcell⟩ := hc j v hv
      injection e with e
      subst e
      exact hcell
    obtain ⟨v', u', hr, h2, h3, h4, h5⟩ := run_append_own_at (P := Tryz.prog) u base 34 o.type 48 i0 _ 6 104 Tryz.underlying34 hi hz0 hz1 hz2 rfl (by omega) V n xs own ad m c ys hl hnews h1 (by unfold maxLen; omega) (by omega) hB
    unfold Oper.wp execOp
    simp only [ho, resolve, invoke, builtin, Sem.run_bind, Sem.run_pure, Result.andThen_ok, List.map_toArray, List.map_cons, List.map_nil, hs, hx, hr]
    obtain ⟨A1, c1, e1⟩ := own_shape h2
    subst e1
    exact h A1 c1 u' h2 h3
theorem xfsC_set (v : Value) (b : List Xs) : ∀ (fs : List Xf) (ks : List Two) (k : Nat) (f : Xf) (q : Two), ks.length = fs.length → fs[k]? = some f → ks[k]? = some q → xfsC (fs.set k { f with body := b }) (ks.set k ⟨q.p, v⟩) = (xfsC fs ks).set (k * 5 + 3) v
  | [], _, k, f, q, _, h, _ => by simp at h
  | a :: fs, [], k, f, q, _, _, h => by simp at h
  | a :: fs, c :: ks, 0, f, q, _, hf, hq => by
    simp at hf hq
    subst hf hq
    simp [xfsC, xfC]
  | a :: fs, c :: ks, k + 1, f, q, hl, hf, hq => by
    have ih := xfsC_set v b fs ks k f q (by simpa using hl) (by simpa using hf) (by simpa using hq)
    unfold xfsC at ih ⊢
    simp only [List.set_cons_succ, List.zipWith_cons_cons, List.flatten_cons, ih]
    have e : (k + 1) * 5 + 3 = k * 5 + 3 + 1 + 1 + 1 + 1 + 1 := by omega
    rw [e]
    simp [xfC]
theorem xfsC_lenz (l : List Xf) : ∀ ks : List Two, ks.length = l.length → (xfsC l ks).length = l.length * 5 := by
  induction l with
  | nil => intro ks _; simp [xfsC]
  | cons f l ih =>
    intro ks hk
    cases ks with
    | nil => simp at hk
    | cons k ks =>
      have := ih ks (by simpa using hk)
      simp only [xfsC, List.zipWith_cons_cons, List.flatten_cons, List.length_append, List.length_cons] at this ⊢
      rw [this]
      simp only [xfC, List.length_cons, List.length_nil]
      omega
theorem range_row {w : World} {g n c : Nat} {cs : List Value} {D : Nat → Prop} (h : w.rangeAt g 0 cs) (hg : D g) (hn : n ≤ c) (hc : c ≤ maxLen) : RowF w D n cs (.slice (some ⟨g, 0, none⟩) n c) := by
  refine ⟨_, _, rfl, hn, hc, (fun e => by cases e), fun j u hu => ⟨_, rfl, hg, ?_⟩⟩
  have := h j u hu
  rw [Nat.zero_add] at this
  rw [Addr.add_lit, Nat.zero_add]
  exact this
/-- a program of which one body is another one, its row in a block of its own -/
theorem xfs_set {wz : World} {fs : List Xf} {ks : List Two} {b7 n c7 : Nat} {D : Nat → Prop} (k : Nat) (f : Xf) (q : Two) (hk : ks.length = fs.length) (hf : fs[k]? = some f) (hq : ks[k]? = some q) (b : List Xs) (v : Value)
    (hcells : wz.rangeAt b7 0 ((xfsC fs ks).set (k * 5 + 3) v)) (hn : fs.length = n) (hc : n ≤ c7) (hcm : c7 ≤ maxLen) (hlt : D b7)
    (hK : ∀ (i : Nat) (f : Xf) (k : Two), fs[i]? = some f → ks[i]? = some k → XfK wz D f k) (hB : XssC wz D b v) :
    XfsC wz D (fs.set k { f with body := b }) (ks.set k ⟨q.p, v⟩) (.slice (some ⟨b7, 0, none⟩) n c7) := by
  refine ⟨by simp [hk], ?_, ?_⟩
  · rw [List.length_set, hn, xfsC_set v b fs ks k f q hk hf hq]
    exact range_row hcells hlt hc hcm
  · intro i g r hg hr
    rw [List.getElem?_set] at hg hr
    by_cases hik : k = i
    · subst hik
      have hlt := (List.getElem?_eq_some_iff.1 hf).1
      rw [if_pos rfl, if_pos hlt] at hg
      rw [if_pos rfl, if_pos (by rw [hk]; exact hlt)] at hr
      injection hg with hg
      injection hr with hr
      subst hg hr
      have := hK k f q hf hq
      exact ⟨this.name, this.params, this.names, hB⟩
    · rw [if_neg hik] at hg hr
      exact hK i g r hg hr
/-- one statement ahead of those that lie -/
theorem xss_ahead {w : World} {D : Nat → Prop} {s : Xs} {l : List Xs} {k : Three} {ks : List Three} {n : Nat} {V : Value} (hn : l.length + 1 = n) (hks : ks.length = l.length) (hr : RowF w D n (xsC s k.e k.b k.f ++ xssC l ks) V) (hs : Byn s.text) (he : XesC w D s.exprs k.e) (hb : XssC w D s.body k.b) (hf : XssC w D s.els k.f)
    (ht : ∀ s ∈ l, Byn s.text) (hes : ∀ (i : Nat) (s : Xs) (k : Three), l[i]? = some s → ks[i]? = some k → XesC w D s.exprs k.e) (hbs : ∀ (i : Nat) (s : Xs) (k : Three), l[i]? = some s → ks[i]? = some k → XssC w D s.body k.b) (hfs : ∀ (i : Nat) (s : Xs) (k : Three), l[i]? = some s → ks[i]? = some k → XssC w D s.els k.f) :
    XssC w D (s :: l) V := by
  subst hn
  refine .mk (s :: l) (k :: ks) V (by simp [hks]) (by simpa [xssC] using hr) ?_ ?_ ?_ ?_
  · intro x hx
    rcases List.mem_cons.1 hx with rfl | hx
    · exact hs
    · exact ht x hx
  all_goals
    intro i x y hx hy
    cases i with
    | zero =>
      simp at hx hy
      subst hx hy
      first | exact he | exact hb | exact hf
    | succ i =>
      simp at hx hy
      first | exact hes i x y hx hy | exact hbs i x y hx hy | exact hfs i x y hx hy
end Go.Proofs.YtfcpabhkconjmaaGreatDoor
