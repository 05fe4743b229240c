/- What the document's parser reads hangs on the tokens that it takes, not on their places, nor on what stands behind (but for a sign that goes on); nothing of the program. Conditions: those in each theorem. What the document's parser reads as an expression, a statement, a function hangs on the tokens that it takes alone; nothing of the program. Conditions: those in each theorem. What the document's parser reads as a statement, a block, a function hangs on the tokens that it takes alone; nothing of the program. Conditions: those in each theorem. Programs one behind the other are read as both; a program without its last token is none; nothing of the program. Conditions: those in each theorem. Tokens of a text that ends where its last token begins are all but that; what stands behind the last token; nothing of the program. Conditions: those in each theorem. -/
import Derived.Test.YtoicncfpoklanaaDoorTk
namespace Go.Proofs.YtoicncfpoklanaaDoor
section
/-- expressions that are the same but for places -/
inductive SimL : List Ex → List Ex → Prop
  | nil : SimL [] []
  | cons {e e' : Ex} {l l' : List Ex} (ho : e.op = e'.op) (hn : e.num = e'.num) (ht : e.text = e'.text) (hk : SimL e.kids e'.kids) (hl : SimL l l') : SimL (e :: l) (e' :: l')
def SimE (e e' : Ex) : Prop := e.op = e'.op ∧ e.num = e'.num ∧ e.text = e'.text ∧ SimL e.kids e'.kids
/-- statements that are the same but for places -/
inductive SimB : List St → List St → Prop
  | nil : SimB [] []
  | cons {s s' : St} {l l' : List St} (ho : s.op = s'.op) (ht : s.text = s'.text) (he : SimL s.exprs s'.exprs) (hb : SimB s.body s'.body) (hf : SimB s.els s'.els) (hl : SimB l l') : SimB (s :: l) (s' :: l')
def SimS (s s' : St) : Prop := s.op = s'.op ∧ s.text = s'.text ∧ SimL s.exprs s'.exprs ∧ SimB s.body s'.body ∧ SimB s.els s'.els
def SimF (f f' : Fu) : Prop := f.name = f'.name ∧ f.params = f'.params ∧ f.result = f'.result ∧ SimB f.body f'.body
inductive SimFs : List Fu → List Fu → Prop
  | nil : SimFs [] []
  | cons {f f' : Fu} {l l' : List Fu} (hf : SimF f f') (hl : SimFs l l') : SimFs (f :: l) (f' :: l')
mutual
theorem simL_refl : ∀ l : List Ex, SimL l l
  | [] => .nil
  | e :: l => .cons rfl rfl rfl (simK_refl e) (simL_refl l)
theorem simK_refl : ∀ e : Ex, SimL e.kids e.kids
  | .mk _ _ _ k _ => simL_refl k
end
theorem SimE.refl (e : Ex) : SimE e e := ⟨rfl, rfl, rfl, simL_refl _⟩
mutual
theorem simB_refl : ∀ l : List St, SimB l l
  | [] => .nil
  | s :: l => .cons rfl rfl (simL_refl _) (simBo_refl s) (simEl_refl s) (simB_refl l)
theorem simBo_refl : ∀ s : St, SimB s.body s.body
  | .mk _ _ _ b _ _ => simB_refl b
theorem simEl_refl : ∀ s : St, SimB s.els s.els
  | .mk _ _ _ _ b _ => simB_refl b
end
theorem SimS.refl (s : St) : SimS s s := ⟨rfl, rfl, simL_refl _, simB_refl _, simB_refl _⟩
theorem SimF.refl (f : Fu) : SimF f f := ⟨rfl, rfl, rfl, simB_refl _⟩
theorem SimFs.refl : ∀ l : List Fu, SimFs l l
  | [] => .nil
  | f :: l => .cons (SimF.refl f) (SimFs.refl l)
theorem SimL.append {a a' b b' : List Ex} (h : SimL a a') (k : SimL b b') : SimL (a ++ b) (a' ++ b') := by
  induction h with
  | nil => exact k
  | cons ho hn ht hk _ _ ih => exact .cons ho hn ht hk ih
theorem SimL.one {e e' : Ex} (h : SimE e e') : SimL [e] [e'] := .cons h.1 h.2.1 h.2.2.1 h.2.2.2 .nil
theorem SimB.append {a a' b b' : List St} (h : SimB a a') (k : SimB b b') : SimB (a ++ b) (a' ++ b') := by
  induction h with
  | nil => exact k
  | cons ho ht he hb hf _ _ _ ih => exact .cons ho ht he hb hf ih
theorem SimB.one {s s' : St} (h : SimS s s') : SimB [s] [s'] := .cons h.1 h.2.1 h.2.2.1 h.2.2.2.1 h.2.2.2.2 .nil
theorem SimFs.append {a a' b b' : List Fu} (h : SimFs a a') (k : SimFs b b') : SimFs (a ++ b) (a' ++ b') := by
  induction h with
  | nil => exact k
  | cons hf _ ih => exact .cons hf ih

def likeT (t t' : Tok) : Prop := t.kind = t'.kind ∧ t.text = t'.text ∧ t.num = t'.num
theorem likeT.refl (t : Tok) : likeT t t := ⟨rfl, rfl, rfl⟩
/-- tokens that are the same but for places -/
inductive Alike : List Tok → List Tok → Prop
  | nil : Alike [] []
  | cons {t t' : Tok} {a a' : List Tok} (h : likeT t t') (ha : Alike a a') : Alike (t :: a) (t' :: a')
theorem Alike.refl : ∀ a : List Tok, Alike a a
  | [] => .nil
  | t :: a => .cons (likeT.refl t) (Alike.refl a)
theorem Alike.length {a a' : List Tok} (h : Alike a a') : a.length = a'.length := by
  induction h with
  | nil => rfl
  | cons _ _ ih => simp [ih]
theorem Alike.append {a a' b b' : List Tok} (h : Alike a a') (k : Alike b b') : Alike (a ++ b) (a' ++ b') := by
  induction h with
  | nil => exact k
  | cons h _ ih => exact .cons h ih
theorem Alike.split : ∀ {a b c : List Tok}, Alike (a ++ b) c → ∃ a' b', c = a' ++ b' ∧ Alike a a' ∧ Alike b b'
  | [], b, c, h => ⟨[], c, rfl, .nil, h⟩
  | t :: a, b, c, h => by
    cases h with
    | cons h1 h2 =>
      obtain ⟨a', b', rfl, h3, h4⟩ := Alike.split h2
      exact ⟨_ :: a', b', rfl, .cons h1 h3, h4⟩
theorem isOne_like {t t' : Tok} (h : likeT t t') (ss : List (List Nat)) : isOne ss t = isOne ss t' := by unfold isOne; rw [h.1, h.2.1]
/-- signs behind which something goes on -/
def goOn : List (List (List Nat)) := [sOr, sAnd, sCmp, sSum, sProd, [[40]], [[101, 108, 115, 101]], [[61]], [[58]], [[59]]]
def Look (z z' : Nat) (r r' : List Tok) : Prop := ∀ ss ∈ goOn, seesT z ss r = seesT z' ss r'
theorem Look.app {z z' : Nat} {r r' a a' : List Tok} (h : Look z z' r r') (ha : Alike a a') : Look z z' (a ++ r) (a' ++ r') := by
  cases ha with
  | nil => exact h
  | cons h1 _ => exact fun ss _ => isOne_like h1 ss
/-- what is read hangs on the tokens that are taken alone -/
def LC {α : Type} (ρ : α → α → Prop) (z z' : Nat) (p p' : Par α) : Prop :=
  ∀ ts v r, p ts = .ok v r → ∃ a, ts = a ++ r ∧ ∀ a' r', Alike a a' → Look z z' r r' → ∃ v', p' (a' ++ r') = .ok v' r' ∧ ρ v v'
section
variable {α β : Type} {ρ : α → α → Prop} {σ : β → β → Prop} {z z' : Nat}
theorem LC.pure {v v' : α} (h : ρ v v') : LC ρ z z' (fun ts => .ok v ts) (fun ts => .ok v' ts) := by
  intro ts u r hu
  injection hu with h1 h2
  subst h1 h2
  refine ⟨[], rfl, fun a' r' ha _ => ?_⟩
  cases ha
  exact ⟨v', rfl, h⟩
theorem LC.none {p p' : Par α} (h : ∀ ts v r, p ts ≠ .ok v r) : LC ρ z z' p p' := fun ts v r hr => absurd hr (h ts v r)
theorem LC.bind {p p' : Par α} {f f' : α → Par β} (hr : ∀ v, ρ v v) (hp : LC ρ z z' p p') (hf : ∀ v v', ρ v v' → LC σ z z' (f v) (f' v')) : LC σ z z' (fun ts => (p ts).bind f) (fun ts => (p' ts).bind f') := by
  intro ts v r h
  obtain ⟨u, s, h1, h2⟩ := bind_inv h
  obtain ⟨a1, rfl, k1⟩ := hp ts u s h1
  obtain ⟨a2, rfl, _⟩ := hf u u (hr u) s v r h2
  refine ⟨a1 ++ a2, by simp, fun a' r' ha hl => ?_⟩
  obtain ⟨b1, b2, rfl, hb1, hb2⟩ := ha.split
  obtain ⟨u', h3, h4⟩ := k1 b1 (b2 ++ r') hb1 (hl.app hb2)
  obtain ⟨a3, e3, k3⟩ := hf u u' h4 (a2 ++ r) v r h2
  have e4 : a2 = a3 := List.append_cancel_right e3
  subst e4
  obtain ⟨v', h5, h6⟩ := k3 b2 r' hb2 hl
  refine ⟨v', ?_, h6⟩
  show (p' (b1 ++ b2 ++ r')).bind f' = _
  rw [List.append_assoc, h3]
  exact h5
theorem LC.first {p p' : Par α} (hT : Takes p) (h : ∀ t t', likeT t t' → LC ρ z z' (fun ts => p (t :: ts)) (fun ts => p' (t' :: ts))) : LC ρ z z' p p' := by
  intro ts v r hv
  cases ts with
  | nil => have := hT _ _ _ hv; simp at this
  | cons t ts =>
    obtain ⟨a, rfl, _⟩ := h t t (likeT.refl t) ts v r hv
    refine ⟨t :: a, rfl, fun a' r' ha hl => ?_⟩
    cases ha with
    | cons h1 h2 =>
      obtain ⟨b, e, k⟩ := h t _ h1 (a ++ r) v r hv
      have e4 : a = b := List.append_cancel_right e
      subst e4
      exact k _ r' h2 hl
theorem LC.congr {p p' q q' : Par α} (h : LC ρ z z' q q') (h1 : ∀ ts, p ts = q ts) (h2 : ∀ ts, p' ts = q' ts) : LC ρ z z' p p' := by
  intro ts v r hv
  rw [h1] at hv
  obtain ⟨a, e, k⟩ := h ts v r hv
  exact ⟨a, e, fun a' r' ha hl => by rw [h2]; exact k a' r' ha hl⟩
theorem LC.ite {c : Prop} [Decidable c] {p p' q q' : Par α} (hp : LC ρ z z' p p') (hq : LC ρ z z' q q') : LC ρ z z' (fun ts => if c then p ts else q ts) (fun ts => if c then p' ts else q' ts) := by
  by_cases h : c
  · exact hp.congr (fun ts => by rw [if_pos h]) (fun ts => by rw [if_pos h])
  · exact hq.congr (fun ts => by rw [if_neg h]) (fun ts => by rw [if_neg h])
end
section
variable {α β : Type} {ρ : α → α → Prop} {z z' : Nat}
theorem LC.after {p p' : Par α} {t t' : Tok} (hT : Takes p) (hp : LC ρ z z' p p') (h : likeT t t') : LC ρ z z' (fun ts => p (t :: ts)) (fun ts => p' (t' :: ts)) := by
  intro ts v r hv
  have hl := hT _ _ _ hv
  obtain ⟨a, e, k⟩ := hp (t :: ts) v r hv
  cases a with
  | nil => rw [List.nil_append] at e; rw [← e] at hl; omega
  | cons x a =>
    injection e with e1 e2
    subst e1 e2
    exact ⟨a, rfl, fun a' r' ha hlk => k (t' :: a') r' (.cons h ha) hlk⟩
theorem sees_app {ss : List (List Nat)} {a a' r r' : List Tok} (ha : Alike a a') (hl : Look z z' r r') (hss : ss ∈ goOn) : seesT z ss (a ++ r) = seesT z' ss (a' ++ r') := (hl.app ha) ss hss
/-- behind a sign that goes on -/
theorem LC.look {ss : List (List Nat)} (hss : ss ∈ goOn) {A A' : Tok → Par α} {Q Q' : Par α} (hA : ∀ t t', likeT t t' → LC ρ z z' (A t) (A' t')) (hQ : LC ρ z z' Q Q') :
    LC ρ z z' (fun r => if seesT z ss r then A (peekT z r) r.tail else Q r) (fun r => if seesT z' ss r then A' (peekT z' r) r.tail else Q' r) := by
  intro ts v r hv
  by_cases hs : seesT z ss ts = true
  · have hv : (if seesT z ss ts then A (peekT z ts) ts.tail else Q ts) = .ok v r := hv
    rw [if_pos hs] at hv
    cases ts with
    | nil => exact absurd hs (by simp [seesT, isOne, peekT, noTok])
    | cons t ts =>
      obtain ⟨a, e, _⟩ := hA t t (likeT.refl t) ts v r hv
      subst e
      refine ⟨t :: a, rfl, fun a' r' ha hl => ?_⟩
      cases ha with
      | @cons _ t' _ a' h1 h2 =>
        obtain ⟨b, e, k⟩ := hA t t' h1 (a ++ r) v r hv
        have e4 : a = b := List.append_cancel_right e
        subst e4
        have hs' : seesT z' ss (t' :: (a' ++ r')) = true := by
          show isOne ss t' = true
          rw [← isOne_like h1]
          exact hs
        show ∃ v', (if seesT z' ss (t' :: (a' ++ r')) then A' t' (a' ++ r') else Q' (t' :: (a' ++ r'))) = .ok v' r' ∧ ρ v v'
        rw [if_pos hs']
        exact k a' r' h2 hl
  · have hv : (if seesT z ss ts then A (peekT z ts) ts.tail else Q ts) = .ok v r := hv
    rw [if_neg hs] at hv
    obtain ⟨a, rfl, k⟩ := hQ ts v r hv
    refine ⟨a, rfl, fun a' r' ha hl => ?_⟩
    have hs' : ¬ seesT z' ss (a' ++ r') = true := by rw [← sees_app ha hl hss]; exact hs
    show ∃ v', (if seesT z' ss (a' ++ r') then _ else Q' (a' ++ r')) = .ok v' r' ∧ ρ v v'
    rw [if_neg hs']
    exact k a' r' ha hl
end
theorem sees_cons' (z : Nat) (ss : List (List Nat)) (t : Tok) (ts : List Tok) : seesT z ss (t :: ts) = isOne ss t := rfl
theorem lc_take (z z' k : Nat) (hk : k ≠ 0) : LC likeT z z' (takeT z k) (takeT z' k) := by
  refine LC.first (takes_take z k hk) fun t t' h => ?_
  refine (LC.ite (c := t.kind = k) (LC.pure h) (LC.none (fun ts v r => by simp [failT]))).congr (q := fun ts => if t.kind = k then .ok t ts else failT z 41 (t :: ts)) (q' := fun ts => if t.kind = k then .ok t' ts else failT z' 41 (t' :: ts)) (fun ts => rfl) (fun ts => ?_)
  unfold takeT
  rw [show (peekT z' (t' :: ts)).kind = t.kind from h.1.symm]
  rfl
theorem lc_want (z z' : Nat) (s : List Nat) : LC (· = ·) z z' (wantT z s) (wantT z' s) := by
  refine LC.first (takes_want z s) fun t t' h => ?_
  refine (LC.ite (c := isOne [s] t = true) (LC.pure rfl) (LC.none (fun ts v r => by simp [failT]))).congr (q := fun ts => if isOne [s] t = true then .ok () ts else failT z 41 (t :: ts)) (q' := fun ts => if isOne [s] t = true then .ok () ts else failT z' 41 (t' :: ts)) (fun ts => rfl) (fun ts => ?_)
  unfold wantT
  rw [sees_cons', ← isOne_like h]
  rfl
theorem erefl {α : Type} (v : α) : v = v := rfl
theorem lc_name (z z' : Nat) : LC (· = ·) z z' (nameP z) (nameP z') :=
  LC.bind likeT.refl (lc_take z z' 1 (by decide)) fun v v' h => by rw [h.2.1]; exact LC.pure rfl
theorem moreG_no {z : Nat} {ss : List (List Nat)} {p : Par Ex} {x : Ex} {ts : List Tok} (h : seesT z ss ts = false) : ∀ f, moreG z ss p f x ts = .ok x ts
  | 0 => rfl
  | f + 1 => by rw [moreG, if_neg (by simp [h])]
theorem sim_two {s s' : List Nat} {x x' y y' : Ex} {q q' : Nat} (hs : s = s') (hx : SimE x x') (hy : SimE y y') : SimE (.mk 6 0 s [x, y] q) (.mk 6 0 s' [x', y'] q') :=
  ⟨rfl, rfl, hs, .cons hx.1 hx.2.1 hx.2.2.1 hx.2.2.2 (SimL.one hy)⟩
theorem lc_moreG (z z' : Nat) (ss : List (List Nat)) (hss : ss ∈ goOn) (p p' : Par Ex) (hT : Takes p) (hp : LC SimE z z' p p') : ∀ (f : Nat) (x x' : Ex) (ts : List Tok) (v : Ex) (r : List Tok), ts.length ≤ f → SimE x x' → moreG z ss p f x ts = .ok v r →
    ∃ a, ts = a ++ r ∧ ∀ a' r' f', (a' ++ r').length ≤ f' → Alike a a' → Look z z' r r' → ∃ v', moreG z' ss p' f' x' (a' ++ r') = .ok v' r' ∧ SimE v v' := by
  intro f
  induction f with
  | zero =>
    intro x x' ts v r hl hx h
    have : ts = [] := List.eq_nil_of_length_eq_zero (by omega)
    subst this
    injection h with h1 h2
    subst h1 h2
    refine ⟨[], rfl, fun a' r' f' _ ha hlk => ?_⟩
    cases ha
    exact ⟨x', moreG_no (by rw [List.nil_append, ← hlk ss hss]; rfl) f', hx⟩
  | succ f ih =>
    intro x x' ts v r hl hx h
    cases hs : seesT z ss ts with
    | false =>
      rw [moreG_no hs] at h
      injection h with h1 h2
      subst h1 h2
      refine ⟨[], rfl, fun a' r' f' _ ha hlk => ?_⟩
      cases ha
      exact ⟨x', moreG_no (by rw [List.nil_append, ← hlk ss hss]; exact hs) f', hx⟩
    | true =>
      cases ts with
      | nil => simp [seesT, isOne, peekT, noTok] at hs
      | cons t ts =>
        rw [moreG, if_pos hs] at h
        obtain ⟨y, r1, h1, h2⟩ := bind_inv h
        have h1' : p ts = .ok y r1 := h1
        have h2' : moreG z ss p f (.mk 6 0 t.text [x, y] t.place) r1 = .ok v r := h2
        have hlt := hT _ _ _ h1'
        simp at hl
        obtain ⟨a1, e1, k1⟩ := hp ts y r1 h1'
        subst e1
        obtain ⟨a2, e2, _⟩ := ih _ _ r1 v r (by omega) (SimE.refl _) h2'
        subst e2
        refine ⟨t :: (a1 ++ a2), by simp, fun a' r' f' hf ha hlk => ?_⟩
        cases ha with
        | @cons _ t' _ b ht hb =>
          obtain ⟨b1, b2, rfl, hb1, hb2⟩ := hb.split
          obtain ⟨y', h3, h4⟩ := k1 b1 (b2 ++ r') hb1 (hlk.app hb2)
          obtain ⟨a3, e3, k3⟩ := ih _ (.mk 6 0 t'.text [x', y'] t'.place) (a2 ++ r) v r (by omega) (sim_two ht.2.1 hx h4) h2'
          have e4 : a2 = a3 := List.append_cancel_right e3
          subst e4
          obtain ⟨f'', rfl⟩ : ∃ g, f' = g + 1 := ⟨f' - 1, by simp at hf; omega⟩
          obtain ⟨v', h5, h6⟩ := k3 b2 r' f'' (by simp at hf ⊢; omega) hb2 hlk
          refine ⟨v', ?_, h6⟩
          have hs' : seesT z' ss (t' :: (b1 ++ b2 ++ r')) = true := by
            show isOne ss t' = true
            rw [← isOne_like ht]
            exact hs
          show moreG z' ss p' (f'' + 1) x' (t' :: (b1 ++ b2 ++ r')) = _
          rw [moreG, if_pos hs']
          show (p' (b1 ++ b2 ++ r')).bind _ = _
          rw [List.append_assoc, h3]
          exact h5
theorem lc_grouped (z z' : Nat) (ss : List (List Nat)) (hss : ss ∈ goOn) (p p' : Par Ex) (hT : Takes p) (hp : LC SimE z z' p p') : LC SimE z z' (groupedP z ss p) (groupedP z' ss p') := by
  intro ts v r h
  obtain ⟨x, r1, h1, h2⟩ := bind_inv h
  obtain ⟨a1, e1, k1⟩ := hp ts x r1 h1
  subst e1
  obtain ⟨a2, e2, _⟩ := lc_moreG z z' ss hss p p' hT hp r1.length x x r1 v r (Nat.le_refl _) (SimE.refl _) h2
  subst e2
  refine ⟨a1 ++ a2, by simp, fun a' r' ha hl => ?_⟩
  obtain ⟨b1, b2, rfl, hb1, hb2⟩ := ha.split
  obtain ⟨x', h3, h4⟩ := k1 b1 (b2 ++ r') hb1 (hl.app hb2)
  obtain ⟨a3, e3, k3⟩ := lc_moreG z z' ss hss p p' hT hp (a2 ++ r).length x x' (a2 ++ r) v r (Nat.le_refl _) h4 h2
  have e4 : a2 = a3 := List.append_cancel_right e3
  subst e4
  obtain ⟨v', h5, h6⟩ := k3 b2 r' (b2 ++ r').length (Nat.le_refl _) hb2 hl
  refine ⟨v', ?_, h6⟩
  unfold groupedP
  rw [List.append_assoc, h3]
  exact h5
theorem lc_joined (z z' : Nat) (p p' : Par Ex) (hp : LC SimE z z' p p') (x x' : Ex) (hx : SimE x x') : LC SimE z z' (joinedP z p x) (joinedP z' p' x') :=
  LC.bind likeT.refl (lc_take z z' 4 (by decide)) fun t t' ht => LC.bind SimE.refl hp fun y y' hy => LC.pure (sim_two ht.2.1 hx hy)
theorem lc_sum (z z' : Nat) (one one' : Par Ex) (hT : Takes one) (h : LC SimE z z' one one') : LC SimE z z' (sumP z one) (sumP z' one') :=
  lc_grouped z z' sSum (by decide) _ _ (takes_grouped z _ _ hT) (lc_grouped z z' sProd (by decide) _ _ hT h)
/-- behind a sign that goes on; the sign itself is read, too -/
theorem LC.looks {α : Type} {ρ : α → α → Prop} {z z' : Nat} {ss : List (List Nat)} (hss : ss ∈ goOn) {P P' Q Q' : Par α} (hP : LC ρ z z' P P') (hQ : LC ρ z z' Q Q') :
    LC ρ z z' (fun r => if seesT z ss r then P r else Q r) (fun r => if seesT z' ss r then P' r else Q' r) := by
  intro ts v r hv
  have hv : (if seesT z ss ts then P ts else Q ts) = .ok v r := hv
  by_cases hs : seesT z ss ts = true
  · rw [if_pos hs] at hv
    obtain ⟨a, rfl, k⟩ := hP ts v r hv
    refine ⟨a, rfl, fun a' r' ha hl => ?_⟩
    have hs' : seesT z' ss (a' ++ r') = true := by rw [← sees_app ha hl hss]; exact hs
    show ∃ v', (if seesT z' ss (a' ++ r') then P' (a' ++ r') else Q' (a' ++ r')) = .ok v' r' ∧ ρ v v'
    rw [if_pos hs']
    exact k a' r' ha hl
  · rw [if_neg hs] at hv
    obtain ⟨a, rfl, k⟩ := hQ ts v r hv
    refine ⟨a, rfl, fun a' r' ha hl => ?_⟩
    have hs' : ¬ seesT z' ss (a' ++ r') = true := by rw [← sees_app ha hl hss]; exact hs
    show ∃ v', (if seesT z' ss (a' ++ r') then P' (a' ++ r') else Q' (a' ++ r')) = .ok v' r' ∧ ρ v v'
    rw [if_neg hs']
    exact k a' r' ha hl
theorem lc_compare (z z' : Nat) (one one' : Par Ex) (hT : Takes one) (h : LC SimE z z' one one') : LC SimE z z' (compareP z one) (compareP z' one') :=
  LC.bind SimE.refl (lc_sum z z' one one' hT h) fun x x' hx => LC.looks (by decide) (lc_joined z z' _ _ (lc_sum z z' one one' hT h) x x' hx) (LC.pure hx)
theorem lc_levels (z z' : Nat) (one one' : Par Ex) (hT : Takes one) (h : LC SimE z z' one one') : LC SimE z z' (levelsP z one) (levelsP z' one') :=
  lc_grouped z z' sOr (by decide) _ _ (takes_grouped z _ _ (takes_compare z one hT)) (lc_grouped z z' sAnd (by decide) _ _ (takes_compare z one hT) (lc_compare z z' one one' hT h))
end

section
theorem lc_moreL {α : Type} {ρ : α → α → Prop} {L : List α → List α → Prop} (hL0 : ∀ l, L l l) (hLa : ∀ l l' v v', L l l' → ρ v v' → L (l ++ [v]) (l' ++ [v'])) (z z' : Nat) (p p' : Par α) (hT : Takes p) (hp : LC ρ z z' p p') : ∀ (f : Nat) (l l' : List α) (ts : List Tok) (v : List α) (r : List Tok), ts.length ≤ f → L l l' → moreL z p f l ts = .ok v r →
    ∃ a, ts = a ++ r ∧ ∀ a' r' f', (a' ++ r').length ≤ f' → Alike a a' → Look z z' r r' → ∃ v', moreL z' p' f' l' (a' ++ r') = .ok v' r' ∧ L v v' := by
  intro f
  induction f with
  | zero =>
    intro l l' ts v r hl hx h
    have : ts = [] := List.eq_nil_of_length_eq_zero (by omega)
    subst this
    simp [moreL, wantT, seesT, isOne, peekT, noTok, failT] at h
  | succ f ih =>
    intro l l' ts v r hl hx h
    cases ts with
    | nil => simp [moreL, wantT, seesT, isOne, peekT, noTok, failT] at h
    | cons t ts =>
      cases hs : isOne [[44]] t with
      | false =>
        have hs1 : ¬ seesT z [[44]] (t :: ts) = true := by rw [sees_cons', hs]; simp
        rw [moreL, if_neg hs1] at h
        obtain ⟨u, s, h1, h2⟩ := bind_inv h
        injection h2 with h3 h4
        subst h3 h4
        obtain ⟨a, e, k⟩ := lc_want z z' [41] _ _ _ h1
        refine ⟨a, e, fun a' r' f' hf ha hlk => ?_⟩
        obtain ⟨u', h5, _⟩ := k a' r' ha hlk
        have hne : a ≠ [] := by
          intro e0
          subst e0
          have := takes_want z [41] _ _ _ h1
          rw [List.nil_append] at e
          rw [← e] at this
          omega
        cases ha with
        | nil => exact absurd rfl hne
        | @cons x x' b b' hx1 hb =>
          injection e with e1 e2
          subst e1
          obtain ⟨f'', rfl⟩ : ∃ g, f' = g + 1 := ⟨f' - 1, by simp at hf; omega⟩
          have hs2 : ¬ seesT z' [[44]] (x' :: b' ++ r') = true := by
            show ¬ isOne [[44]] x' = true
            rw [← isOne_like hx1, hs]
            simp
          refine ⟨l', ?_, hx⟩
          rw [moreL, if_neg hs2, h5]
          rfl
      | true =>
        have hs1 : seesT z [[44]] (t :: ts) = true := hs
        rw [moreL, if_pos hs1] at h
        obtain ⟨y, r1, h1, h2⟩ := bind_inv h
        have h1' : p ts = .ok y r1 := h1
        have hlt := hT _ _ _ h1'
        simp at hl
        obtain ⟨a1, e1, k1⟩ := hp ts y r1 h1'
        subst e1
        obtain ⟨a2, e2, _⟩ := ih _ _ r1 v r (by omega) (hL0 _) h2
        subst e2
        refine ⟨t :: (a1 ++ a2), by simp, fun a' r' f' hf ha hlk => ?_⟩
        cases ha with
        | @cons _ t' _ b ht hb =>
          obtain ⟨b1, b2, rfl, hb1, hb2⟩ := hb.split
          obtain ⟨y', h3, h4⟩ := k1 b1 (b2 ++ r') hb1 (hlk.app hb2)
          obtain ⟨a3, e3, k3⟩ := ih _ (l' ++ [y']) (a2 ++ r) v r (by omega) (hLa _ _ _ _ hx h4) h2
          have e4 : a2 = a3 := List.append_cancel_right e3
          subst e4
          obtain ⟨f'', rfl⟩ : ∃ g, f' = g + 1 := ⟨f' - 1, by simp at hf; omega⟩
          obtain ⟨v', h5, h6⟩ := k3 b2 r' f'' (by simp at hf ⊢; omega) hb2 hlk
          refine ⟨v', ?_, h6⟩
          have hs' : seesT z' [[44]] (t' :: (b1 ++ b2 ++ r')) = true := by
            show isOne [[44]] t' = true
            rw [← isOne_like ht]
            exact hs
          show moreL z' p' (f'' + 1) l' (t' :: (b1 ++ b2 ++ r')) = _
          rw [moreL, if_pos hs']
          show (p' (b1 ++ b2 ++ r')).bind _ = _
          rw [List.append_assoc, h3]
          exact h5
/-- a part, and those behind it -/
theorem lc_parts {α : Type} {ρ : α → α → Prop} {L : List α → List α → Prop} (hL0 : ∀ l, L l l) (hLa : ∀ l l' v v', L l l' → ρ v v' → L (l ++ [v]) (l' ++ [v'])) (z z' : Nat) (p p' : Par α) (hT : Takes p) (hp : LC ρ z z' p p') :
    LC L z z' (fun r => (p r).bind fun x r' => moreL z p r'.length [x] r') (fun r => (p' r).bind fun x r' => moreL z' p' r'.length [x] r') := by
  intro ts v r h
  obtain ⟨x, r1, h1, h2⟩ := bind_inv h
  obtain ⟨a1, e1, k1⟩ := hp ts x r1 h1
  subst e1
  obtain ⟨a2, e2, _⟩ := lc_moreL hL0 hLa z z' p p' hT hp r1.length [x] [x] r1 v r (Nat.le_refl _) (hL0 _) h2
  subst e2
  refine ⟨a1 ++ a2, by simp, fun a' r' ha hl => ?_⟩
  obtain ⟨b1, b2, rfl, hb1, hb2⟩ := ha.split
  obtain ⟨x', h3, h4⟩ := k1 b1 (b2 ++ r') hb1 (hl.app hb2)
  obtain ⟨a3, e3, k3⟩ := lc_moreL hL0 hLa z z' p p' hT hp (a2 ++ r).length [x] [x'] (a2 ++ r) v r (Nat.le_refl _) (hLa [] [] _ _ (hL0 []) h4) h2
  have e4 : a2 = a3 := List.append_cancel_right e3
  subst e4
  obtain ⟨v', h5, h6⟩ := k3 b2 r' (b2 ++ r').length (Nat.le_refl _) hb2 hl
  refine ⟨v', ?_, h6⟩
  show (p' (b1 ++ b2 ++ r')).bind _ = _
  rw [List.append_assoc, h3]
  exact h5
theorem takes_parts {α : Type} (z : Nat) (p : Par α) (hT : Takes p) : Takes (fun r => (p r).bind fun x r' => moreL z p r'.length [x] r') := by
  intro ts v r h
  obtain ⟨x, r1, h1, h2⟩ := bind_inv h
  have := hT _ _ _ h1
  have := shrinks_moreL z p hT.shrinks _ _ _ _ _ h2
  omega
theorem lc_list {α : Type} {ρ : α → α → Prop} {L : List α → List α → Prop} (hL0 : ∀ l, L l l) (hLa : ∀ l l' v v', L l l' → ρ v v' → L (l ++ [v]) (l' ++ [v'])) (z z' : Nat) (p p' : Par α) (hT : Takes p) (hp : LC ρ z z' p p') :
    LC L z z' (listP z p) (listP z' p') := by
  refine LC.bind (ρ := (· = ·)) erefl (lc_want z z' [40]) fun _ _ _ => ?_
  have hT2 : Takes (fun r => if seesT z [[41]] r then .ok [] r.tail else (p r).bind fun x r' => moreL z p r'.length [x] r') := by
    intro ts v r h
    have h : (if seesT z [[41]] ts then .ok [] ts.tail else (p ts).bind fun x r' => moreL z p r'.length [x] r') = .ok v r := h
    by_cases hs : seesT z [[41]] ts = true
    · rw [if_pos hs] at h
      injection h with _ h
      subst h
      exact sees_tail hs
    · rw [if_neg hs] at h
      exact takes_parts z p hT _ _ _ h
  refine LC.first hT2 fun t t' ht => ?_
  refine (LC.ite (c := isOne [[41]] t = true) (LC.pure (hL0 [])) (LC.after (takes_parts z p hT) (lc_parts hL0 hLa z z' p p' hT hp) ht)).congr (fun ts => rfl) (fun ts => ?_)
  show (if seesT z' [[41]] (t' :: ts) then _ else _) = _
  rw [sees_cons', ← isOne_like ht]
  rfl
theorem hLaE : ∀ (l l' : List Ex) (v v' : Ex), SimL l l' → SimE v v' → SimL (l ++ [v]) (l' ++ [v']) := fun _ _ _ _ h k => h.append (SimL.one k)
section
variable {z z' : Nat} {e e' : Par Ex}
theorem lc_enclosed (he : LC SimE z z' e e') : LC SimL z z' (enclosedP z e) (enclosedP z' e') :=
  LC.bind (ρ := (· = ·)) erefl (lc_want z z' [40]) fun _ _ _ => LC.bind SimE.refl he fun _ _ hx => LC.bind (ρ := (· = ·)) erefl (lc_want z z' [41]) fun _ _ _ => LC.pure (SimL.one hx)
theorem lc_pair (he : LC SimE z z' e e') : LC SimL z z' (pairP z e) (pairP z' e') :=
  LC.bind (ρ := (· = ·)) erefl (lc_want z z' [40]) fun _ _ _ => LC.bind SimE.refl he fun _ _ hx => LC.bind (ρ := (· = ·)) erefl (lc_want z z' [44]) fun _ _ _ => LC.bind SimE.refl he fun _ _ hy =>
    LC.bind (ρ := (· = ·)) erefl (lc_want z z' [41]) fun _ _ _ => LC.pure ((SimL.one hx).append (SimL.one hy))
theorem lc_named (hT : Takes e) (he : LC SimE z z' e e') : LC SimE z z' (namedP z e) (namedP z' e') :=
  LC.bind likeT.refl (lc_take z z' 1 (by decide)) fun t t' ht => LC.looks (by decide) (LC.bind simL_refl (lc_list simL_refl hLaE z z' e e' hT he) fun l l' hl => LC.pure ⟨rfl, rfl, ht.2.1, hl⟩) (LC.pure ⟨rfl, rfl, ht.2.1, .nil⟩)
theorem lc_worded (hT : Takes e) (he : LC SimE z z' e e') : LC SimE z z' (wordedP z e) (wordedP z' e') := by
  refine LC.first (takes_worded z e hT.shrinks) fun t t' ht => ?_
  refine (LC.ite (c := isOne [[116, 114, 117, 101]] t = true) (LC.pure (ρ := SimE) (v := Ex.mk 2 1 [] [] 0) (v' := Ex.mk 2 1 [] [] 0) (SimE.refl _))
    (LC.ite (c := isOne [[102, 97, 108, 115, 101]] t = true) (LC.pure (ρ := SimE) (v := Ex.mk 2 0 [] [] 0) (v' := Ex.mk 2 0 [] [] 0) (SimE.refl _))
    (LC.ite (c := isOne [[103, 101, 116]] t = true) (LC.bind (σ := SimE) simL_refl (lc_enclosed he) fun l l' hl => LC.pure (ρ := SimE) (v := Ex.mk 8 0 [] l 0) (v' := Ex.mk 8 0 [] l' 0) ⟨rfl, rfl, rfl, hl⟩)
    (LC.ite (c := isOne [[104, 97, 115]] t = true) (LC.bind (σ := SimE) simL_refl (lc_enclosed he) fun l l' hl => LC.pure (ρ := SimE) (v := Ex.mk 9 0 [] l 0) (v' := Ex.mk 9 0 [] l' 0) ⟨rfl, rfl, rfl, hl⟩)
    (LC.bind (ρ := (· = ·)) (σ := SimE) erefl (LC.after (takes_want z [108, 101, 110]) (lc_want z z' [108, 101, 110]) ht) fun _ _ _ => LC.bind (σ := SimE) simL_refl (lc_enclosed he) fun l l' hl => LC.pure (ρ := SimE) (v := Ex.mk 10 0 [] l 0) (v' := Ex.mk 10 0 [] l' 0) ⟨rfl, rfl, rfl, hl⟩))))).congr (fun ts => rfl) (fun ts => ?_)
  unfold wordedP
  rw [sees_cons', sees_cons', sees_cons', sees_cons', ← isOne_like ht, ← isOne_like ht, ← isOne_like ht, ← isOne_like ht]
  rfl
theorem lc_primary (hT : Takes e) (he : LC SimE z z' e e') : LC SimE z z' (primaryP z e) (primaryP z' e') := by
  refine LC.first (takes_primary z e hT.shrinks) fun t t' ht => ?_
  refine (LC.ite (c := t.kind = 2) (LC.pure (ρ := SimE) (v := Ex.mk 1 t.num [] [] t.place) (v' := Ex.mk 1 t'.num [] [] t'.place) ⟨rfl, ht.2.2, rfl, .nil⟩)
    (LC.ite (c := t.kind = 3) (LC.pure (ρ := SimE) (v := Ex.mk 3 0 t.text [] t.place) (v' := Ex.mk 3 0 t'.text [] t'.place) ⟨rfl, rfl, ht.2.1, .nil⟩)
    (LC.ite (c := t.kind = 1) (LC.after (takes_named z e hT.shrinks) (lc_named hT he) ht)
    (LC.ite (c := isOne [[40]] t = true) (LC.bind (σ := SimE) simL_refl (LC.after (takes_enclosed z e hT.shrinks) (lc_enclosed he) ht) fun l l' hl => LC.pure (v := l.headD (.mk 0 0 [] [] 0)) (v' := l'.headD (.mk 0 0 [] [] 0)) (by
        cases hl with
        | nil => exact SimE.refl _
        | cons h1 h2 h3 h4 _ => exact ⟨h1, h2, h3, h4⟩))
    (LC.bind (σ := SimE) SimE.refl (LC.after (takes_worded z e hT.shrinks) (lc_worded hT he) ht) fun x x' hx => LC.pure (v := x.at t.place) (v' := x'.at t'.place) hx))))).congr (fun ts => rfl) (fun ts => ?_)
  unfold primaryP
  rw [show peekT z' (t' :: ts) = t' from rfl, ← ht.1, sees_cons', ← isOne_like ht]
  rfl
theorem lc_one {o o' : Par Ex} (hT : Takes e) (he : LC SimE z z' e e') (hTo : Shrinks o) (ho : LC SimE z z' o o') : LC SimE z z' (oneS z e o) (oneS z' e' o') := by
  refine LC.first (takes_one z e o hT.shrinks hTo) fun t t' ht => ?_
  refine (LC.ite (c := isOne sOne t = true) (LC.bind (σ := SimE) SimE.refl ho fun x x' hx => LC.pure (ρ := SimE) (v := Ex.mk 7 0 t.text [x] t.place) (v' := Ex.mk 7 0 t'.text [x'] t'.place) ⟨rfl, rfl, ht.2.1, SimL.one hx⟩)
    (LC.after (takes_primary z e hT.shrinks) (lc_primary hT he) ht)).congr (fun ts => rfl) (fun ts => ?_)
  unfold oneS
  rw [sees_cons', ← isOne_like ht]
  rfl
end
theorem lc_both (z z' : Nat) : ∀ g, LC SimE z z' (both z g).1 (both z' g).1 ∧ LC SimE z z' (both z g).2 (both z' g).2
  | 0 => ⟨LC.none (fun ts v r => by simp [both, failT]), LC.none (fun ts v r => by simp [both, failT])⟩
  | g + 1 => by
    have ih := lc_both z z' g
    have ht := takes_both z g
    have h1 := lc_one ht.1 ih.1 ht.2.shrinks ih.2
    exact ⟨lc_levels z z' _ _ (takes_one z _ _ ht.1.shrinks ht.2.shrinks) h1, h1⟩
theorem lc_expr (z z' g : Nat) : LC SimE z z' (exprP z g) (exprP z' g) := (lc_both z z' g).1
theorem lc_type (z z' : Nat) : LC (· = ·) z z' (typeP z) (typeP z') := by
  refine LC.first (takes_type z) fun t t' ht => ?_
  refine (LC.ite (c := isOne [[105, 110, 116]] t = true) (LC.pure (v := 1) (v' := 1) rfl) (LC.ite (c := isOne [[98, 111, 111, 108]] t = true) (LC.pure (v := 2) (v' := 2) rfl)
    (LC.bind (ρ := (· = ·)) erefl (LC.after (takes_want z [98, 121, 116, 101, 115]) (lc_want z z' [98, 121, 116, 101, 115]) ht) fun _ _ _ => LC.pure (v := 3) (v' := 3) rfl))).congr (fun ts => rfl) (fun ts => ?_)
  unfold typeP
  rw [sees_cons', sees_cons', ← isOne_like ht, ← isOne_like ht]
  rfl
end

section
def SimP (x x' : List Nat × Ex) : Prop := x.1 = x'.1 ∧ SimE x.2 x'.2
theorem SimP.refl (x : List Nat × Ex) : SimP x x := ⟨rfl, SimE.refl _⟩
theorem simS_mk {o : Nat} {s s' : List Nat} {l l' : List Ex} {b b' f f' : List St} {q q' : Nat} (hs : s = s') (hl : SimL l l') (hb : SimB b b') (hf : SimB f f') : SimS (.mk o s l b f q) (.mk o s' l' b' f' q') := ⟨rfl, hs, hl, hb, hf⟩
theorem sets_cons (z : Nat) (t : Tok) (ts : List Tok) : setsT (t :: ts) = (decide (t.kind = 1) && seesT z [[61]] ts) := by
  cases ts with
  | nil => simp [setsT, seesT, isOne, peekT, noTok]
  | cons u ts => rfl
section
variable {z z' : Nat} {e e' : Par Ex}
theorem lc_set (he : LC SimE z z' e e') : LC SimP z z' (setP z e) (setP z' e') :=
  LC.bind (ρ := (· = ·)) erefl (lc_name z z') fun s s' hs => LC.bind (ρ := (· = ·)) erefl (lc_want z z' [61]) fun _ _ _ => LC.bind SimE.refl he fun x x' hx => LC.pure (ρ := SimP) (v := (s, x)) (v' := (s', x')) ⟨hs, hx⟩
theorem lc_simple1 (hT : Takes e) (he : LC SimE z z' e e') {t t' : Tok} (ht : likeT t t') : LC SimS z z' (fun ts => simpleP z e (t :: ts)) (fun ts => simpleP z' e' (t' :: ts)) := by
  have hset := LC.bind (σ := SimS) SimP.refl (LC.after (takes_set z e hT.shrinks) (lc_set he) ht) (f := fun x r => .ok (.mk 2 x.1 [x.2] [] [] 0) r) (f' := fun x r => .ok (.mk 2 x.1 [x.2] [] [] 0) r) fun x x' hx => LC.pure (simS_mk hx.1 (SimL.one hx.2) .nil .nil)
  have hdo := LC.bind (σ := SimS) SimE.refl (LC.after hT he ht) (f := fun x r => .ok (.mk 8 [] [x] [] [] 0) r) (f' := fun x r => .ok (.mk 8 [] [x] [] [] 0) r) fun x x' hx => LC.pure (simS_mk rfl (SimL.one hx) .nil .nil)
  have hlast : LC SimS z z' (fun ts => if setsT (t :: ts) then (setP z e (t :: ts)).bind fun x r => .ok (.mk 2 x.1 [x.2] [] [] 0) r else (e (t :: ts)).bind fun x r => .ok (.mk 8 [] [x] [] [] 0) r)
      (fun ts => if setsT (t' :: ts) then (setP z' e' (t' :: ts)).bind fun x r => .ok (.mk 2 x.1 [x.2] [] [] 0) r else (e' (t' :: ts)).bind fun x r => .ok (.mk 8 [] [x] [] [] 0) r) := by
    by_cases hk : t.kind = 1
    · refine (LC.looks (ss := [[61]]) (by decide) hset hdo).congr (fun ts => ?_) (fun ts => ?_)
      · rw [sets_cons z, hk]; simp
      · rw [sets_cons z', ← ht.1, hk]; simp
    · refine hdo.congr (fun ts => ?_) (fun ts => ?_)
      · rw [sets_cons z, if_neg (by simp [hk])]
      · rw [sets_cons z', ← ht.1, if_neg (by simp [hk])]
  refine (LC.ite (c := isOne [[108, 101, 116]] t = true) (LC.bind (σ := SimS) SimP.refl (lc_set he) (f := fun x r => .ok (.mk 1 x.1 [x.2] [] [] 0) r) (f' := fun x r => .ok (.mk 1 x.1 [x.2] [] [] 0) r) fun x x' hx => LC.pure (simS_mk hx.1 (SimL.one hx.2) .nil .nil))
    (LC.ite (c := isOne [[114, 101, 116, 117, 114, 110]] t = true) (LC.looks (ss := [[59]]) (by decide) (LC.pure (ρ := SimS) (v := .mk 5 [] [] [] [] 0) (v' := .mk 5 [] [] [] [] 0) (SimS.refl _)) (LC.bind (σ := SimS) SimE.refl he (f := fun x r => .ok (.mk 5 [] [x] [] [] 0) r) (f' := fun x r => .ok (.mk 5 [] [x] [] [] 0) r) fun x x' hx => LC.pure (simS_mk rfl (SimL.one hx) .nil .nil)))
    (LC.ite (c := isOne [[112, 117, 116]] t = true) (LC.bind (σ := SimS) simL_refl (lc_pair he) (f := fun l r => .ok (.mk 6 [] l [] [] 0) r) (f' := fun l r => .ok (.mk 6 [] l [] [] 0) r) fun x x' hx => LC.pure (simS_mk rfl hx .nil .nil))
    (LC.ite (c := isOne [[100, 101, 108]] t = true) (LC.bind (σ := SimS) simL_refl (lc_enclosed he) (f := fun l r => .ok (.mk 7 [] l [] [] 0) r) (f' := fun l r => .ok (.mk 7 [] l [] [] 0) r) fun x x' hx => LC.pure (simS_mk rfl hx .nil .nil))
    hlast)))).congr (fun ts => rfl) (fun ts => ?_)
  unfold simpleP
  rw [sees_cons', sees_cons', sees_cons', sees_cons', ← isOne_like ht, ← isOne_like ht, ← isOne_like ht, ← isOne_like ht]
  rfl
variable {b b' : Par (List St)}
theorem lc_choice (he : LC SimE z z' e e') (hb : LC SimB z z' b b') : LC SimS z z' (choiceP z e b) (choiceP z' e' b') :=
  LC.bind SimE.refl he fun x x' hx => LC.bind simB_refl hb fun l l' hl => LC.look (ss := [[101, 108, 115, 101]]) (by decide) (A := fun _ q => (b q).bind fun m q' => .ok (.mk 3 [] [x] l m 0) q') (A' := fun _ q => (b' q).bind fun m q' => .ok (.mk 3 [] [x'] l' m 0) q')
    (fun _ _ _ => LC.bind simB_refl hb fun m m' hm => LC.pure (simS_mk rfl (SimL.one hx) hl hm)) (LC.pure (simS_mk rfl (SimL.one hx) hl .nil))
theorem lc_loop (he : LC SimE z z' e e') (hb : LC SimB z z' b b') : LC SimS z z' (loopP z e b) (loopP z' e' b') :=
  LC.bind SimP.refl (lc_set he) fun x x' hx => LC.bind (ρ := (· = ·)) erefl (lc_want z z' [116, 111]) fun _ _ _ => LC.bind SimE.refl he fun y y' hy => LC.bind simB_refl hb fun l l' hl =>
    LC.pure (ρ := SimS) (v := .mk 4 x.1 [x.2, y] l [] 0) (v' := .mk 4 x'.1 [x'.2, y'] l' [] 0) (simS_mk hx.1 ((SimL.one hx.2).append (SimL.one hy)) hl .nil)
theorem lc_stmt (hT : Takes e) (he : LC SimE z z' e e') (hTb : Shrinks b) (hb : LC SimB z z' b b') : LC SimS z z' (stmtP z e b) (stmtP z' e' b') := by
  refine LC.first (takes_stmt z e b hT.shrinks hTb) fun t t' ht => ?_
  have hs := LC.bind (σ := SimS) SimS.refl (lc_simple1 hT he ht) (f := fun s r => (wantT z [59] r).bind fun _ r' => .ok s r') (f' := fun s r => (wantT z' [59] r).bind fun _ r' => .ok s r') fun s s' h => LC.bind (ρ := (· = ·)) erefl (lc_want z z' [59]) fun _ _ _ => LC.pure h
  refine (LC.bind (σ := SimS) SimS.refl (LC.ite (c := isOne [[105, 102]] t = true) (lc_choice he hb) (LC.ite (c := isOne [[102, 111, 114]] t = true) (lc_loop he hb) hs)) (f := fun s r => .ok (s.at t.place) r) (f' := fun s r => .ok (s.at t'.place) r) fun s s' h => LC.pure (ρ := SimS) (v := s.at t.place) (v' := s'.at t'.place) h).congr (fun ts => rfl) (fun ts => ?_)
  unfold stmtP
  rw [sees_cons', sees_cons', ← isOne_like ht, ← isOne_like ht]
  rfl
end
theorem lc_moreS (z z' : Nat) (p p' : Par St) (hT : Takes p) (hp : LC SimS z z' p p') : ∀ (f : Nat) (l l' : List St) (ts : List Tok) (v : List St) (r : List Tok), ts.length ≤ f → SimB l l' → moreS z p f l ts = .ok v r →
    ∃ a, ts = a ++ r ∧ ∀ a' r' f', (a' ++ r').length ≤ f' → Alike a a' → Look z z' r r' → ∃ v', moreS z' p' f' l' (a' ++ r') = .ok v' r' ∧ SimB v v' := by
  intro f
  induction f with
  | zero =>
    intro l l' ts v r hl hx h
    have : ts = [] := List.eq_nil_of_length_eq_zero (by omega)
    subst this
    rw [moreS, if_neg (by simp [seesT, isOne, peekT, noTok])] at h
    obtain ⟨_, _, _, h2⟩ := bind_inv h
    cases h2
  | succ f ih =>
    intro l l' ts v r hl hx h
    cases ts with
    | nil =>
      rw [moreS, if_neg (by simp [seesT, isOne, peekT, noTok])] at h
      obtain ⟨_, _, h1, _⟩ := bind_inv h
      have := hT _ _ _ h1
      simp at this
    | cons t ts =>
      cases hs : isOne [[125]] t with
      | true =>
        have hs1 : seesT z [[125]] (t :: ts) = true := hs
        rw [moreS, if_pos hs1] at h
        injection h with h3 h4
        subst h3 h4
        refine ⟨[t], rfl, fun a' r' f' hf ha hlk => ?_⟩
        cases ha with
        | @cons _ t' _ b' ht hb =>
          cases hb
          obtain ⟨f'', rfl⟩ : ∃ g, f' = g + 1 := ⟨f' - 1, by simp at hf; omega⟩
          refine ⟨l', ?_, hx⟩
          have hs' : seesT z' [[125]] (t' :: r') = true := by
            show isOne [[125]] t' = true
            rw [← isOne_like ht]
            exact hs
          show moreS z' p' (f'' + 1) l' (t' :: r') = _
          rw [moreS, if_pos hs']
          rfl
      | false =>
        have hs1 : ¬ seesT z [[125]] (t :: ts) = true := by rw [sees_cons', hs]; simp
        rw [moreS, if_neg hs1] at h
        obtain ⟨y, r1, h1, h2⟩ := bind_inv h
        have hlt := hT _ _ _ h1
        simp only [List.length_cons] at hlt hl
        obtain ⟨a1, e1, k1⟩ := hp (t :: ts) y r1 h1
        cases a1 with
        | nil => rw [List.nil_append] at e1; rw [← e1] at hlt; simp at hlt
        | cons x a1 =>
          injection e1 with e1 e1'
          subst e1 e1'
          obtain ⟨a2, e2, _⟩ := ih _ _ r1 v r (by omega) (simB_refl _) h2
          subst e2
          refine ⟨t :: (a1 ++ a2), by simp, fun a' r' f' hf ha hlk => ?_⟩
          cases ha with
          | @cons _ t' _ b ht hb =>
            obtain ⟨b1, b2, rfl, hb1, hb2⟩ := hb.split
            obtain ⟨y', h3, h4⟩ := k1 (t' :: b1) (b2 ++ r') (.cons ht hb1) (hlk.app hb2)
            obtain ⟨a3, e3, k3⟩ := ih _ (l' ++ [y']) (a2 ++ r) v r (by omega) (hx.append (SimB.one h4)) h2
            have e4 : a2 = a3 := List.append_cancel_right e3
            subst e4
            obtain ⟨f'', rfl⟩ : ∃ g, f' = g + 1 := ⟨f' - 1, by simp at hf; omega⟩
            obtain ⟨v', h5, h6⟩ := k3 b2 r' f'' (by simp at hf ⊢; omega) hb2 hlk
            refine ⟨v', ?_, h6⟩
            have hs' : ¬ seesT z' [[125]] (t' :: (b1 ++ b2 ++ r')) = true := by
              show ¬ isOne [[125]] t' = true
              rw [← isOne_like ht, hs]
              simp
            show moreS z' p' (f'' + 1) l' (t' :: (b1 ++ b2 ++ r')) = _
            rw [moreS, if_neg hs']
            have h3' : p' (t' :: (b1 ++ b2 ++ r')) = .ok y' (b2 ++ r') := by rw [List.append_assoc]; exact h3
            rw [h3']
            exact h5
theorem lc_moreS' (z z' : Nat) (p p' : Par St) (hT : Takes p) (hp : LC SimS z z' p p') : LC SimB z z' (fun r => moreS z p r.length [] r) (fun r => moreS z' p' r.length [] r) := by
  intro ts v r h
  obtain ⟨a, e, k⟩ := lc_moreS z z' p p' hT hp ts.length [] [] ts v r (Nat.le_refl _) .nil h
  exact ⟨a, e, fun a' r' ha hl => k a' r' _ (Nat.le_refl _) ha hl⟩
theorem lc_block (z z' : Nat) : ∀ g, LC SimB z z' (blockP z g) (blockP z' g)
  | 0 => LC.none (fun ts v r => by simp [blockP, failT])
  | g + 1 => LC.bind (ρ := (· = ·)) erefl (lc_want z z' [123]) fun _ _ _ => lc_moreS' z z' _ _ (takes_stmt z _ _ (takes_expr z g).shrinks (takes_block z g).shrinks) (lc_stmt (takes_expr z g) (lc_expr z z' g) (takes_block z g).shrinks (lc_block z z' g))
theorem lc_param (z z' : Nat) : LC (· = ·) z z' (paramP z) (paramP z') :=
  LC.bind (ρ := (· = ·)) erefl (lc_name z z') fun s s' hs => LC.bind (ρ := (· = ·)) erefl (lc_want z z' [58]) fun _ _ _ => LC.bind (ρ := (· = ·)) erefl (lc_type z z') fun t t' ht => by
    subst hs ht
    exact LC.pure rfl
theorem lc_func (z z' : Nat) : LC SimF z z' (funcP z) (funcP z') := by
  refine LC.first (takes_func z) fun t t' ht => ?_
  refine (LC.bind (ρ := (· = ·)) (σ := SimF) erefl (LC.after (takes_want z [102, 110]) (lc_want z z' [102, 110]) ht) fun _ _ _ => LC.bind (ρ := (· = ·)) (σ := SimF) erefl (lc_name z z') fun s s' hs =>
    LC.bind (ρ := (· = ·)) (σ := SimF) erefl (lc_list (ρ := (· = ·)) (L := (· = ·)) erefl (fun l l' v v' h1 h2 => by rw [h1, h2]) z z' _ _ (takes_param z) (lc_param z z')) fun l l' hl =>
    LC.bind (ρ := (· = ·)) (σ := SimF) erefl (LC.look (ss := [[58]]) (by decide) (A := fun _ => typeP z) (A' := fun _ => typeP z') (fun _ _ _ => lc_type z z') (LC.pure (v := 0) (v' := 0) rfl)) fun y y' hy =>
    LC.bind (σ := SimF) simB_refl (lc_block z z' 32) fun b b' hb => LC.pure (ρ := SimF) (v := ⟨s, l, y, b, t.place⟩) (v' := ⟨s', l', y', b', t'.place⟩) ⟨hs, hl, hy, hb⟩).congr (fun ts => rfl) (fun ts => rfl)
end

section
/-- tokens that are functions, one behind the other -/
inductive Fns (z : Nat) : List Tok → List Fu → Prop
  | nil : Fns z [] []
  | cons {ts r : List Tok} {f : Fu} {fs : List Fu} (h : funcP z ts = .ok f r) (hr : Fns z r fs) : Fns z ts (f :: fs)
theorem moreF_fns (z : Nat) : ∀ (f : Nat) (l : List Fu) (ts : List Tok) (v : List Fu) (r : List Tok), ts.length ≤ f → moreF z f l ts = .ok v r → r = [] ∧ ∃ fs, v = l ++ fs ∧ Fns z ts fs
  | 0, l, ts, v, r, hl, h => by
    have : ts = [] := List.eq_nil_of_length_eq_zero (by omega)
    subst this
    injection h with h1 h2
    subst h1 h2
    exact ⟨rfl, [], by simp, .nil⟩
  | f + 1, l, ts, v, r, hl, h => by
    cases ts with
    | nil =>
      injection h with h1 h2
      subst h1 h2
      exact ⟨rfl, [], by simp, .nil⟩
    | cons t ts =>
      rw [moreF, if_neg (by simp)] at h
      obtain ⟨x, r1, h1, h2⟩ := bind_inv h
      have hlt := takes_func z _ _ _ h1
      obtain ⟨e1, fs, e2, h3⟩ := moreF_fns z f (l ++ [x]) r1 v r (by simp at hl hlt; omega) h2
      exact ⟨e1, x :: fs, by rw [e2]; simp, .cons h1 h3⟩
theorem fns_moreF {z : Nat} {ts : List Tok} {fs : List Fu} (h : Fns z ts fs) : ∀ (f : Nat) (l : List Fu), ts.length ≤ f → moreF z f l ts = .ok (l ++ fs) [] := by
  induction h with
  | nil =>
    intro f l _
    cases f with
    | zero => simp [moreF]
    | succ f => simp [moreF]
  | @cons ts r x fs h1 _ ih =>
    intro f l hl
    have hlt := takes_func z _ _ _ h1
    cases f with
    | zero => omega
    | succ f =>
      cases ts with
      | nil => simp at hlt
      | cons t ts =>
        rw [moreF, if_neg (by simp), h1, Res.bind_ok, ih f (l ++ [x]) (by omega)]
        simp
theorem program_fns {z : Nat} {ts : List Tok} {fs : List Fu} {r : List Tok} (h : programP z ts = .ok fs r) : Fns z ts fs := by
  obtain ⟨_, gs, e, h2⟩ := moreF_fns z ts.length [] ts fs r (Nat.le_refl _) h
  rw [List.nil_append] at e
  rw [e]
  exact h2
theorem fns_program {z : Nat} {ts : List Tok} {fs : List Fu} (h : Fns z ts fs) : programP z ts = .ok fs [] := by
  have := fns_moreF h ts.length [] (Nat.le_refl _)
  rw [List.nil_append] at this
  exact this
theorem func_fn {z : Nat} {ts r : List Tok} {f : Fu} (h : funcP z ts = .ok f r) : ∃ t ts', ts = t :: ts' ∧ t.kind = 4 ∧ t.text = [102, 110] := by
  obtain ⟨_, r1, h1, _⟩ := bind_inv h
  cases ts with
  | nil => simp [wantT, seesT, isOne, peekT, noTok, failT] at h1
  | cons t ts =>
    refine ⟨t, ts, rfl, ?_⟩
    unfold wantT at h1
    rw [sees_cons'] at h1
    cases hs : isOne [[102, 110]] t with
    | false => rw [hs] at h1; simp [failT] at h1
    | true =>
      simp [isOne] at hs
      exact hs
/-- no sign that goes on -/
def Still (z : Nat) (ts : List Tok) : Prop := ∀ ss ∈ goOn, seesT z ss ts = false
theorem still_nil (z : Nat) : Still z [] := fun ss _ => by simp [seesT, isOne, peekT, noTok]
theorem still_sign {z : Nat} {t : Tok} {ts : List Tok} (h : ∀ ss ∈ goOn, ss.contains t.text = false) : Still z (t :: ts) := fun ss hss => by
  rw [sees_cons', isOne, h ss hss, Bool.and_false]
theorem still_fn {z : Nat} {t : Tok} {ts : List Tok} (h : t.text = [102, 110]) : Still z (t :: ts) := still_sign (by rw [h]; decide)
theorem still_end {z : Nat} {t : Tok} {ts : List Tok} (h : t.text = [125]) : Still z (t :: ts) := still_sign (by rw [h]; decide)
theorem still_fns {z : Nat} {ts : List Tok} {fs : List Fu} (h : Fns z ts fs) : Still z ts := by
  cases h with
  | nil => exact still_nil z
  | cons h1 _ =>
    obtain ⟨t, ts', rfl, _, h3⟩ := func_fn h1
    exact still_fn h3
theorem look_still {z z' : Nat} {r r' : List Tok} (h : Still z r) (h' : Still z' r') : Look z z' r r' := fun ss hss => by rw [h ss hss, h' ss hss]
theorem Still.alike {z z' : Nat} {r r' s : List Tok} (h : Still z r) (ha : Alike r r') (hs : Still z' s) : Still z' (r' ++ s) := by
  cases ha with
  | nil => exact hs
  | cons h1 _ =>
    intro ss hss
    have := h ss hss
    rw [sees_cons', isOne_like h1] at this
    exact this
/-- functions, and others behind them -/
theorem fns_both {z z' : Nat} {ts : List Tok} {fs : List Fu} (h : Fns z ts fs) : ∀ (ts' us : List Tok) (gs : List Fu), Alike ts ts' → Fns z' us gs → ∃ fs', Fns z' (ts' ++ us) (fs' ++ gs) ∧ SimFs fs fs' := by
  induction h with
  | nil =>
    intro ts' us gs ha hg
    cases ha
    exact ⟨[], hg, .nil⟩
  | @cons ts r x fs h1 hr ih =>
    intro ts' us gs ha hg
    obtain ⟨a, e, k⟩ := lc_func z z' ts x r h1
    subst e
    obtain ⟨a', r', rfl, ha1, hr1⟩ := ha.split
    obtain ⟨fs', h2, h3⟩ := ih r' us gs hr1 hg
    obtain ⟨x', h4, h5⟩ := k a' (r' ++ us) ha1 (look_still (still_fns hr) (still_fns h2))
    exact ⟨x' :: fs', .cons (by rw [List.append_assoc]; exact h4) h2, .cons h5 h3⟩

/-- nothing is no expression -/
theorem expr_nil (z g : Nat) : exprP z (g + 1) [] = .bad 41 z := rfl
theorem stmt_nil (z g : Nat) (b : Par (List St)) : stmtP z (exprP z (g + 1)) b [] = .bad 41 z := rfl
theorem last_split {α : Type} {a r b : List α} {t : α} (h : b ++ [t] = a ++ r) (hr : r ≠ []) : ∃ r0, r = r0 ++ [t] ∧ b = a ++ r0 := by
  have e : r = r.dropLast ++ [r.getLast hr] := (List.dropLast_concat_getLast hr).symm
  rw [e, ← List.append_assoc] at h
  have h2 := List.append_inj' h rfl
  have h3 : t = r.getLast hr := by simpa using h2.2
  exact ⟨r.dropLast, by rw [h3]; exact e, h2.1⟩
theorem isOne_end {t : Tok} (h : isOne [[125]] t = true) : t.text = [125] := by
  simp [isOne] at h
  exact h.2
/-- statements without the sign at their end -/
theorem moreS_cut (z z' : Nat) (p p' : Par St) (hT : Takes p) (hp : LC SimS z z' p p') (hn : p' [] = .bad 41 z') : ∀ (f : Nat) (l : List St) (b : List Tok) (t : Tok) (v : List St), (b ++ [t]).length ≤ f → moreS z p f l (b ++ [t]) = .ok v [] → isOne [[125]] t = true ∧ ∀ (f' : Nat) (l' : List St), b.length ≤ f' → moreS z' p' f' l' b = .bad 41 z' := by
  intro f
  induction f with
  | zero => intro l b t v hl; simp at hl
  | succ f ih =>
    intro l b t v hl h
    cases b with
    | nil =>
      cases hs : isOne [[125]] t with
      | false =>
        have hs1 : ¬ seesT z [[125]] ([] ++ [t]) = true := by show ¬ isOne [[125]] t = true; rw [hs]; simp
        rw [moreS, if_neg hs1] at h
        obtain ⟨y, r1, h1, h2⟩ := bind_inv h
        have hlt := hT _ _ _ h1
        have hr1 : r1 = [] := List.eq_nil_of_length_eq_zero (by have : ([] ++ [t] : List Tok).length = 1 := rfl; omega)
        subst hr1
        cases f with
        | zero =>
          rw [moreS, if_neg (by simp [seesT, isOne, peekT, noTok])] at h2
          obtain ⟨_, _, _, h3⟩ := bind_inv h2
          cases h3
        | succ f =>
          rw [moreS, if_neg (by simp [seesT, isOne, peekT, noTok])] at h2
          obtain ⟨_, _, h3, _⟩ := bind_inv h2
          have := hT _ _ _ h3
          simp at this
      | true =>
        refine ⟨rfl, fun f' l' _ => ?_⟩
        cases f' with
        | zero => rw [moreS, if_neg (by simp [seesT, isOne, peekT, noTok]), hn]; rfl
        | succ f' => rw [moreS, if_neg (by simp [seesT, isOne, peekT, noTok]), hn]; rfl
    | cons x b =>
      cases hs : isOne [[125]] x with
      | true =>
        have hs1 : seesT z [[125]] (x :: b ++ [t]) = true := hs
        rw [moreS, if_pos hs1] at h
        injection h with _ h4
        simp at h4
      | false =>
        have hs1 : ¬ seesT z [[125]] (x :: b ++ [t]) = true := by show ¬ isOne [[125]] x = true; rw [hs]; simp
        rw [moreS, if_neg hs1] at h
        obtain ⟨y, r1, h1, h2⟩ := bind_inv h
        have hlt := hT _ _ _ h1
        have hr1 : r1 ≠ [] := by
          intro e0
          subst e0
          cases f with
          | zero =>
            rw [moreS, if_neg (by simp [seesT, isOne, peekT, noTok])] at h2
            obtain ⟨_, _, _, h3⟩ := bind_inv h2
            cases h3
          | succ f =>
            rw [moreS, if_neg (by simp [seesT, isOne, peekT, noTok])] at h2
            obtain ⟨_, _, h3, _⟩ := bind_inv h2
            have := hT _ _ _ h3
            simp at this
        obtain ⟨a1, e1, k1⟩ := hp _ y r1 h1
        obtain ⟨r0, e2, e3⟩ := last_split e1 hr1
        subst e2
        have hlen : (r0 ++ [t]).length ≤ f := by simp at hlt hl ⊢; omega
        obtain ⟨ht, hbad⟩ := ih (l ++ [y]) r0 t v hlen h2
        refine ⟨ht, fun f' l' hf => ?_⟩
        have hlook : Look z z' (r0 ++ [t]) r0 := by
          cases r0 with
          | nil => exact look_still (still_end (isOne_end ht)) (still_nil z')
          | cons u r0 => exact fun ss _ => rfl
        obtain ⟨y', h3, _⟩ := k1 a1 r0 (Alike.refl _) hlook
        rw [← e3] at h3
        obtain ⟨f'', rfl⟩ : ∃ q, f' = q + 1 := ⟨f' - 1, by simp at hf; omega⟩
        have hs2 : ¬ seesT z' [[125]] (x :: b) = true := by show ¬ isOne [[125]] x = true; rw [hs]; simp
        rw [moreS, if_neg hs2, h3, Res.bind_ok]
        refine hbad f'' _ ?_
        have : r0.length + 1 ≤ (x :: b).length := by
          rw [e3, List.length_append]
          have : a1 ≠ [] := by
            intro e0
            subst e0
            rw [List.nil_append] at e1
            rw [e1] at hlt
            omega
          have := List.length_pos_iff.2 this
          omega
        omega
/-- a block without the sign at its end -/
theorem block_cut (z z' g : Nat) (b : List Tok) (t : Tok) (v : List St) (h : blockP z (g + 2) (b ++ [t]) = .ok v []) : isOne [[125]] t = true ∧ b ≠ [] ∧ blockP z' (g + 2) b = .bad 41 z' := by
  obtain ⟨u, r1, h1, h2⟩ := bind_inv h
  have hT := takes_stmt z _ _ (takes_expr z (g + 1)).shrinks (takes_block z (g + 1)).shrinks
  have hne : r1 ≠ [] := by
    intro e0
    subst e0
    have h2' : moreS z (stmtP z (exprP z (g + 1)) (blockP z (g + 1))) 0 [] [] = .ok v [] := h2
    rw [moreS, if_neg (by simp [seesT, isOne, peekT, noTok])] at h2'
    obtain ⟨_, _, _, h3⟩ := bind_inv h2'
    cases h3
  obtain ⟨a, e1, k⟩ := lc_want z z' [123] _ u r1 h1
  obtain ⟨r0, e2, e3⟩ := last_split e1 hne
  subst e2
  obtain ⟨ht, hbad⟩ := moreS_cut z z' _ _ hT (lc_stmt (takes_expr z (g + 1)) (lc_expr z z' (g + 1)) (takes_block z (g + 1)).shrinks (lc_block z z' (g + 1))) (stmt_nil z' g _) _ [] r0 t v (Nat.le_refl _) h2
  have ha : a ≠ [] := by
    intro e0
    subst e0
    have := takes_want z [123] _ _ _ h1
    rw [List.nil_append] at e1
    rw [e1] at this
    omega
  have hlook : Look z z' (r0 ++ [t]) r0 := by
    cases r0 with
    | nil => exact look_still (still_end (isOne_end ht)) (still_nil z')
    | cons u r0 => exact fun ss _ => rfl
  obtain ⟨u', h3, _⟩ := k a r0 (Alike.refl _) hlook
  rw [← e3] at h3
  refine ⟨ht, ?_, ?_⟩
  · rw [e3]
    intro e0
    exact ha (List.append_eq_nil_iff.1 e0).1
  · show (wantT z' [123] b).bind _ = _
    rw [h3, Res.bind_ok]
    exact hbad _ _ (Nat.le_refl _)
/-- the rest of tokens that a reader leaves, without the last one -/
theorem cut_step {α : Type} {ρ : α → α → Prop} {z z' : Nat} {p p' : Par α} (hp : LC ρ z z' p p') {b : List Tok} {t : Tok} {v : α} {r0 : List Tok} (h : p (b ++ [t]) = .ok v (r0 ++ [t])) (hr : r0 ≠ []) : ∃ v', p' b = .ok v' r0 ∧ ρ v v' := by
  obtain ⟨a, e, k⟩ := hp _ v _ h
  rw [← List.append_assoc] at e
  have e2 := List.append_cancel_right e
  obtain ⟨v', h1, h2⟩ := k a r0 (Alike.refl _) (by
    cases r0 with
    | nil => exact absurd rfl hr
    | cons u r0 => exact fun ss _ => rfl)
  exact ⟨v', by rw [e2]; exact h1, h2⟩
theorem suf_of {α : Type} {ρ : α → α → Prop} {z z' : Nat} {p p' : Par α} (hp : LC ρ z z' p p') {ts : List Tok} {v : α} {r : List Tok} (h : p ts = .ok v r) : ∃ a, ts = a ++ r := by
  obtain ⟨a, e, _⟩ := hp _ v _ h
  exact ⟨a, e⟩
/-- a function without its last token -/
theorem func_cut (z z' : Nat) (b : List Tok) (t : Tok) (f : Fu) (h : funcP z (b ++ [t]) = .ok f []) : isOne [[125]] t = true ∧ b ≠ [] ∧ funcP z' b = .bad 41 z' := by
  obtain ⟨u1, r1, h1, h⟩ := bind_inv h
  obtain ⟨s, r2, h2, h⟩ := bind_inv h
  obtain ⟨l, r3, h3, h⟩ := bind_inv h
  obtain ⟨y, r4, h4, h⟩ := bind_inv h
  obtain ⟨bl, r5, h5, h⟩ := bind_inv h
  injection h with _ h
  subst h
  have hl := lc_list (ρ := (· = ·)) (L := (· = ·)) erefl (fun l l' v v' h1 h2 => by rw [h1, h2]) z z' _ _ (takes_param z) (lc_param z z')
  have ht := LC.look (ρ := (· = ·)) (z := z) (z' := z') (ss := [[58]]) (by decide) (A := fun _ => typeP z) (A' := fun _ => typeP z') (fun _ _ _ => lc_type z z') (LC.pure (v := 0) (v' := 0) rfl)
  have hne4 : r4 ≠ [] := by
    intro e0
    subst e0
    have := takes_block z 32 _ _ _ h5
    simp at this
  obtain ⟨a1, e1⟩ := suf_of (lc_want z z' [102, 110]) h1
  obtain ⟨a2, e2⟩ := suf_of (lc_name z z') h2
  obtain ⟨a3, e3⟩ := suf_of hl h3
  obtain ⟨a4, e4⟩ := suf_of ht h4
  have hne3 : r3 ≠ [] := by rw [e4]; intro e0; exact hne4 (List.append_eq_nil_iff.1 e0).2
  have hne2 : r2 ≠ [] := by rw [e3]; intro e0; exact hne3 (List.append_eq_nil_iff.1 e0).2
  have hne1 : r1 ≠ [] := by rw [e2]; intro e0; exact hne2 (List.append_eq_nil_iff.1 e0).2
  obtain ⟨q1, f1, g1⟩ := last_split e1 hne1
  subst f1
  obtain ⟨q2, f2, g2⟩ := last_split e2 hne2
  subst f2
  obtain ⟨q3, f3, g3⟩ := last_split e3 hne3
  subst f3
  obtain ⟨q4, f4, g4⟩ := last_split e4 hne4
  subst f4
  obtain ⟨ht5, hq4, hbad⟩ := block_cut z z' 30 q4 t bl h5
  have hq3 : q3 ≠ [] := by rw [g4]; intro e0; exact hq4 (List.append_eq_nil_iff.1 e0).2
  have hq2 : q2 ≠ [] := by rw [g3]; intro e0; exact hq3 (List.append_eq_nil_iff.1 e0).2
  have hq1 : q1 ≠ [] := by rw [g2]; intro e0; exact hq2 (List.append_eq_nil_iff.1 e0).2
  obtain ⟨u1', k1, _⟩ := cut_step (lc_want z z' [102, 110]) h1 hq1
  obtain ⟨s', k2, _⟩ := cut_step (lc_name z z') h2 hq2
  obtain ⟨l', k3, _⟩ := cut_step hl h3 hq3
  obtain ⟨y', k4, _⟩ := cut_step ht h4 hq4
  refine ⟨ht5, by rw [g1]; intro e0; exact hq1 (List.append_eq_nil_iff.1 e0).2, ?_⟩
  unfold funcP
  rw [k1, Res.bind_ok, k2, Res.bind_ok, k3, Res.bind_ok]
  have k4' : (if seesT z' [[58]] q3 then typeP z' q3.tail else .ok 0 q3) = .ok y' q4 := k4
  rw [k4', Res.bind_ok, hbad]
  rfl
/-- a program without its last token -/
theorem fns_cut (z z' : Nat) {ts : List Tok} {fs : List Fu} (h : Fns z ts fs) : ∀ (b : List Tok) (t : Tok), ts = b ++ [t] → isOne [[125]] t = true ∧ b ≠ [] ∧ ∀ (f : Nat) (l : List Fu), b.length ≤ f → moreF z' f l b = .bad 41 z' := by
  induction h with
  | nil => intro b t e; simp at e
  | @cons ts r x fs h1 hr ih =>
    intro b t e
    subst e
    by_cases hne : r = []
    · subst hne
      obtain ⟨c1, c2, c3⟩ := func_cut z z' b t x h1
      refine ⟨c1, c2, fun f l hf => ?_⟩
      cases b with
      | nil => exact absurd rfl c2
      | cons u b =>
        cases f with
        | zero => simp at hf
        | succ f =>
          rw [moreF, if_neg (by simp), c3]
          rfl
    · obtain ⟨a, e1, k⟩ := lc_func z z' _ x r h1
      obtain ⟨r0, e2, e3⟩ := last_split e1 hne
      subst e2
      obtain ⟨c1, c2, c3⟩ := ih r0 t rfl
      obtain ⟨x', k1, _⟩ := cut_step (lc_func z z') h1 c2
      refine ⟨c1, by rw [e3]; intro e0; exact c2 (List.append_eq_nil_iff.1 e0).2, fun f l hf => ?_⟩
      have hlt := takes_func z _ _ _ h1
      have hlb : r0.length < b.length := by simp at hlt; omega
      cases b with
      | nil => simp at hlb
      | cons u b =>
        cases f with
        | zero => simp at hf
        | succ f =>
          rw [moreF, if_neg (by simp), k1, Res.bind_ok]
          exact c3 f _ (by simp at hf hlb; omega)
theorem program_cut (z z' : Nat) (b : List Tok) (t : Tok) (fs : List Fu) (r : List Tok) (h : programP z (b ++ [t]) = .ok fs r) : isOne [[125]] t = true ∧ programP z' b = .bad 41 z' := by
  obtain ⟨c1, _, c3⟩ := fns_cut z z' (program_fns h) b t rfl
  exact ⟨c1, c3 _ _ (Nat.le_refl _)⟩
end

section
theorem run_take (p : Nat → Bool) : ∀ (l : List Nat) (m : Nat), run p (l.take m) = min (run p l) m
  | [], m => by simp [run]
  | b :: r, 0 => by simp [run]
  | b :: r, m + 1 => by
    rw [List.take_succ_cons, run, run, run_take p r m]
    split
    · omega
    · omega
theorem white_take : ∀ (c : Bool) (l : List Nat) (m : Nat), white c (l.take m) = min (white c l) m
  | c, [], m => by simp [white]
  | c, b :: r, 0 => by simp [white]
  | c, b :: r, m + 1 => by
    rw [List.take_succ_cons, white, white, white_take _ r m]
    split
    · omega
    · omega
theorem sign_take {s : List Nat} {m : Nat} (hm : (signOf s).length ≤ m) (h1 : 1 ≤ m) : signOf (s.take m) = signOf s := by
  have t2 : ∀ b : Nat, twos.contains [b] = false := fun b => by
    have hall : ∀ x ∈ twos, x.length = 2 := by decide
    cases hc : twos.contains [b] with
    | false => rfl
    | true =>
      have := hall [b] (by simpa using hc)
      simp at this
  have e1 : (s.take m).take 1 = s.take 1 := by rw [List.take_take]; congr 1; omega
  by_cases h2 : 2 ≤ m
  · have e2 : (s.take m).take 2 = s.take 2 := by rw [List.take_take]; congr 1; omega
    unfold signOf
    rw [e1, e2]
  · obtain rfl : m = 1 := by omega
    have hn : ¬ twos.contains (s.take 2) = true := by
      intro hc
      unfold signOf at hm
      rw [if_pos hc] at hm
      have hall : ∀ x ∈ twos, x.length = 2 := by decide
      have := hall _ (by simpa using hc)
      omega
    have hn1 : ¬ twos.contains ((s.take 1).take 2) = true := by
      cases s with
      | nil => decide
      | cons b r => simp only [List.take_succ_cons, List.take_zero, List.take_nil]; rw [t2 b]; simp
    unfold signOf
    rw [if_neg hn, if_neg hn1, e1]
theorem read_take {s : List Nat} {m : Nat} (h : (readT s).err = 0) (hm : (readT s).len ≤ m) : readT (s.take m) = readT s := by
  have hl := (read_len s h).1
  cases s with
  | nil => simp [readT, bad] at h
  | cons b r =>
    obtain ⟨m', rfl⟩ : ∃ q, m = q + 1 := ⟨m - 1, by omega⟩
    have e0 : (b :: r).take (m' + 1) = b :: r.take m' := rfl
    rw [readT_cons] at h hm hl
    rw [e0, readT_cons, readT_cons, ← e0]
    by_cases h1 : letterB b = true
    · rw [if_pos h1] at h hm hl
      rw [if_pos h1, if_pos h1]
      unfold nameT at h hm ⊢
      by_cases hb : run nameB (b :: r) > 16
      · rw [if_pos hb] at h
        simp [bad] at h
      · rw [if_neg hb] at hm
        have hm' : run nameB (b :: r) ≤ m' + 1 := hm
        have hr : run nameB ((b :: r).take (m' + 1)) = run nameB (b :: r) := by rw [run_take]; omega
        rw [hr, List.take_take, Nat.min_eq_left hm']
    · rw [if_neg h1] at h hm hl
      rw [if_neg h1, if_neg h1]
      by_cases h2 : digitB b = true
      · rw [if_pos h2] at h hm hl
        rw [if_pos h2, if_pos h2]
        unfold numT at h hm ⊢
        cases hv : value ((b :: r).take (run digitB (b :: r))) 0 with
        | none => rw [hv] at h; simp [bad] at h
        | some v =>
          rw [hv] at hm
          have hm' : run digitB (b :: r) ≤ m' + 1 := hm
          have hr : run digitB ((b :: r).take (m' + 1)) = run digitB (b :: r) := by rw [run_take]; omega
          rw [hr, List.take_take, Nat.min_eq_left hm', hv]
      · rw [if_neg h2] at h hm hl
        rw [if_neg h2, if_neg h2]
        by_cases h3 : b = 34
        · rw [if_pos h3] at h hm hl
          rw [if_pos h3, if_pos h3]
          unfold textT at h hm ⊢
          by_cases hq : ((b :: r).drop 1)[run textB ((b :: r).drop 1)]? = some 34
          · rw [if_pos hq] at h hm
            by_cases hb : run textB ((b :: r).drop 1) > 64
            · rw [if_pos hb] at h
              simp [bad] at h
            · rw [if_neg hb] at hm
              have hm' : run textB ((b :: r).drop 1) + 2 ≤ m' + 1 := hm
              have ed : ((b :: r).take (m' + 1)).drop 1 = ((b :: r).drop 1).take m' := rfl
              have hr : run textB (((b :: r).drop 1).take m') = run textB ((b :: r).drop 1) := by rw [run_take]; omega
              rw [ed, hr, List.getElem?_take_of_lt (by omega), List.take_take, Nat.min_eq_left (by omega)]
          · rw [if_neg hq] at h
            simp [bad] at h
        · rw [if_neg h3] at h hm hl
          rw [if_neg h3, if_neg h3]
          unfold signT at h hm ⊢
          by_cases hs : signOf (b :: r) = []
          · rw [if_pos hs] at h
            simp [bad] at h
          · rw [if_neg hs] at hm
            rw [sign_take hm (by omega)]
theorem skip_take {l : List Nat} {p x : Nat} (h : skip l x ≤ p) : skip (l.take p) x = skip l x := by
  unfold skip at h ⊢
  rw [List.drop_take, white_take]
  omega
/-- what is read goes behind what was read, at later places -/
theorem steps_ext {l : List Nat} : ∀ (f q : Nat) (ts : List Tok), (steps l f q ts).err = 0 → ∃ ys, (steps l f q ts).toks = ts ++ ys ∧ ∀ y ∈ ys, q ≤ y.place
  | 0, q, ts, _ => ⟨[], by simp [steps], by simp⟩
  | f + 1, q, ts, h => by
    unfold steps at h ⊢
    by_cases h1 : q < l.length
    · rw [if_pos h1] at h ⊢
      by_cases h2 : (readT (l.drop q)).err ≠ 0
      · rw [if_pos h2] at h
        exact absurd h h2
      · rw [if_neg h2] at h ⊢
        by_cases h3 : ts.length = 2048
        · rw [if_pos h3] at h
          simp at h
        · rw [if_neg h3] at h ⊢
          obtain ⟨ys, e, hy⟩ := steps_ext f _ _ h
          refine ⟨_ :: ys, by rw [e, List.append_assoc]; rfl, fun y hy' => ?_⟩
          have := skip_ge l (q + (readT (l.drop q)).len)
          rcases List.mem_cons.1 hy' with rfl | hy'
          · exact Nat.le_refl _
          · have := hy y hy'
            omega
    · rw [if_neg h1]
      exact ⟨[], by simp, by simp⟩
theorem rest_ext {l : List Nat} {q : Nat} {ts us : List Tok} (h : rest l q ts = ⟨0, us, 0⟩) : ∃ ys, us = ts ++ ys ∧ ∀ y ∈ ys, q ≤ y.place := by
  have := steps_ext (l := l) (l.length - q + 1) q ts (by unfold rest at h; rw [h])
  unfold rest at h
  rw [h] at this
  exact this
theorem steps_zero {l : List Nat} : ∀ (f p : Nat) (ts : List Tok), (steps l f p ts).err = 0 → (steps l f p ts).place = 0
  | 0, _, _, _ => rfl
  | f + 1, p, ts, h => by
    unfold steps at h ⊢
    split at h
    · rename_i hp
      rw [if_pos hp]
      split at h
      · rename_i h1
        exact absurd h h1
      · rename_i h1
        rw [if_neg h1]
        split at h
        · cases h
        · rename_i h2
          rw [if_neg h2]
          exact steps_zero f _ _ h
    · rename_i hp
      rw [if_neg hp]
/-- the last token, and the text ahead of it -/
theorem rest_cut {l : List Nat} {us : List Tok} {t : Tok} : ∀ (n q : Nat) (ts : List Tok), l.length - q ≤ n → ts.length ≤ us.length → rest l q ts = ⟨0, us ++ [t], 0⟩ →
    rest (l.take t.place) q ts = ⟨0, us, 0⟩ ∧ t.place < l.length ∧ (readT (l.drop t.place)).err = 0 ∧ t.kind = (readT (l.drop t.place)).kind ∧ t.text = (readT (l.drop t.place)).text ∧ skip l (t.place + (readT (l.drop t.place)).len) ≥ l.length := by
  intro n
  induction n with
  | zero =>
    intro q ts hn hl h
    rw [rest_end ts (by omega)] at h
    injection h with _ h _
    have := congrArg List.length h
    simp at this
    omega
  | succ n ih =>
    intro q ts hn hl h
    by_cases hq : l.length ≤ q
    · rw [rest_end ts hq] at h
      injection h with _ h _
      have := congrArg List.length h
      simp at this
      omega
    · have hq' : q < l.length := by omega
      by_cases he : (readT (l.drop q)).err = 0
      · by_cases h2 : ts.length = 2048
        · rw [rest_many hq' he h2] at h
          injection h with h _ _
          simp at h
        · have hlen := read_len _ he
          have hnext := rest_next hq' he h2
          rw [hnext] at h
          have hsk := skip_ge l (q + (readT (l.drop q)).len)
          obtain ⟨ys, e, hy⟩ := rest_ext h
          by_cases hlast : ts.length = us.length
          · have hy0 : ys = [] := by
              have := congrArg List.length e
              simp at this
              exact List.eq_nil_of_length_eq_zero (by omega)
            subst hy0
            rw [List.append_nil] at e
            have e2 := List.append_inj' e rfl
            have et : t = ⟨(readT (l.drop q)).kind, (readT (l.drop q)).text, (readT (l.drop q)).num, q⟩ := by simpa using e2.2
            have ep : t.place = q := by rw [et]
            rw [ep, ← e2.1]
            refine ⟨?_, hq', he, by rw [et], by rw [et], ?_⟩
            · rw [rest_end _ (by rw [List.length_take]; omega), e2.1]
            · rcases Nat.lt_or_ge (skip l (q + (readT (l.drop q)).len)) l.length with hlt | hge
              · exfalso
                by_cases he2 : (readT (l.drop (skip l (q + (readT (l.drop q)).len)))).err = 0
                · by_cases h3 : (ts ++ [(⟨(readT (l.drop q)).kind, (readT (l.drop q)).text, (readT (l.drop q)).num, q⟩ : Tok)]).length = 2048
                  · rw [rest_many hlt he2 h3] at h
                    injection h with h _ _
                    simp at h
                  · rw [rest_next hlt he2 h3] at h
                    obtain ⟨zs, e3, _⟩ := rest_ext h
                    have := congrArg List.length e3
                    simp at this
                    omega
                · rw [rest_bad _ hlt he2] at h
                  injection h with h _ _
                  exact he2 h
              · exact hge
          · have hlt : ts.length < us.length := by omega
            obtain ⟨g1, g2, g3, g4, g5, g6⟩ := ih _ _ (by omega) (by simp; omega) h
            have hin : t ∈ ys := by
              have e4 : us ++ [t] = (ts ++ [(⟨(readT (l.drop q)).kind, (readT (l.drop q)).text, (readT (l.drop q)).num, q⟩ : Tok)]) ++ ys := e
              have hne : ys ≠ [] := by
                intro e0
                rw [e0] at e4
                have := congrArg List.length e4
                simp at this
                omega
              obtain ⟨r0, e5, _⟩ := last_split e4 hne
              rw [e5]
              simp
            have hpl := hy t hin
            refine ⟨?_, g2, g3, g4, g5, g6⟩
            have ed : (l.take t.place).drop q = (l.drop q).take (t.place - q) := List.drop_take
            have er : readT ((l.take t.place).drop q) = readT (l.drop q) := by rw [ed]; exact read_take he (by omega)
            have es : skip (l.take t.place) (q + (readT (l.drop q)).len) = skip l (q + (readT (l.drop q)).len) := skip_take hpl
            rw [rest_next (by rw [List.length_take]; omega) (by rw [er]; exact he) h2, er, es]
            exact g1
      · rw [rest_bad _ hq' he] at h
        injection h with h _ _
        exact absurd h he
theorem lexed_cut {l : List Nat} {us : List Tok} {t : Tok} {pl : Nat} (h : lexed l = ⟨0, us ++ [t], pl⟩) (ht : isOne [[125]] t = true) :
    lexed (l.take t.place) = ⟨0, us, 0⟩ ∧ t.place < l.length ∧ l[t.place]? = some 125 ∧ white false (l.drop (t.place + 1)) = (l.drop (t.place + 1)).length := by
  have hlen : l.length ≤ 4096 := by
    rcases Nat.lt_or_ge 4096 l.length with h1 | h1
    · unfold lexed at h
      rw [if_pos h1] at h
      injection h with h _ _
      simp at h
    · exact h1
  have hpl : pl = 0 := by
    unfold lexed at h
    rw [if_neg (by omega)] at h
    have := steps_zero (l.length + 1) (skip l 0) [] (by rw [h])
    rw [h] at this
    exact this
  subst hpl
  rw [lexed_rest hlen] at h
  obtain ⟨g1, g2, g3, g4, g5, g6⟩ := rest_cut (l.length) (skip l 0) [] (by omega) (by simp) h
  obtain ⟨ys, e, hy⟩ := rest_ext h
  have hin : t ∈ ys := by rw [List.nil_append] at e; rw [← e]; simp
  have hp0 := hy t hin
  have hk : t.kind = 4 := by simp [isOne] at ht; exact ht.1
  have htx := isOne_end ht
  have hread := read_len _ g3
  cases hd : l.drop t.place with
  | nil => rw [hd] at g3; simp [readT, bad] at g3
  | cons b r =>
    rw [hd] at g3 g4 g5 g6
    rw [readT_cons] at g3 g4 g5 g6
    have hget : l[t.place]? = some b := by
      have := congrArg (fun q : List Nat => q[0]?) hd
      simpa using this
    have hb : b = 125 ∧ (readT (b :: r)).len = 1 := by
      by_cases h1 : letterB b = true
      · rw [if_pos h1] at g3 g5
        unfold nameT at g3 g5
        exfalso
        by_cases hb : run nameB (b :: r) > 16
        · rw [if_pos hb] at g3
          simp [bad] at g3
        · rw [if_neg hb, htx] at g5
          have hr : run nameB (b :: r) = run nameB r + 1 := by rw [run, if_pos (by simp [nameB, h1])]
          rw [hr] at g5
          simp at g5
          rw [← g5.1] at h1
          simp [letterB] at h1
      · rw [if_neg h1] at g3 g4 g5
        by_cases h2 : digitB b = true
        · rw [if_pos h2] at g3 g4
          unfold numT at g3 g4
          exfalso
          cases hv : value ((b :: r).take (run digitB (b :: r))) 0 with
          | none => rw [hv] at g3; simp [bad] at g3
          | some v => rw [hv, hk] at g4; simp at g4
        · rw [if_neg h2] at g3 g4 g5
          by_cases h3 : b = 34
          · rw [if_pos h3] at g3 g4
            unfold textT at g3 g4
            exfalso
            by_cases hq : ((b :: r).drop 1)[run textB ((b :: r).drop 1)]? = some 34
            · rw [if_pos hq] at g3 g4
              by_cases hb : run textB ((b :: r).drop 1) > 64
              · rw [if_pos hb] at g3
                simp [bad] at g3
              · rw [if_neg hb, hk] at g4
                simp at g4
            · rw [if_neg hq] at g3
              simp [bad] at g3
          · rw [if_neg h3] at g3 g5
            unfold signT at g3 g5
            by_cases hs : signOf (b :: r) = []
            · rw [if_pos hs] at g3
              simp [bad] at g3
            · rw [if_neg hs, htx] at g5
              have g5' : signOf (b :: r) = [125] := g5.symm
              have hb0 : b = 125 := by
                unfold signOf at g5'
                split at g5'
                · cases r with
                  | nil => simpa using g5'
                  | cons x r => simp at g5'
                · split at g5'
                  · simpa using g5'
                  · simp at g5'
              refine ⟨hb0, ?_⟩
              rw [readT_cons, if_neg h1, if_neg h2, if_neg h3]
              unfold signT
              rw [if_neg hs, g5']
              rfl
    rw [← readT_cons, hb.2] at g6
    refine ⟨?_, g2, by rw [hget, hb.1], ?_⟩
    · rw [lexed_rest (by rw [List.length_take]; omega), skip_take hp0]
      exact g1
    · have := white_le false (l.drop (t.place + 1))
      unfold skip at g6
      simp at this ⊢
      omega
/-- what stands in white space and is no blank stands behind the sign of a remark, on its line -/
theorem white_hash : ∀ (c : Bool) (r : List Nat) (k b : Nat), white c r = r.length → r[k]? = some b → blankB b = false → b ≠ 35 →
    (∃ j, j < k ∧ r[j]? = some 35 ∧ ∀ i, j ≤ i → i ≤ k → r[i]? ≠ some 10) ∨ (c = true ∧ ∀ i, i ≤ k → r[i]? ≠ some 10)
  | c, [], k, b, _, h, _, _ => by simp at h
  | c, x :: r, k, b, hw, h, hb, h35 => by
    rw [white] at hw
    by_cases hc : ((x == 35 || (c && x != 10)) || blankB x) = true
    · rw [if_pos hc] at hw
      have hw' : white (x == 35 || (c && x != 10)) r = r.length := by simp at hw; exact hw
      cases k with
      | zero =>
        simp at h
        subst h
        rw [hb, Bool.or_false] at hc
        have h35' : (x == 35) = false := by simpa using h35
        rw [h35', Bool.false_or] at hc
        simp at hc
        refine .inr ⟨hc.1, fun i hi => ?_⟩
        obtain rfl : i = 0 := by omega
        simp
        exact hc.2
      | succ k =>
        have ih := white_hash _ r k b hw' (by simpa using h) hb h35
        rcases ih with ⟨j, hj, hj1, hj2⟩ | ⟨hcc, hj2⟩
        · refine .inl ⟨j + 1, by omega, by simpa using hj1, fun i hi1 hi2 => ?_⟩
          obtain ⟨i', rfl⟩ : ∃ q, i = q + 1 := ⟨i - 1, by omega⟩
          have := hj2 i' (by omega) (by omega)
          simpa using this
        · by_cases hx : x = 35
          · refine .inl ⟨0, by omega, by simp [hx], fun i _ hi2 => ?_⟩
            cases i with
            | zero => simp [hx]
            | succ i =>
              have := hj2 i (by omega)
              simpa using this
          · have hx' : (x == 35) = false := by simpa using hx
            rw [hx', Bool.false_or] at hcc
            simp at hcc
            refine .inr ⟨hcc.1, fun i hi => ?_⟩
            cases i with
            | zero => simp; exact hcc.2
            | succ i =>
              have := hj2 i (by omega)
              simpa using this
    · rw [if_neg hc] at hw
      simp at hw
/-- a program that is cut at its last token is none -/
theorem cut_model {l : List Nat} {fs : List Fu} {pl : Nat} (h : parsed l = ⟨0, fs, pl⟩) (hne : fs ≠ []) :
    ∃ p, p < l.length ∧ l[p]? = some 125 ∧ white false (l.drop (p + 1)) = (l.drop (p + 1)).length ∧ parsed (l.take p) = ⟨41, [], p⟩ := by
  have he : (lexed l).err = 0 := by
    rcases Nat.eq_zero_or_pos (lexed l).err with h0 | h0
    · exact h0
    · unfold parsed at h
      rw [if_neg (by omega)] at h
      injection h with h _ _
  have hp : ∃ r, programP l.length (lexed l).toks = .ok fs r := by
    unfold parsed at h
    rw [if_pos he] at h
    cases hq : programP l.length (lexed l).toks with
    | ok gs r =>
      rw [hq] at h
      injection h with _ h _
      exact ⟨r, by rw [h]⟩
    | bad c q =>
      rw [hq] at h
      injection h with _ h _
      exact absurd h.symm hne
  obtain ⟨r, hp⟩ := hp
  have hts : (lexed l).toks ≠ [] := by
    intro e0
    rw [e0] at hp
    have := program_fns hp
    cases this with
    | nil => exact hne rfl
    | cons h1 _ =>
      have := takes_func _ _ _ _ h1
      simp at this
  have e1 : (lexed l).toks = (lexed l).toks.dropLast ++ [(lexed l).toks.getLast hts] := (List.dropLast_concat_getLast hts).symm
  generalize (lexed l).toks.dropLast = us at e1
  generalize (lexed l).toks.getLast hts = t at e1
  rw [e1] at hp
  have hl : lexed l = ⟨0, us ++ [t], (lexed l).place⟩ := by
    cases hq : lexed l with
    | mk a b c =>
      rw [hq] at he e1
      simp at he e1
      rw [he, e1]
  obtain ⟨ht, _⟩ := program_cut l.length t.place us t fs r hp
  obtain ⟨g1, g2, g3, g4⟩ := lexed_cut hl ht
  obtain ⟨_, hbad⟩ := program_cut l.length (l.take t.place).length us t fs r hp
  refine ⟨t.place, g2, g3, g4, ?_⟩
  unfold parsed
  rw [g1, if_pos rfl]
  dsimp only
  rw [hbad]
  dsimp only
  rw [List.length_take, Nat.min_eq_left (Nat.le_of_lt g2)]
/-- where the last sign of that kind stands, if no remark is on its line -/
theorem last_at {l : List Nat} {p e : Nat} (hp : l[p]? = some 125) (hw : white false (l.drop (p + 1)) = (l.drop (p + 1)).length) (he : l[e]? = some 125) (hlast : ∀ i, e < i → l[i]? ≠ some 125)
    (hno : ∀ i, i ≤ e → (∀ j, i ≤ j → j ≤ e → l[j]? ≠ some 10) → l[i]? ≠ some 35) : e = p := by
  rcases Nat.lt_trichotomy e p with h | h | h
  · exact absurd hp (hlast p h)
  · exact h
  · exfalso
    have hk : (l.drop (p + 1))[e - (p + 1)]? = some 125 := by rw [List.getElem?_drop, show p + 1 + (e - (p + 1)) = e by omega]; exact he
    rcases white_hash false _ _ _ hw hk (by decide) (by decide) with ⟨j, hj, hj1, hj2⟩ | ⟨h0, _⟩
    · rw [List.getElem?_drop] at hj1
      refine hno (p + 1 + j) (by omega) (fun i h1 h2 => ?_) hj1
      have := hj2 (i - (p + 1)) (by omega) (by omega)
      rw [List.getElem?_drop, show p + 1 + (i - (p + 1)) = i by omega] at this
      exact this
    · cases h0
end
end Go.Proofs.YtoicncfpoklanaaDoor
