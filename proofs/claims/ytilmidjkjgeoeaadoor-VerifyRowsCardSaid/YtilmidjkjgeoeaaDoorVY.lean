/- The search as it lies in memory, and as states of places. Conditions: those in each theorem. -/
import Derived.Test.YtilmidjkjgeoeaaDoorVX
namespace Go.Proofs.YtilmidjkjgeoeaaDoor
open Go.RowKit Go.MapKept
set_option maxRecDepth 100000
set_option linter.unusedVariables false
set_option linter.unusedSimpArgs false
/-- a state, by a stack's number and words -/
structure RepV (S : List (List Int)) (m n : Nat) (ys : List Nat) (s : Sv) : Prop where
  st : S[n]? = some s.st
  ok : Ws8 ys
  sl : SlR ys s.sl
  len : s.sl.length = m
/-- what the places have -/
structure TvR (S : List (List Int)) (m : Nat) (pl : List Pl) (T : Tv) : Prop where
  none : ∀ k p, pl[k]? = some p → p.1 = false → T k = Option.none
  some : ∀ k p, pl[k]? = some p → p.1 = true → ∃ s, T k = Option.some s ∧ RepV S m p.2.1 p.2.2 s
  out : ∀ k, pl.length ≤ k → T k = Option.none
  ws : ∀ p ∈ pl, Ws8 p.2.2
theorem RepV.grow {S S' : List (List Int)} {m n : Nat} {ys : List Nat} {s : Sv} (h : RepV S m n ys s) (hs : S <+: S') : RepV S' m n ys s := by
  obtain ⟨t, rfl⟩ := hs
  exact ⟨by rw [List.getElem?_append_left (List.getElem?_eq_some_iff.1 h.st).1]; exact h.st, h.ok, h.sl, h.len⟩
theorem TvR.grow {S S' : List (List Int)} {m : Nat} {pl : List Pl} {T : Tv} (h : TvR S m pl T) (hs : S <+: S') : TvR S' m pl T :=
  ⟨h.none, fun k p hp h1 => by obtain ⟨s, h2, h3⟩ := h.some k p hp h1; exact ⟨s, h2, h3.grow hs⟩, h.out, h.ws⟩
theorem TvR.at {S : List (List Int)} {m : Nat} {pl : List Pl} {T : Tv} (h : TvR S m pl T) {k : Nat} {s : Sv} (hs : T k = Option.some s) : ∃ n ys, pl[k]? = Option.some (true, n, ys) ∧ RepV S m n ys s := by
  by_cases hk : k < pl.length
  · obtain ⟨p, hp⟩ : ∃ p, pl[k]? = Option.some p := ⟨pl[k], List.getElem?_eq_getElem hk⟩
    obtain ⟨b, n, ys⟩ := p
    cases b with
    | false => rw [h.none k _ hp rfl] at hs; cases hs
    | true =>
      obtain ⟨s', h1, h2⟩ := h.some k _ hp rfl
      rw [hs] at h1
      injection h1 with h1
      subst h1
      exact ⟨n, ys, hp, h2⟩
  · rw [h.out k (by omega)] at hs; cases hs
/-- words are told by their slots -/
theorem sl_ext {xs ys : List Nat} (hx : Ws8 xs) (hy : Ws8 ys) (h : ∀ j, j < 256 → slOf xs j = slOf ys j) : xs = ys := by
  apply List.ext_getElem?
  intro k
  by_cases hk : k < 8
  · obtain ⟨x, h1⟩ : ∃ x, xs[k]? = some x := ⟨xs[k]'(by have := hx.1; omega), List.getElem?_eq_getElem _⟩
    obtain ⟨y, h2⟩ : ∃ y, ys[k]? = some y := ⟨ys[k]'(by have := hy.1; omega), List.getElem?_eq_getElem _⟩
    rw [h1, h2]
    congr 1
    refine dg_ext (hx.2 x (List.mem_of_getElem? h1)) (hy.2 y (List.mem_of_getElem? h2)) fun j hj => ?_
    have := h (32 * k + j) (by omega)
    unfold slOf at this
    rw [show (32 * k + j) / 32 = k by omega, show (32 * k + j) % 32 = j by omega, h1, h2] at this
    exact this
  · rw [List.getElem?_eq_none (by have := hx.1; omega), List.getElem?_eq_none (by have := hy.1; omega)]
theorem sl_common {xs ys : List Nat} (hx : Ws8 xs) (hy : Ws8 ys) {j : Nat} (hj : j < 256) : slOf (List.zipWith dgC xs ys) j = if slOf xs j = slOf ys j then slOf xs j else 0 := by
  unfold slOf
  obtain ⟨x, h1⟩ : ∃ x, xs[j / 32]? = some x := ⟨xs[j / 32]'(by have := hx.1; omega), List.getElem?_eq_getElem _⟩
  obtain ⟨y, h2⟩ : ∃ y, ys[j / 32]? = some y := ⟨ys[j / 32]'(by have := hy.1; omega), List.getElem?_eq_getElem _⟩
  rw [List.getElem?_zipWith, h1, h2]
  exact dg_common x y (Nat.mod_lt _ (by omega))
theorem SlR.common {xs ys : List Nat} {s t : List Int} (hx : Ws8 xs) (hy : Ws8 ys) (h1 : SlR xs s) (h2 : SlR ys t) (hl : s.length = t.length) : SlR (List.zipWith dgC xs ys) (List.zipWith (fun x y => if x = y then x else 0) s t) := by
  intro j hj
  rw [sl_common hx hy hj, List.getElem?_zipWith]
  have e1 := h1 j hj
  have e2 := h2 j hj
  cases hs : s[j]? with
  | none =>
    cases ht : t[j]? with
    | none =>
      rw [hs] at e1
      rw [ht] at e2
      simp at e1 e2
      rw [e1, e2]
      simp
    | some y =>
      have := (List.getElem?_eq_some_iff.1 ht).1
      rw [List.getElem?_eq_none_iff] at hs
      omega
  | some x =>
    cases ht : t[j]? with
    | none =>
      have := (List.getElem?_eq_some_iff.1 hs).1
      rw [List.getElem?_eq_none_iff] at ht
      omega
    | some y =>
      rw [hs] at e1
      rw [ht] at e2
      simp at e1 e2
      subst e1 e2
      simp only [Option.getD_some, Int.natCast_inj]
      split <;> simp
theorem rep_once {E : List Stk} {S : List (List Int)} (h : StOk E S) {m n n' : Nat} {ys xs : List Nat} {s b : Sv} (h1 : RepV S m n ys s) (h2 : RepV S m n' xs b) (e : b.st = s.st) : n' = n := h.once n' n s.st (by rw [← e]; exact h2.st) h1.st
/-- what is told of a state that reaches a place -/
theorem reach_plain {E : List Stk} {S : List (List Int)} {m : Nat} {pl : List Pl} {T : Tv} {n : Nat} {ys : List Nat} {s : Sv} (ok : StOk E S) (h : TvR S m pl T) (hs : RepV S m n ys s) (q : Int) (hm : m ≤ 256) :
    ((reachM pl q n ys).2.2 = false → ¬ (0 ≤ q ∧ q < pl.length) ∨ ∃ b, T q.toNat = some b ∧ b.st ≠ s.st) ∧
    ((reachM pl q n ys).2.2 = true → (0 ≤ q ∧ q < pl.length) ∧ (∀ b, T q.toNat = some b → b.st = s.st) ∧ TvR S m (reachM pl q n ys).1 (setV T q.toNat (comeV (T q.toNat) s)) ∧ ((reachM pl q n ys).2.1 = false → T q.toNat = some (comeV (T q.toNat) s)) ∧ ((reachM pl q n ys).2.1 = true → T q.toNat ≠ some (comeV (T q.toNat) s)) ∧ (reachM pl q n ys).1.length = pl.length) := by
  unfold reachM
  by_cases hq : 0 ≤ q ∧ q < (pl.length : Int)
  · rw [if_pos hq]
    obtain ⟨k, rfl⟩ : ∃ k : Nat, q = k := ⟨q.toNat, by omega⟩
    rw [Int.toNat_natCast]
    have hk : k < pl.length := by omega
    obtain ⟨p, hp⟩ : ∃ p, pl[k]? = some p := ⟨pl[k], List.getElem?_eq_getElem hk⟩
    obtain ⟨b, n', xs⟩ := p
    rw [hp]
    have put : ∀ (zs : List Nat) (u : Sv), RepV S m n zs u → TvR S m (pl.set k (true, n, zs)) (setV T k u) := fun zs u hu => by
      refine ⟨fun j p hj hf => ?_, fun j p hj ht => ?_, fun j hj => ?_, fun p hj => ?_⟩
      · by_cases e : j = k
        · subst e
          rw [List.getElem?_set_self hk] at hj
          injection hj with hj
          subst hj
          cases hf
        · rw [List.getElem?_set_ne (fun q => e q.symm)] at hj
          unfold setV
          rw [if_neg e]
          exact h.none j p hj hf
      · by_cases e : j = k
        · subst e
          rw [List.getElem?_set_self hk] at hj
          injection hj with hj
          subst hj
          exact ⟨u, by unfold setV; rw [if_pos rfl], hu⟩
        · rw [List.getElem?_set_ne (fun q => e q.symm)] at hj
          obtain ⟨v, h1, h2⟩ := h.some j p hj ht
          exact ⟨v, by unfold setV; rw [if_neg e]; exact h1, h2⟩
      · rw [List.length_set] at hj
        unfold setV
        rw [if_neg (by omega)]
        exact h.out j hj
      · rcases List.mem_or_eq_of_mem_set hj with hj | hj
        · exact h.ws p hj
        · subst hj; exact hu.ok
    cases b with
    | false =>
      have hT := h.none k _ hp rfl
      rw [hT]
      refine ⟨fun e => by simp at e, fun _ => ⟨hq, fun b hb => (by cases hb), ?_, fun e => by simp at e, fun _ => by simp, by simp⟩⟩
      exact put ys s hs
    | true =>
      obtain ⟨b, hb, hr⟩ := h.some k _ hp rfl
      rw [hb]
      dsimp only
      rw [if_neg (by decide)]
      by_cases hn : n' = n
      · rw [if_neg (by simpa using hn)]
        dsimp only at hr
        subst hn
        have hst : b.st = s.st := by
          have h1 := hr.st
          rw [hs.st] at h1
          injection h1 with h1
          exact h1.symm
        have hmeet : RepV S m n' (List.zipWith dgC xs ys) (meetV b s) := ⟨by show S[n']? = some b.st; exact hr.st, zip8 hr.ok hs.ok, SlR.common hr.ok hs.ok hr.sl hs.sl (by rw [hr.len, hs.len]), by show (List.zipWith _ b.sl s.sl).length = m; rw [List.length_zipWith, hr.len, hs.len, Nat.min_self]⟩
        have hsame : List.zipWith dgC xs ys = xs ↔ meetV b s = b := by
          constructor
          · intro e
            have h1 : (meetV b s).sl = b.sl := by
              apply List.ext_getElem?
              intro j
              by_cases hj : j < m
              · have g1 := hmeet.sl j (by omega)
                have g2 := hr.sl j (by omega)
                rw [e] at g1
                rw [g2] at g1
                obtain ⟨x, hx⟩ : ∃ x, (meetV b s).sl[j]? = some x := ⟨(meetV b s).sl[j]'(by rw [hmeet.len]; exact hj), List.getElem?_eq_getElem _⟩
                obtain ⟨y, hy⟩ : ∃ y, b.sl[j]? = some y := ⟨b.sl[j]'(by rw [hr.len]; exact hj), List.getElem?_eq_getElem _⟩
                rw [hx, hy] at g1
                rw [hx, hy]
                exact congrArg some g1.symm
              · rw [List.getElem?_eq_none (by rw [hmeet.len]; omega), List.getElem?_eq_none (by rw [hr.len]; omega)]
            show (⟨b.st, (meetV b s).sl⟩ : Sv) = b
            rw [h1]
          · intro e
            refine sl_ext (zip8 hr.ok hs.ok) hr.ok fun j hj => ?_
            have g1 := hmeet.sl j hj
            have g2 := hr.sl j hj
            rw [e] at g1
            rw [← g2] at g1
            exact Int.natCast_inj.1 g1
        by_cases hz : List.zipWith dgC xs ys = xs
        · rw [if_pos hz]
          have e := hsame.1 hz
          refine ⟨fun e => by simp at e, fun _ => ⟨hq, fun c hc => by injection hc with hc; rw [← hc]; exact hst, ?_, fun _ => ?_, fun e => by simp at e, rfl⟩⟩
          · show TvR S m pl (setV T k (meetV b s))
            rw [e, setV_same hb]
            exact h
          · show some b = some (meetV b s)
            rw [e]
        · rw [if_neg hz]
          refine ⟨fun e => by simp at e, fun _ => ⟨hq, fun c hc => by injection hc with hc; rw [← hc]; exact hst, put _ _ hmeet, fun e => by simp at e, fun _ e => hz (hsame.2 ?_), by simp⟩⟩
          have e' : some b = some (meetV b s) := e
          injection e' with e'
          exact e'.symm
      · rw [if_pos hn]
        refine ⟨fun _ => .inr ⟨b, rfl, fun e => hn ?_⟩, fun e => by simp at e⟩
        exact rep_once ok hs hr e
  · rw [if_neg hq]
    exact ⟨fun _ => .inl hq, fun e => by simp at e⟩
end Go.Proofs.YtilmidjkjgeoeaaDoor
