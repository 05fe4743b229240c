/- What holds of the tokens that are returned, one behind the other, in plain words; nothing of the program. Conditions: those in each theorem. -/
import Derived.Test.YtdmjlgjnboofdaaDoorWo
namespace Go.Proofs.YtdmjlgjnboofdaaDoor

/-- the bytes of a token that is no number -/
def shown (t : Tok) : List Nat := if t.kind = 3 then [34] ++ t.text ++ [34] else t.text
def tokEnd (t : Tok) : Nat := t.place + max (shown t).length 1
/-- where the token ahead of the one at i ends -/
def endAt (ts : List Tok) : Nat → Nat
  | 0 => 0
  | i + 1 => match ts[i]? with | some t => tokEnd t | none => 0
/-- a token stands in a text -/
def Stands (l : List Nat) (t : Tok) : Prop := t.place < l.length ∧ tokEnd t ≤ l.length ∧ (t.kind ≠ 2 → (l.drop t.place).take (shown t).length = shown t)
def Fit (l : List Nat) (ts : List Tok) : Prop := ∀ i t, ts[i]? = some t → endAt ts i ≤ t.place ∧ Stands l t
theorem endAt_succ (ts : List Tok) (i : Nat) : endAt ts (i + 1) = match ts[i]? with | some t => tokEnd t | none => 0 := rfl
theorem endAt_append (ts : List Tok) (u : Tok) : ∀ i, i ≤ ts.length → endAt (ts ++ [u]) i = endAt ts i
  | 0, _ => rfl
  | i + 1, h => by
    rw [endAt_succ, endAt_succ, List.getElem?_append_left (by omega)]
theorem fit_snoc {l : List Nat} {ts : List Tok} {u : Tok} (h : Fit l ts) (h1 : endAt ts ts.length ≤ u.place) (h2 : Stands l u) : Fit l (ts ++ [u]) := by
  intro i t hi
  rcases Nat.lt_or_ge i ts.length with hlt | hge
  · rw [List.getElem?_append_left hlt] at hi
    rw [endAt_append ts u i (by omega)]
    exact h i t hi
  · rw [List.getElem?_append_right hge] at hi
    have hi0 : i - ts.length = 0 := by
      have := (List.getElem?_eq_some_iff.1 hi).1
      simp at this
      exact this
    rw [hi0] at hi
    simp at hi
    subst hi
    obtain rfl : i = ts.length := by omega
    rw [endAt_append ts u _ (Nat.le_refl _)]
    exact ⟨h1, h2⟩
theorem endAt_last (ts : List Tok) (u : Tok) : endAt (ts ++ [u]) (ts ++ [u]).length = tokEnd u := by
  rw [List.length_append, List.length_singleton]
  unfold endAt
  simp

theorem take_sub {r : List Nat} {n : Nat} : r.take ((r.take n).length) = r.take n := by
  rw [List.length_take]
  rcases Nat.le_total n r.length with h | h
  · rw [Nat.min_eq_left h]
  · rw [Nat.min_eq_right h, List.take_of_length_le h, List.take_length]
/-- what is read stands there -/
theorem read_stands {r : List Nat} (h : (readT r).err = 0) (p : Nat) :
    (max (shown ⟨(readT r).kind, (readT r).text, (readT r).num, p⟩).length 1 ≤ (readT r).len) ∧
    ((readT r).kind ≠ 2 → r.take (shown ⟨(readT r).kind, (readT r).text, (readT r).num, p⟩).length = shown ⟨(readT r).kind, (readT r).text, (readT r).num, p⟩) := by
  have hl := read_len r h
  cases r with
  | nil => simp [readT, bad] at h
  | cons b r =>
    rw [readT_cons] at h hl ⊢
    by_cases h1 : letterB b = true
    · rw [if_pos h1] at h hl ⊢
      unfold nameT at h hl ⊢
      split at h
      · simp [bad] at h
      · rename_i hn
        rw [if_neg hn] at hl ⊢
        dsimp only at hl ⊢
        have hk : ¬ (bif isWord (List.take (run nameB (b :: r)) (b :: r)) then 4 else 1) = 3 := by cases isWord (List.take (run nameB (b :: r)) (b :: r)) <;> simp
        unfold shown
        rw [if_neg hk]
        dsimp only
        refine ⟨?_, fun _ => take_sub⟩
        rw [List.length_take]
        omega
    · rw [if_neg h1] at h hl ⊢
      by_cases h2 : digitB b = true
      · rw [if_pos h2] at h hl ⊢
        unfold numT at h hl ⊢
        cases hv : value (List.take (run digitB (b :: r)) (b :: r)) 0 with
        | none => rw [hv] at h; simp [bad] at h
        | some v =>
          rw [hv] at hl
          dsimp only at hl ⊢
          refine ⟨?_, fun hk => absurd rfl hk⟩
          simp [shown]
          omega
      · rw [if_neg h2] at h hl ⊢
        by_cases h3 : b = 34
        · rw [if_pos h3] at h hl ⊢
          subst h3
          unfold textT at h hl ⊢
          split at h
          · rename_i hq
            rw [if_pos hq] at hl ⊢
            split at h
            · simp [bad] at h
            · rename_i hn
              rw [if_neg hn] at hl ⊢
              dsimp only at hl ⊢
              simp only [List.drop_succ_cons, List.drop_zero] at hq hl ⊢
              have hr := run_le textB r
              have hlen : (List.take (run textB r) r).length = run textB r := by rw [List.length_take]; omega
              have hsl : (shown ⟨3, List.take (run textB r) r, 0, p⟩).length = run textB r + 2 := by simp [shown]; omega
              refine ⟨by rw [hsl]; omega, fun _ => ?_⟩
              rw [hsl]
              simp only [shown, if_true, List.cons_append, List.take_succ_cons]
              congr 1
              rw [List.take_add_one, hq]
              rfl
          · simp [bad] at h
        · rw [if_neg h3] at h hl ⊢
          unfold signT at h hl ⊢
          split at h
          · simp [bad] at h
          · rename_i hn
            rw [if_neg hn] at hl ⊢
            dsimp only at hl ⊢
            unfold shown
            rw [if_neg (by simp)]
            dsimp only
            refine ⟨by omega, fun _ => ?_⟩
            unfold signOf
            split
            · exact take_sub
            · split
              · exact take_sub
              · rfl
theorem steps_fit {l : List Nat} : ∀ (f p : Nat) (ts : List Tok), Fit l ts → endAt ts ts.length ≤ p → Fit l (steps l f p ts).toks
  | 0, _, _, h, _ => h
  | f + 1, p, ts, h, he => by
    unfold steps
    split
    · rename_i hp
      split
      · intro i t hi; simp at hi
      · rename_i herr
        have herr' : (readT (l.drop p)).err = 0 := by simpa using herr
        split
        · intro i t hi; simp at hi
        · have hs := read_stands herr' p
          have hl := read_len _ herr'
          rw [List.length_drop] at hl
          have hsk := skip_ge l (p + (readT (l.drop p)).len)
          refine steps_fit f _ _ (fit_snoc h he ⟨hp, ?_, hs.2⟩) ?_
          · unfold tokEnd
            have := hs.1
            dsimp only
            omega
          · rw [endAt_last]
            unfold tokEnd
            have := hs.1
            dsimp only
            omega
    · exact h
theorem lexed_fit (l : List Nat) : Fit l (lexed l).toks := by
  unfold lexed
  split
  · intro i t hi; simp at hi
  · exact steps_fit _ _ _ (fun i t hi => by simp at hi) (Nat.zero_le _)
/-- the place of an error is within -/
theorem steps_place {l : List Nat} : ∀ (f p : Nat) (ts : List Tok), (steps l f p ts).place ≤ l.length
  | 0, _, _ => Nat.zero_le _
  | f + 1, p, ts => by
    unfold steps
    split
    · rename_i hp
      split
      · exact Nat.le_of_lt hp
      · split
        · exact Nat.le_of_lt hp
        · exact steps_place f _ _
    · exact Nat.zero_le _
theorem lexed_place (l : List Nat) : (lexed l).place ≤ l.length := by
  unfold lexed
  split
  · exact Nat.zero_le _
  · exact steps_place _ _ _
/-- where there is an error there are no tokens -/
theorem steps_none {l : List Nat} : ∀ (f p : Nat) (ts : List Tok), (steps l f p ts).err ≠ 0 → (steps l f p ts).toks = []
  | 0, _, _, h => absurd rfl h
  | f + 1, p, ts, h => by
    unfold steps at h ⊢
    split at h
    · rename_i hp
      rw [if_pos hp]
      split at h
      · rename_i h1
        rw [if_pos h1]
      · rename_i h1
        rw [if_neg h1]
        split at h
        · rename_i h2
          rw [if_pos h2]
        · rename_i h2
          rw [if_neg h2]
          exact steps_none f _ _ h
    · exact absurd rfl h
theorem lexed_none (l : List Nat) (h : (lexed l).err ≠ 0) : (lexed l).toks = [] := by
  unfold lexed at h ⊢
  split at h
  · rename_i h1
    rw [if_pos h1]
  · rename_i h1
    rw [if_neg h1]
    exact steps_none _ _ _ h
end Go.Proofs.YtdmjlgjnboofdaaDoor
