/- What holds of the tokens that are returned, in plain words; nothing of the program. Conditions: those in each theorem. -/
import Derived.Test.YtoicncfpoklanaaDoorE
namespace Go.Proofs.YtoicncfpoklanaaDoor

/-- what holds of every token that is read holds of all that are returned -/
theorem steps_all {l : List Nat} {P : Tok → Prop} (h : ∀ p, p < l.length → (readT (l.drop p)).err = 0 → P ⟨(readT (l.drop p)).kind, (readT (l.drop p)).text, (readT (l.drop p)).num, p⟩) :
    ∀ (f p : Nat) (ts : List Tok), (∀ t ∈ ts, P t) → ∀ t ∈ (steps l f p ts).toks, P t
  | 0, _, _, hts => hts
  | f + 1, p, ts, hts => by
    intro t ht
    unfold steps at ht
    split at ht
    · rename_i hp
      split at ht
      · cases ht
      · rename_i he
        split at ht
        · cases ht
        · refine steps_all h f _ _ ?_ t ht
          intro u hu
          rcases List.mem_append.1 hu with h1 | h1
          · exact hts u h1
          · simp at h1
            subst h1
            exact h p hp (by simpa using he)
    · exact hts t ht
theorem lexed_all {l : List Nat} {P : Tok → Prop} (h : ∀ p, p < l.length → (readT (l.drop p)).err = 0 → P ⟨(readT (l.drop p)).kind, (readT (l.drop p)).text, (readT (l.drop p)).num, p⟩) : ∀ t ∈ (lexed l).toks, P t := by
  unfold lexed
  split
  · intro t ht
    cases ht
  · exact steps_all h _ _ _ (fun t ht => by cases ht)
/-- a name is no word, and its bytes are bytes -/
theorem read_name {r : List Nat} (h : (readT r).err = 0) (hy : Byn r) : Byn (readT r).text ∧ ((readT r).kind = 1 → isWord (readT r).text = false) := by
  have nilB : Byn [] := fun b hb => by cases hb
  cases r with
  | nil => exact ⟨nilB, fun h1 => by simp [readT, bad] at h1⟩
  | cons b r =>
    rw [readT_cons] at h ⊢
    by_cases h1 : letterB b = true
    · rw [if_pos h1] at h ⊢
      unfold nameT at h ⊢
      split at h
      · simp [bad] at h
      · rename_i hn
        rw [if_neg hn]
        refine ⟨hy.sub fun x hx => List.mem_of_mem_take hx, fun hk => ?_⟩
        dsimp only at hk ⊢
        cases hw : isWord (List.take (run nameB (b :: r)) (b :: r)) with
        | false => rfl
        | true => rw [hw] at hk; simp at hk
    · rw [if_neg h1] at h ⊢
      by_cases h2 : digitB b = true
      · rw [if_pos h2] at h ⊢
        unfold numT at h ⊢
        cases hv : value (List.take (run digitB (b :: r)) (b :: r)) 0 with
        | none => rw [hv] at h; simp [bad] at h
        | some v => exact ⟨nilB, fun hk => by simp at hk⟩
      · rw [if_neg h2] at h ⊢
        by_cases h3 : b = 34
        · rw [if_pos h3] at h ⊢
          unfold textT at h ⊢
          split at h
          · rename_i hq
            rw [if_pos hq]
            split at h
            · simp [bad] at h
            · rename_i hn
              rw [if_neg hn]
              exact ⟨hy.sub fun x hx => List.mem_of_mem_drop (List.mem_of_mem_take hx), fun hk => by simp at hk⟩
          · simp [bad] at h
        · rw [if_neg h3] at h ⊢
          unfold signT at h ⊢
          split at h
          · simp [bad] at h
          · rename_i hn
            rw [if_neg hn]
            exact ⟨signOf_byn hy, fun hk => by simp at hk⟩
theorem lexed_names {l : List Nat} (hy : Byn l) : ∀ t ∈ (lexed l).toks, Byn t.text ∧ (t.kind = 1 → isWord t.text = false) :=
  lexed_all fun _ _ he => read_name he (hy.sub fun _ hx => List.mem_of_mem_drop hx)
/-- at most as many tokens as there may be -/
theorem steps_many {l : List Nat} : ∀ (f p : Nat) (ts : List Tok), ts.length ≤ 2048 → (steps l f p ts).toks.length ≤ 2048
  | 0, _, _, h => h
  | f + 1, p, ts, h => by
    unfold steps
    split
    · split
      · exact Nat.zero_le _
      · split
        · exact Nat.zero_le _
        · exact steps_many f _ _ (by simp; omega)
    · exact h
theorem lexed_many (l : List Nat) : (lexed l).toks.length ≤ 2048 := by
  unfold lexed
  split
  · exact Nat.zero_le _
  · exact steps_many _ _ _ (Nat.zero_le _)

end Go.Proofs.YtoicncfpoklanaaDoor
