/- Blanks and a remark between two texts of tokens, in plain words; nothing of the program. Conditions: those in each theorem. -/
import Derived.Test.YtdmjlgjnboofdaaDoorWo
namespace Go.Proofs.YtdmjlgjnboofdaaDoor

/-- what is read does not hang on what stands behind a byte 10 -/
theorem readT_more {r : List Nat} (c : List Nat) (h : (readT r).err = 0) : readT (r ++ 10 :: c) = readT r := by
  cases r with
  | nil => simp [readT, bad] at h
  | cons b r =>
    have e0 : (b :: r) ++ 10 :: c = b :: (r ++ 10 :: c) := rfl
    rw [e0, readT_cons, readT_cons]
    rw [readT_cons] at h
    by_cases h1 : letterB b = true
    · rw [if_pos h1, if_pos h1]
      have hr : run nameB (b :: (r ++ 10 :: c)) = run nameB (b :: r) := by rw [← e0]; exact run_append nameB 10 (by decide) c (b :: r)
      unfold nameT
      rw [hr, ← e0, List.take_append_of_le_length (run_le nameB (b :: r))]
    · rw [if_neg h1] at h
      rw [if_neg h1, if_neg h1]
      by_cases h2 : digitB b = true
      · rw [if_pos h2, if_pos h2]
        have hr : run digitB (b :: (r ++ 10 :: c)) = run digitB (b :: r) := by rw [← e0]; exact run_append digitB 10 (by decide) c (b :: r)
        unfold numT
        rw [hr, ← e0, List.take_append_of_le_length (run_le digitB (b :: r))]
      · rw [if_neg h2] at h
        rw [if_neg h2, if_neg h2]
        by_cases h3 : b = 34
        · rw [if_pos h3] at h
          rw [if_pos h3, if_pos h3]
          unfold textT at h ⊢
          simp only [List.drop_succ_cons, List.drop_zero] at h ⊢
          rw [run_append textB 10 (by decide) c r]
          by_cases hq : r[run textB r]? = some 34
          · have hn := (List.getElem?_eq_some_iff.1 hq).1
            rw [List.getElem?_append_left hn, if_pos hq, if_pos hq, List.take_append_of_le_length (run_le textB r)]
          · rw [if_neg hq] at h
            simp [bad] at h
        · rw [if_neg h3] at h
          rw [if_neg h3, if_neg h3]
          have hs : signOf (b :: (r ++ 10 :: c)) = signOf (b :: r) := by
            cases r with
            | nil =>
              have t1 : twos.contains [b, 10] = false := by
                have hall : ∀ x ∈ twos, x[1]? ≠ some 10 := by decide
                cases hc : twos.contains [b, 10] with
                | false => rfl
                | true => exact absurd rfl (hall [b, 10] (by simpa using hc))
              have t2 : twos.contains [b] = false := by
                have hall : ∀ x ∈ twos, x.length = 2 := by decide
                cases hc : twos.contains [b] with
                | false => rfl
                | true =>
                  have := hall [b] (by simpa using hc)
                  simp at this
              show (if twos.contains [b, 10] = true then [b, 10] else if ones.contains [b] = true then [b] else []) = (if twos.contains [b] = true then [b] else if ones.contains [b] = true then [b] else [])
              rw [if_neg (show ¬ twos.contains [b, 10] = true by rw [t1]; simp), if_neg (show ¬ twos.contains [b] = true by rw [t2]; simp)]
            | cons x r => rfl
          unfold signT
          rw [hs]

theorem white_more (t : List Nat) : ∀ (c : Bool) (r : List Nat), white c (r ++ 10 :: t) = if white c r = r.length then r.length + (white false t + 1) else white c r
  | c, [] => by
    have h1 : (10 == 35 || (c && 10 != 10)) = false := by cases c <;> rfl
    have h2 : white c (10 :: t) = white false t + 1 := by
      rw [white, h1]
      rfl
    show white c (10 :: t) = _
    rw [h2]
    simp [white]
  | c, b :: r => by
    show white c (b :: (r ++ 10 :: t)) = _
    rw [white, white]
    split
    · rw [white_more t _ r]
      split
      · rename_i h
        rw [if_pos (by simp [h])]
        simp
        omega
      · rename_i h
        rw [if_neg (by simp [h])]
    · rw [if_neg (by simp)]
/-- white space from a place on, with more behind -/
theorem skip_more {a : List Nat} (t : List Nat) {p : Nat} (hp : p ≤ a.length) : skip (a ++ 10 :: t) p = if skip a p = a.length then a.length + 1 + white false t else skip a p := by
  unfold skip
  rw [List.drop_append_of_le_length hp, white_more]
  have hl : (a.drop p).length = a.length - p := by simp
  rw [hl]
  by_cases h : white false (a.drop p) = a.length - p
  · rw [if_pos h, if_pos (by omega)]
    omega
  · rw [if_neg h, if_neg (by have := white_le false (a.drop p); omega)]

/-- the tokens of a text, with more behind -/
theorem rest_more {a : List Nat} (t : List Nat) (xs : List Tok) : ∀ (n p : Nat) (ts : List Tok), a.length - p ≤ n → p ≤ a.length → rest a p ts = ⟨0, xs, 0⟩ →
    rest (a ++ 10 :: t) (if p = a.length then a.length + 1 + white false t else p) ts = rest (a ++ 10 :: t) (a.length + 1 + white false t) xs := by
  intro n
  induction n with
  | zero =>
    intro p ts hn hp h
    obtain rfl : p = a.length := by omega
    rw [rest_end ts (Nat.le_refl _)] at h
    injection h with _ h2
    subst h2
    rw [if_pos rfl]
  | succ n ih =>
    intro p ts hn hp h
    by_cases hpe : p = a.length
    · subst hpe
      rw [rest_end ts (Nat.le_refl _)] at h
      injection h with _ h2
      subst h2
      rw [if_pos rfl]
    · have hlt : p < a.length := by omega
      rw [if_neg hpe]
      have he : (readT (a.drop p)).err = 0 := by
        cases Nat.decEq (readT (a.drop p)).err 0 with
        | isTrue h0 => exact h0
        | isFalse h0 =>
          rw [rest_bad ts hlt h0] at h
          exact absurd (congrArg Out.err h) h0
      have hm : ts.length ≠ 2048 := by
        intro h2
        rw [rest_many hlt he h2] at h
        have h1 : 2 = 0 := congrArg Out.err h
        omega
      have hd : (a ++ 10 :: t).drop p = a.drop p ++ 10 :: t := List.drop_append_of_le_length hp
      have hr : readT ((a ++ 10 :: t).drop p) = readT (a.drop p) := by rw [hd]; exact readT_more t he
      have hl := read_len _ he
      rw [List.length_drop] at hl
      have hsk := skip_ge a (p + (readT (a.drop p)).len)
      rw [rest_next hlt he hm] at h
      rw [rest_next (by simp; omega) (by rw [hr]; exact he) hm, hr, skip_more t (by omega)]
      exact ih _ _ (by omega) (skip_le a _ (by omega)) h

theorem steps_grow {l : List Nat} : ∀ (f p : Nat) (ts : List Tok), (steps l f p ts).err = 0 → ts.length ≤ (steps l f p ts).toks.length
  | 0, _, _, _ => Nat.le_refl _
  | f + 1, p, ts, h => by
    unfold steps at h ⊢
    split at h
    · rename_i hp
      rw [if_pos hp]
      split at h
      · rename_i h1
        exact absurd h h1
      · rename_i h1
        rw [if_neg h1]
        split at h
        · cases h
        · rename_i h2
          rw [if_neg h2]
          have := steps_grow f _ _ h
          rw [List.length_append, List.length_singleton] at this
          omega
    · rename_i hp
      rw [if_neg hp]
      exact Nat.le_refl _
/-- where there is no error there is no place of one -/
theorem steps_zero {l : List Nat} : ∀ (f p : Nat) (ts : List Tok), (steps l f p ts).err = 0 → (steps l f p ts).place = 0
  | 0, _, _, _ => rfl
  | f + 1, p, ts, h => by
    unfold steps at h ⊢
    split at h
    · rename_i hp
      rw [if_pos hp]
      split at h
      · rename_i h1
        exact absurd h h1
      · rename_i h1
        rw [if_neg h1]
        split at h
        · cases h
        · rename_i h2
          rw [if_neg h2]
          exact steps_zero f _ _ h
    · rename_i hp
      rw [if_neg hp]
/-- a token at another place -/
def shift (d : Nat) (t : Tok) : Tok := ⟨t.kind, t.text, t.num, t.place + d⟩
theorem skip_shift (pre b : List Nat) (q : Nat) : skip (pre ++ b) (pre.length + q) = pre.length + skip b q := by
  unfold skip
  rw [← List.drop_drop, List.drop_append_of_le_length (Nat.le_refl _), List.drop_length, List.nil_append]
  omega
/-- the tokens of a text that stands behind another one -/
theorem rest_shift (pre : List Nat) {b : List Nat} (ts ys : List Tok) (hm : ts.length + ys.length ≤ 2048) : ∀ (n q : Nat) (y0 : List Tok), b.length - q ≤ n → q ≤ b.length → rest b q y0 = ⟨0, ys, 0⟩ →
    rest (pre ++ b) (pre.length + q) (ts ++ y0.map (shift pre.length)) = ⟨0, ts ++ ys.map (shift pre.length), 0⟩ := by
  have stop : ∀ (y0 : List Tok), rest b b.length y0 = ⟨0, ys, 0⟩ → rest (pre ++ b) (pre.length + b.length) (ts ++ y0.map (shift pre.length)) = ⟨0, ts ++ ys.map (shift pre.length), 0⟩ := by
    intro y0 h
    rw [rest_end y0 (Nat.le_refl _)] at h
    injection h with _ h2
    subst h2
    rw [rest_end _ (by simp)]
  intro n
  induction n with
  | zero =>
    intro q y0 hn hq h
    obtain rfl : q = b.length := by omega
    exact stop y0 h
  | succ n ih =>
    intro q y0 hn hq h
    by_cases hqe : q = b.length
    · subst hqe
      exact stop y0 h
    · have hlt : q < b.length := by omega
      have he : (readT (b.drop q)).err = 0 := by
        cases Nat.decEq (readT (b.drop q)).err 0 with
        | isTrue h0 => exact h0
        | isFalse h0 =>
          rw [rest_bad y0 hlt h0] at h
          exact absurd (congrArg Out.err h) h0
      have hy : y0.length ≠ 2048 := by
        intro h2
        rw [rest_many hlt he h2] at h
        have h1 : 2 = 0 := congrArg Out.err h
        omega
      have hd : (pre ++ b).drop (pre.length + q) = b.drop q := by
        rw [← List.drop_drop, List.drop_append_of_le_length (Nat.le_refl _), List.drop_length, List.nil_append]
      have hl := read_len _ he
      rw [List.length_drop] at hl
      have hsk := skip_ge b (q + (readT (b.drop q)).len)
      rw [rest_next hlt he hy] at h
      have hg := steps_grow (l := b) (b.length - skip b (q + (readT (b.drop q)).len) + 1) (skip b (q + (readT (b.drop q)).len)) (y0 ++ [⟨(readT (b.drop q)).kind, (readT (b.drop q)).text, (readT (b.drop q)).num, q⟩])
      have h' : steps b (b.length - skip b (q + (readT (b.drop q)).len) + 1) (skip b (q + (readT (b.drop q)).len)) (y0 ++ [⟨(readT (b.drop q)).kind, (readT (b.drop q)).text, (readT (b.drop q)).num, q⟩]) = ⟨0, ys, 0⟩ := h
      rw [h'] at hg
      have hg2 := hg rfl
      rw [List.length_append, List.length_singleton] at hg2
      dsimp only at hg2
      rw [rest_next (by simp; omega) (by rw [hd]; exact he) (by simp; omega), hd, Nat.add_assoc, skip_shift]
      have ih' := ih _ _ (by omega) (skip_le b _ (by omega)) h
      rw [List.map_append, ← List.append_assoc] at ih'
      rw [← ih']
      simp only [List.map_cons, List.map_nil, shift]
      rw [Nat.add_comm q pre.length]

theorem white_remark' (b : List Nat) : ∀ rm : List Nat, (∀ x ∈ rm, x ≠ 10) → white true (rm ++ 10 :: b) = rm.length + 1 + white false b
  | [], _ => by
    show white true (10 :: b) = _
    rw [white, if_pos (by decide)]
    simp
    omega
  | x :: rm, h => by
    have hx := h x (by simp)
    have h1 : (x == 35 || (true && x != 10)) = true := by simp [hx]
    show white true (x :: (rm ++ 10 :: b)) = _
    rw [white, h1, if_pos (by simp), white_remark' b rm fun y hy => h y (by simp [hy])]
    simp
    omega
/-- P3.2: blanks and a remark between change nothing but places -/
theorem lexed_between {a b rm : List Nat} {xs ys : List Tok} {pa pb : Nat} (ha : lexed a = ⟨0, xs, pa⟩) (hb : lexed b = ⟨0, ys, pb⟩) (la : a.length ≤ 1500) (lb : b.length ≤ 1500) (lr : rm.length ≤ 100) (hr : ∀ x ∈ rm, x ≠ 10) (hm : xs.length + ys.length ≤ 2048) :
    lexed (a ++ ([10, 9, 32, 35] ++ (rm ++ [10])) ++ b) = ⟨0, xs ++ ys.map (shift (a.length + (rm.length + 5))), 0⟩ := by
  have ea := lexed_rest (l := a) (by omega)
  have eb := lexed_rest (l := b) (by omega)
  have za : ∀ (l : List Nat) (p : Nat) (ts us : List Tok) (q : Nat), rest l p ts = ⟨0, us, q⟩ → rest l p ts = ⟨0, us, 0⟩ := by
    intro l p ts us q h
    have hz := steps_zero (l := l) (l.length - p + 1) p ts
    have h' : steps l (l.length - p + 1) p ts = ⟨0, us, q⟩ := h
    rw [h'] at hz
    rw [h]
    have := hz rfl
    dsimp only at this
    rw [this]
  have ra := za _ _ _ _ _ (ea.symm.trans ha)
  have rb := za _ _ _ _ _ (eb.symm.trans hb)
  have hpl : (a ++ ([10, 9, 32, 35] ++ (rm ++ [10]))).length = a.length + (rm.length + 5) := by simp
  have hsplit : a ++ ([10, 9, 32, 35] ++ (rm ++ [10])) ++ b = a ++ 10 :: ([9, 32, 35] ++ (rm ++ 10 :: b)) := by simp
  have hw : white false ([9, 32, 35] ++ (rm ++ 10 :: b)) = 3 + (rm.length + 1 + white false b) := by
    show white false (9 :: 32 :: 35 :: (rm ++ 10 :: b)) = _
    rw [white, if_pos (by decide), show (9 == 35 || (false && 9 != 10)) = false from rfl, white, if_pos (by decide), show (32 == 35 || (false && 32 != 10)) = false from rfl, white, if_pos (by decide), show (35 == 35 || (false && 35 != 10)) = true from rfl, white_remark' b rm hr]
    omega
  have h1 := rest_more ([9, 32, 35] ++ (rm ++ 10 :: b)) xs a.length (skip a 0) [] (by omega) (skip_le a 0 (Nat.zero_le _)) ra
  have hs0 := skip_more (a := a) ([9, 32, 35] ++ (rm ++ 10 :: b)) (p := 0) (Nat.zero_le _)
  have h2 := rest_shift (a ++ ([10, 9, 32, 35] ++ (rm ++ [10]))) xs ys hm b.length (skip b 0) [] (by omega) (skip_le b 0 (Nat.zero_le _)) rb
  rw [hpl] at h2
  rw [lexed_rest (by rw [List.length_append, hpl]; omega)]
  rw [hsplit] at h2 ⊢
  rw [hs0, h1, hw]
  rw [List.map_nil, List.append_nil] at h2
  rw [← h2]
  congr 1
  unfold skip
  rw [List.drop_zero]
  omega
end Go.Proofs.YtdmjlgjnboofdaaDoor
