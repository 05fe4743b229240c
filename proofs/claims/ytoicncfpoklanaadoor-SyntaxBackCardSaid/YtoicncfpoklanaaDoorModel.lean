/- The document's lexer, as plain functions of lists of bytes; nothing of the program. Conditions: those in each theorem. -/
import Derived.Test.YtoicncfpoklanaaDoorByt
namespace Go.Proofs.YtoicncfpoklanaaDoor

def letterB (b : Nat) : Bool := decide (97 ≤ b) && decide (b ≤ 122)
def digitB (b : Nat) : Bool := decide (48 ≤ b) && decide (b ≤ 57)
def nameB (b : Nat) : Bool := letterB b || digitB b || decide (b = 95)
def textB (b : Nat) : Bool := decide (32 ≤ b) && decide (b ≤ 126) && decide (b ≠ 34) && decide (b ≠ 92)
def blankB (b : Nat) : Bool := decide (b = 9) || decide (b = 10) || decide (b = 13) || decide (b = 32)

/-- how many bytes of a kind there are at the beginning -/
def run (p : Nat → Bool) : List Nat → Nat
  | [] => 0
  | b :: r => if p b then run p r + 1 else 0
theorem run_le (p : Nat → Bool) : ∀ l, run p l ≤ l.length
  | [] => Nat.le_refl _
  | b :: r => by
    unfold run
    have := run_le p r
    split
    · simp; omega
    · exact Nat.zero_le _
theorem run_stop (p : Nat → Bool) : ∀ l b, l[run p l]? = some b → p b = false
  | [], b, h => by simp at h
  | c :: r, b, h => by
    unfold run at h
    by_cases hp : p c = true
    · rw [if_pos hp] at h
      exact run_stop p r b (by simpa using h)
    · rw [if_neg hp] at h
      simp at h
      subst h
      simpa using hp
theorem run_all (p : Nat → Bool) : ∀ l : List Nat, ∀ b ∈ l.take (run p l), p b = true
  | [], b, h => by simp at h
  | c :: r, b, h => by
    unfold run at h
    by_cases hp : p c = true
    · rw [if_pos hp, List.take_succ_cons] at h
      rcases List.mem_cons.1 h with rfl | h
      · exact hp
      · exact run_all p r b h
    · rw [if_neg hp] at h
      simp at h
theorem run_append (p : Nat → Bool) (b : Nat) (hb : p b = false) (c : List Nat) : ∀ r, run p (r ++ b :: c) = run p r
  | [] => by simp [run, hb]
  | x :: r => by
    simp only [List.cons_append, run]
    rw [run_append p b hb c r]
theorem run_every (p : Nat → Bool) : ∀ r, (∀ b ∈ r, p b = true) → run p r = r.length
  | [], _ => rfl
  | x :: r, h => by
    simp only [run, h x (by simp), if_true, List.length_cons]
    rw [run_every p r fun b hb => h b (by simp [hb])]

/-- how many bytes of white space there are at the beginning; c: within a remark -/
def white : Bool → List Nat → Nat
  | _, [] => 0
  | c, b :: r => if ((b == 35 || (c && b != 10)) || blankB b) then white (b == 35 || (c && b != 10)) r + 1 else 0
theorem white_le : ∀ c l, white c l ≤ l.length
  | _, [] => Nat.le_refl _
  | c, b :: r => by
    unfold white
    have := white_le (b == 35 || (c && b != 10)) r
    split
    · simp; omega
    · exact Nat.zero_le _

def wordsN : List (List Nat) := [[102, 110], [108, 101, 116], [105, 102], [101, 108, 115, 101], [102, 111, 114], [116, 111], [114, 101, 116, 117, 114, 110], [112, 117, 116], [100, 101, 108], [103, 101, 116], [104, 97, 115], [108, 101, 110], [116, 114, 117, 101], [102, 97, 108, 115, 101], [105, 110, 116], [98, 111, 111, 108], [98, 121, 116, 101, 115]]
def twos : List (List Nat) := [[61, 61], [33, 61], [60, 61], [62, 61], [38, 38], [124, 124]]
def ones : List (List Nat) := [[40], [41], [123], [125], [44], [59], [58], [61], [60], [62], [43], [45], [42], [47], [37], [33]]
def signsN : List (List Nat) := twos ++ ones
def isWord (s : List Nat) : Bool := wordsN.contains s

/-- what is read at a place: an error, or a token and its length -/
structure Read where
  err : Nat
  kind : Nat
  text : List Nat
  num : Nat
  len : Nat
def bad (e : Nat) : Read := ⟨e, 0, [], 0, 0⟩

def nameT (r : List Nat) : Read :=
  if run nameB r > 16 then bad 32 else ⟨0, bif isWord (r.take (run nameB r)) then 4 else 1, r.take (run nameB r), 0, run nameB r⟩
/-- the number that digits are behind one that was read -/
def value : List Nat → Nat → Option Nat
  | [], n => some n
  | d :: r, n => if n > (9223372036854775807 - (d - 48)) / 10 then none else value r (n * 10 + (d - 48))
def numT (r : List Nat) : Read :=
  match value (r.take (run digitB r)) 0 with
  | none => bad 32
  | some v => ⟨0, 2, [], v, run digitB r⟩
def textT (r : List Nat) : Read :=
  if (r.drop 1)[run textB (r.drop 1)]? = some 34 then
    (if run textB (r.drop 1) > 64 then bad 32 else ⟨0, 3, (r.drop 1).take (run textB (r.drop 1)), 0, run textB (r.drop 1) + 2⟩)
  else bad 31
def signOf (r : List Nat) : List Nat := if twos.contains (r.take 2) then r.take 2 else if ones.contains (r.take 1) then r.take 1 else []
def signT (r : List Nat) : Read := if signOf r = [] then bad 31 else ⟨0, 4, signOf r, 0, (signOf r).length⟩
def readT (r : List Nat) : Read :=
  match r with
  | [] => bad 31
  | b :: _ => if letterB b then nameT r else if digitB b then numT r else if b = 34 then textT r else signT r

/-- a token -/
structure Tok where
  kind : Nat
  text : List Nat
  num : Nat
  place : Nat
def skip (l : List Nat) (p : Nat) : Nat := p + white false (l.drop p)
/-- an error, the tokens, and the place of the error -/
structure Out where
  err : Nat
  toks : List Tok
  place : Nat
def steps (l : List Nat) : Nat → Nat → List Tok → Out
  | 0, _, ts => ⟨0, ts, 0⟩
  | f + 1, p, ts =>
    if p < l.length then
      if (readT (l.drop p)).err ≠ 0 then ⟨(readT (l.drop p)).err, [], p⟩
      else if ts.length = 2048 then ⟨2, [], p⟩
      else steps l f (skip l (p + (readT (l.drop p)).len)) (ts ++ [⟨(readT (l.drop p)).kind, (readT (l.drop p)).text, (readT (l.drop p)).num, p⟩])
    else ⟨0, ts, 0⟩
def lexed (l : List Nat) : Out := if l.length > 4096 then ⟨2, [], 0⟩ else steps l (l.length + 1) (skip l 0) []

theorem skip_ge (l : List Nat) (p : Nat) : p ≤ skip l p := Nat.le_add_right _ _
theorem skip_le (l : List Nat) (p : Nat) (h : p ≤ l.length) : skip l p ≤ l.length := by
  unfold skip
  have := white_le false (l.drop p)
  simp at this
  omega

theorem signOf_le (r : List Nat) : (signOf r).length ≤ r.length := by
  unfold signOf
  repeat' split
  all_goals simp
  all_goals omega
theorem readT_cons (b : Nat) (r : List Nat) : readT (b :: r) = if letterB b then nameT (b :: r) else if digitB b then numT (b :: r) else if b = 34 then textT (b :: r) else signT (b :: r) := rfl
theorem read_len (r : List Nat) (h : (readT r).err = 0) : 1 ≤ (readT r).len ∧ (readT r).len ≤ r.length := by
  cases r with
  | nil => simp [readT, bad] at h
  | cons b r =>
    rw [readT_cons] at h ⊢
    by_cases h1 : letterB b = true
    · simp only [h1, if_true] at h ⊢
      have hr : run nameB (b :: r) = run nameB r + 1 := by simp [run, nameB, h1]
      have hl := run_le nameB (b :: r)
      unfold nameT at h ⊢
      split at h
      · simp [bad] at h
      · rename_i hn
        rw [if_neg hn]
        dsimp only
        omega
    · rw [if_neg h1] at h ⊢
      by_cases h2 : digitB b = true
      · simp only [h2, if_true] at h ⊢
        have hr : run digitB (b :: r) = run digitB r + 1 := by simp [run, h2]
        have hl := run_le digitB (b :: r)
        unfold numT at h ⊢
        cases hv : value (List.take (run digitB (b :: r)) (b :: r)) 0 with
        | none => rw [hv] at h; simp [bad] at h
        | some v => dsimp only; omega
      · rw [if_neg h2] at h ⊢
        by_cases h3 : b = 34
        · simp only [h3, if_true] at h ⊢
          unfold textT at h ⊢
          simp only [List.drop_succ_cons, List.drop_zero] at h ⊢
          split at h
          · rename_i hq
            rw [if_pos hq]
            split at h
            · simp [bad] at h
            · rename_i hn
              rw [if_neg hn]
              have := (List.getElem?_eq_some_iff.1 hq).1
              simp
              omega
          · simp [bad] at h
        · rw [if_neg h3] at h ⊢
          have hl := signOf_le (b :: r)
          unfold signT at h ⊢
          split at h
          · simp [bad] at h
          · rename_i hn
            rw [if_neg hn]
            dsimp only
            have := List.length_pos_iff.2 hn
            omega

/-- more fuel changes nothing -/
theorem steps_more (l : List Nat) : ∀ (f g p : Nat) (ts : List Tok), l.length - p < f → l.length - p < g → steps l f p ts = steps l g p ts
  | 0, _, _, _, h, _ => by omega
  | _, 0, _, _, _, h => by omega
  | f + 1, g + 1, p, ts, hf, hg => by
    unfold steps
    split
    · split
      · rfl
      · rename_i hp he
        split
        · rfl
        · have h1 := read_len (l.drop p) (by simpa using he)
          have h2 := skip_ge l (p + (readT (l.drop p)).len)
          exact steps_more l f g _ _ (by omega) (by omega)
    · rfl
/-- what comes of the rest from a place on -/
def rest (l : List Nat) (p : Nat) (ts : List Tok) : Out := steps l (l.length - p + 1) p ts
theorem lexed_rest {l : List Nat} (h : l.length ≤ 4096) : lexed l = rest l (skip l 0) [] := by
  unfold lexed rest
  rw [if_neg (by omega)]
  exact steps_more l _ _ _ _ (by have := skip_ge l 0; omega) (by omega)
theorem rest_end {l : List Nat} {p : Nat} (ts : List Tok) (h : l.length ≤ p) : rest l p ts = ⟨0, ts, 0⟩ := by
  unfold rest steps
  rw [if_neg (by omega)]
theorem rest_bad {l : List Nat} {p : Nat} (ts : List Tok) (h : p < l.length) (he : (readT (l.drop p)).err ≠ 0) : rest l p ts = ⟨(readT (l.drop p)).err, [], p⟩ := by
  unfold rest steps
  rw [if_pos h, if_pos he]
theorem rest_many {l : List Nat} {p : Nat} {ts : List Tok} (h : p < l.length) (he : (readT (l.drop p)).err = 0) (ht : ts.length = 2048) : rest l p ts = ⟨2, [], p⟩ := by
  unfold rest steps
  rw [if_pos h, if_neg (by simpa using he), if_pos ht]
theorem rest_next {l : List Nat} {p : Nat} {ts : List Tok} (h : p < l.length) (he : (readT (l.drop p)).err = 0) (ht : ts.length ≠ 2048) :
    rest l p ts = rest l (skip l (p + (readT (l.drop p)).len)) (ts ++ [⟨(readT (l.drop p)).kind, (readT (l.drop p)).text, (readT (l.drop p)).num, p⟩]) := by
  have h1 := read_len (l.drop p) he
  have h2 := skip_ge l (p + (readT (l.drop p)).len)
  conv => lhs; unfold rest steps
  rw [if_pos h, if_neg (by simpa using he), if_neg ht]
  exact steps_more l _ _ _ _ (by omega) (by omega)
end Go.Proofs.YtoicncfpoklanaaDoor
