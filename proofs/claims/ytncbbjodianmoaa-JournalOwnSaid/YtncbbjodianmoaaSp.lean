/- Plain facts on stores: rows of keys and values, what is found, put and taken away; nothing of the program. Conditions: those in each theorem. -/
import Derived.Test.YtncbbjodianmoaaNum
namespace Go.Proofs.Ytncbbjodianmoaa

/-- a pair: a key and a value -/
abbrev PR := List Int × List Int

/-- how two byte strings stand, byte by byte -/
def cmpB : List Int → List Int → Int
  | [], [] => 0
  | [], _ :: _ => -1
  | _ :: _, [] => 1
  | a :: as, b :: bs => if a < b then -1 else if b < a then 1 else cmpB as bs

theorem cmpB_cases : ∀ (a b : List Int), cmpB a b = -1 ∨ cmpB a b = 0 ∨ cmpB a b = 1
  | [], [] => by simp [cmpB]
  | [], _ :: _ => by simp [cmpB]
  | _ :: _, [] => by simp [cmpB]
  | a :: as, b :: bs => by
    unfold cmpB
    by_cases h : a < b
    · simp [h]
    · by_cases h' : b < a
      · simp [h, h']
      · simp only [h, h', if_false]
        exact cmpB_cases as bs
theorem cmpB_self : ∀ (a : List Int), cmpB a a = 0
  | [] => rfl
  | a :: as => by simp [cmpB, cmpB_self as]
theorem cmpB_zero : ∀ {a b : List Int}, cmpB a b = 0 → a = b
  | [], [], _ => rfl
  | [], _ :: _, h => by simp [cmpB] at h
  | _ :: _, [], h => by simp [cmpB] at h
  | a :: as, b :: bs, h => by
    unfold cmpB at h
    by_cases h1 : a < b
    · simp [h1] at h
    · by_cases h2 : b < a
      · simp [h1, h2] at h
      · simp only [h1, h2, if_false] at h
        rw [cmpB_zero h, show a = b by omega]
theorem cmpB_flip : ∀ (a b : List Int), cmpB b a = - cmpB a b
  | [], [] => by simp [cmpB]
  | [], _ :: _ => by simp [cmpB]
  | _ :: _, [] => by simp [cmpB]
  | a :: as, b :: bs => by
    unfold cmpB
    by_cases h : a < b
    · have : ¬ b < a := by omega
      simp [h, this]
    · by_cases h' : b < a
      · simp [h, h']
      · simp only [h, h', if_false]
        exact cmpB_flip as bs
theorem cmpB_trans : ∀ {a b c : List Int}, cmpB a b < 0 → cmpB b c < 0 → cmpB a c < 0
  | _, [], [], _, h => by simp [cmpB] at h
  | _, _ :: _, [], _, h => by simp [cmpB] at h
  | [], [], _ :: _, h, _ => by simp [cmpB] at h
  | _ :: _, [], _ :: _, h, _ => by simp [cmpB] at h
  | [], _ :: _, _ :: _, _, _ => by simp [cmpB]
  | a :: as, b :: bs, c :: cs, h1, h2 => by
    unfold cmpB at h1 h2 ⊢
    by_cases x : a < b
    · by_cases y : b < c
      · rw [if_pos (by omega)]; omega
      · by_cases y' : c < b
        · simp [y, y'] at h2
        · rw [if_pos (by omega)]; omega
    · by_cases x' : b < a
      · simp [x, x'] at h1
      · simp only [x, x', if_false] at h1
        by_cases y : b < c
        · rw [if_pos (by omega)]; omega
        · by_cases y' : c < b
          · simp [y, y'] at h2
          · simp only [y, y', if_false] at h2
            rw [if_neg (by omega), if_neg (by omega)]
            exact cmpB_trans h1 h2

/-- where the first pair with a key is; if there is none, how many there are -/
def fnd (k : List Int) (l : List PR) : Nat := l.findIdx (fun p => p.1 == k)
/-- where the first pair with a greater key is -/
def bey (k : List Int) (l : List PR) : Nat := l.findIdx (fun p => decide (0 < cmpB p.1 k))
def spA (k : List Int) (l : List PR) : Nat := if fnd k l < l.length then fnd k l else bey k l
def spB (k : List Int) (l : List PR) : Nat := if fnd k l < l.length then fnd k l + 1 else bey k l
def putM (l : List PR) (k v : List Int) : List PR := l.take (spA k l) ++ ((k, v) :: l.drop (spB k l))
def delM (l : List PR) (k : List Int) : List PR := l.take (fnd k l) ++ l.drop (fnd k l + 1)
def hasM (l : List PR) (k : List Int) : Bool := decide (fnd k l < l.length)
def getM (l : List PR) (k : List Int) : List Int := (l.getD (fnd k l) ([], [])).2
def szM (l : List PR) : Nat := (l.map fun p => 8 + p.1.length + p.2.length).sum
abbrev Srt (l : List PR) : Prop := l.Pairwise (fun p q => cmpB p.1 q.1 < 0)
def RightM (l : List PR) : Prop := (∀ p ∈ l, p.1.length ≤ 64 ∧ p.2.length ≤ 256) ∧ Srt l ∧ szM l ≤ 2048
instance (l : List PR) : Decidable (RightM l) := by unfold RightM; infer_instance
def putE (l : List PR) (k v : List Int) : Int := if 64 < k.length ∨ 256 < v.length then 1 else if 2048 < szM (putM l k v) then 71 else 0
def putR (l : List PR) (k v : List Int) : List PR := if putE l k v = 0 then putM l k v else []

theorem fnd_le (k : List Int) (l : List PR) : fnd k l ≤ l.length := List.findIdx_le_length
theorem bey_le (k : List Int) (l : List PR) : bey k l ≤ l.length := List.findIdx_le_length
theorem fnd_at {k : List Int} {l : List PR} (h : fnd k l < l.length) : ∃ v, l[fnd k l]? = some (k, v) := by
  have h2 : (l[fnd k l]).1 = k := eq_of_beq (@List.findIdx_getElem PR (fun p : PR => p.1 == k) l h)
  have hv : l[fnd k l]? = some l[fnd k l] := List.getElem?_eq_getElem h
  generalize l[fnd k l] = q at hv h2
  exact ⟨q.2, by rw [hv, ← h2]⟩
theorem fnd_before {k : List Int} {l : List PR} {i : Nat} {p : PR} (h : i < fnd k l) (hp : l[i]? = some p) : p.1 ≠ k := by
  have hl : i < l.length := (List.getElem?_eq_some_iff.1 hp).1
  have h1 := List.not_of_lt_findIdx (xs := l) (p := fun p => p.1 == k) h
  rw [List.getElem?_eq_getElem hl] at hp
  injection hp with hp
  rw [hp] at h1
  simpa using h1
theorem fnd_none {k : List Int} {l : List PR} (h : ¬ fnd k l < l.length) {p : PR} (hp : p ∈ l) : p.1 ≠ k := by
  obtain ⟨i, hi⟩ := List.getElem?_of_mem hp
  have hl : i < l.length := (List.getElem?_eq_some_iff.1 hi).1
  exact fnd_before (by omega) hi
theorem fnd_has {k : List Int} {l : List PR} {p : PR} (hp : p ∈ l) (hk : p.1 = k) : fnd k l < l.length := by
  rcases Nat.lt_or_ge (fnd k l) l.length with h | h
  · exact h
  · exact absurd hk (fnd_none (by omega) hp)
theorem bey_at {k : List Int} {l : List PR} {p : PR} (hp : l[bey k l]? = some p) : 0 < cmpB p.1 k := by
  have h : bey k l < l.length := (List.getElem?_eq_some_iff.1 hp).1
  have h2 : 0 < cmpB (l[bey k l]).1 k := of_decide_eq_true (@List.findIdx_getElem PR (fun p : PR => decide (0 < cmpB p.1 k)) l h)
  rw [List.getElem?_eq_getElem h] at hp
  injection hp with hp
  rw [hp] at h2
  exact h2
theorem bey_before {k : List Int} {l : List PR} {i : Nat} {p : PR} (h : i < bey k l) (hp : l[i]? = some p) : ¬ 0 < cmpB p.1 k := by
  have hl : i < l.length := (List.getElem?_eq_some_iff.1 hp).1
  have h1 := List.not_of_lt_findIdx (xs := l) (p := fun p => decide (0 < cmpB p.1 k)) h
  rw [List.getElem?_eq_getElem hl] at hp
  injection hp with hp
  rw [hp] at h1
  simpa using h1

theorem szM_append (a b : List PR) : szM (a ++ b) = szM a + szM b := by simp [szM]
theorem szM_cons (p : PR) (l : List PR) : szM (p :: l) = (8 + p.1.length + p.2.length) + szM l := by simp [szM]
theorem szM_nil : szM [] = 0 := rfl
theorem split_at {l : List PR} {i : Nat} {p : PR} (h : l[i]? = some p) : l = l.take i ++ (p :: l.drop (i + 1)) := by
  have hl : i < l.length := (List.getElem?_eq_some_iff.1 h).1
  rw [List.getElem?_eq_getElem hl] at h
  injection h with h
  rw [← h, ← List.drop_eq_getElem_cons hl, List.take_append_drop]

/-- two rows in order that hold the same are the same -/
theorem srt_ext : ∀ {l m : List PR}, Srt l → Srt m → (∀ x, x ∈ l ↔ x ∈ m) → l = m
  | [], [], _, _, _ => rfl
  | [], y :: m, _, _, h => by have := (h y).2 (List.mem_cons_self ..); cases this
  | x :: l, [], _, _, h => by have := (h x).1 (List.mem_cons_self ..); cases this
  | x :: l, y :: m, hl, hm, h => by
    have hl' := List.pairwise_cons.1 hl
    have hm' := List.pairwise_cons.1 hm
    have hxy : x = y := by
      rcases List.mem_cons.1 ((h x).1 (List.mem_cons_self ..)) with e | e
      · exact e
      · rcases List.mem_cons.1 ((h y).2 (List.mem_cons_self ..)) with e' | e'
        · exact e'.symm
        · have h1 := hm'.1 x e
          have h2 := hl'.1 y e'
          have := cmpB_flip x.1 y.1
          omega
    subst hxy
    have : l = m := srt_ext hl'.2 hm'.2 fun z => by
      constructor
      · intro hz
        rcases List.mem_cons.1 ((h z).1 (List.mem_cons_of_mem _ hz)) with e | e
        · subst e
          have := hl'.1 z hz
          rw [cmpB_self] at this
          omega
        · exact e
      · intro hz
        rcases List.mem_cons.1 ((h z).2 (List.mem_cons_of_mem _ hz)) with e | e
        · subst e
          have := hm'.1 z hz
          rw [cmpB_self] at this
          omega
        · exact e
    rw [this]

/-- in order: a key comes once -/
theorem srt_one {l : List PR} (h : Srt l) {p q : PR} (hp : p ∈ l) (hq : q ∈ l) (hk : p.1 = q.1) : p = q := by
  induction h with
  | nil => cases hp
  | @cons x l hx _ ih =>
    rcases List.mem_cons.1 hp with e | e
    · rcases List.mem_cons.1 hq with e' | e'
      · rw [e, e']
      · have := hx q e'
        rw [← e, hk, cmpB_self] at this
        omega
    · rcases List.mem_cons.1 hq with e' | e'
      · have := hx p e
        rw [← e', ← hk, cmpB_self] at this
        omega
      · exact ih e e'

theorem srt_mid {a b : List PR} {p : PR} (h : Srt (a ++ p :: b)) {q : PR} (hq : q ∈ a ++ b) : q.1 ≠ p.1 := by
  have h1 := List.pairwise_append.1 h
  have h2 := List.pairwise_cons.1 h1.2.1
  intro e
  rcases List.mem_append.1 hq with h3 | h3
  · have := h1.2.2 q h3 p (List.mem_cons_self ..)
    rw [e, cmpB_self] at this
    omega
  · have := h2.1 q h3
    rw [e, cmpB_self] at this
    omega

theorem mem_putM {l : List PR} (h : Srt l) (k v : List Int) (x : PR) : x ∈ putM l k v ↔ x = (k, v) ∨ (x ∈ l ∧ x.1 ≠ k) := by
  unfold putM spA spB
  by_cases hf : fnd k l < l.length
  · rw [if_pos hf, if_pos hf]
    obtain ⟨v0, hv⟩ := fnd_at hf
    have e := split_at hv
    have hs : Srt (l.take (fnd k l) ++ (k, v0) :: l.drop (fnd k l + 1)) := by rw [← e]; exact h
    have hm := fun q hq => srt_mid hs (q := q) hq
    constructor
    · intro hx
      rcases List.mem_append.1 hx with h1 | h1
      · exact .inr ⟨List.mem_of_mem_take h1, hm x (List.mem_append_left _ h1)⟩
      · rcases List.mem_cons.1 h1 with h2 | h2
        · exact .inl h2
        · exact .inr ⟨List.mem_of_mem_drop h2, hm x (List.mem_append_right _ h2)⟩
    · rintro (h1 | ⟨h1, h2⟩)
      · exact List.mem_append_right _ (by rw [h1]; exact List.mem_cons_self ..)
      · rw [e] at h1
        rcases List.mem_append.1 h1 with h3 | h3
        · exact List.mem_append_left _ h3
        · rcases List.mem_cons.1 h3 with h4 | h4
          · exact absurd (by rw [h4]) h2
          · exact List.mem_append_right _ (List.mem_cons_of_mem _ h4)
  · rw [if_neg hf, if_neg hf]
    have hn := fun q hq => fnd_none hf (p := q) hq
    constructor
    · intro hx
      rcases List.mem_append.1 hx with h1 | h1
      · exact .inr ⟨List.mem_of_mem_take h1, hn x (List.mem_of_mem_take h1)⟩
      · rcases List.mem_cons.1 h1 with h2 | h2
        · exact .inl h2
        · exact .inr ⟨List.mem_of_mem_drop h2, hn x (List.mem_of_mem_drop h2)⟩
    · rintro (h1 | ⟨h1, h2⟩)
      · exact List.mem_append_right _ (by rw [h1]; exact List.mem_cons_self ..)
      · rw [← List.take_append_drop (bey k l) l] at h1
        rcases List.mem_append.1 h1 with h3 | h3
        · exact List.mem_append_left _ h3
        · exact List.mem_append_right _ (List.mem_cons_of_mem _ h3)

theorem srt_putM {l : List PR} (h : Srt l) (k v : List Int) : Srt (putM l k v) := by
  unfold putM spA spB
  by_cases hf : fnd k l < l.length
  · rw [if_pos hf, if_pos hf]
    obtain ⟨v0, hv⟩ := fnd_at hf
    have e := split_at hv
    have hs : Srt (l.take (fnd k l) ++ (k, v0) :: l.drop (fnd k l + 1)) := by rw [← e]; exact h
    have h1 := List.pairwise_append.1 hs
    have h2 := List.pairwise_cons.1 h1.2.1
    refine List.pairwise_append.2 ⟨h1.1, List.pairwise_cons.2 ⟨h2.1, h2.2⟩, fun a ha b hb => ?_⟩
    rcases List.mem_cons.1 hb with e' | e'
    · subst e'
      exact h1.2.2 a ha (k, v0) (List.mem_cons_self ..)
    · exact h1.2.2 a ha b (List.mem_cons_of_mem _ e')
  · rw [if_neg hf, if_neg hf]
    have hl := h
    rw [← List.take_append_drop (bey k l) l] at hl
    have h1 := List.pairwise_append.1 hl
    have hlow : ∀ q ∈ l.take (bey k l), cmpB q.1 k < 0 := by
      intro q hq
      obtain ⟨i, hi⟩ := List.getElem?_of_mem hq
      have hil : i < bey k l := by
        have := (List.getElem?_eq_some_iff.1 hi).1
        simp at this
        omega
      rw [List.getElem?_take, if_pos hil] at hi
      have h3 := bey_before hil hi
      have h4 := fnd_none hf (List.mem_of_mem_take hq)
      rcases cmpB_cases q.1 k with h5 | h5 | h5
      · omega
      · exact absurd (cmpB_zero h5) h4
      · omega
    have hhigh : ∀ q ∈ l.drop (bey k l), cmpB k q.1 < 0 := by
      intro q hq
      have hlt : bey k l < l.length := by
        rcases Nat.lt_or_ge (bey k l) l.length with h3 | h3
        · exact h3
        · rw [List.drop_eq_nil_of_le h3] at hq; cases hq
      have hg : l[bey k l]? = some l[bey k l] := List.getElem?_eq_getElem hlt
      have h3 := bey_at hg
      have hd := h1.2.1
      rw [List.drop_eq_getElem_cons hlt] at hq hd
      have hk : cmpB k (l[bey k l]).1 < 0 := by
        have := cmpB_flip (l[bey k l]).1 k
        omega
      rcases List.mem_cons.1 hq with e | e
      · rw [e]; exact hk
      · exact cmpB_trans hk ((List.pairwise_cons.1 hd).1 q e)
    refine List.pairwise_append.2 ⟨h1.1, List.pairwise_cons.2 ⟨hhigh, h1.2.1⟩, fun a ha b hb => ?_⟩
    rcases List.mem_cons.1 hb with e' | e'
    · subst e'
      exact hlow a ha
    · exact h1.2.2 a ha b e'

theorem mem_delM {l : List PR} (h : Srt l) (k : List Int) (x : PR) : x ∈ delM l k ↔ x ∈ l ∧ x.1 ≠ k := by
  unfold delM
  by_cases hf : fnd k l < l.length
  · obtain ⟨v0, hv⟩ := fnd_at hf
    have e := split_at hv
    have hs : Srt (l.take (fnd k l) ++ (k, v0) :: l.drop (fnd k l + 1)) := by rw [← e]; exact h
    constructor
    · intro hx
      refine ⟨?_, srt_mid hs hx⟩
      rcases List.mem_append.1 hx with h1 | h1
      · exact List.mem_of_mem_take h1
      · exact List.mem_of_mem_drop h1
    · rintro ⟨h1, h2⟩
      rw [e] at h1
      rcases List.mem_append.1 h1 with h3 | h3
      · exact List.mem_append_left _ h3
      · rcases List.mem_cons.1 h3 with h4 | h4
        · exact absurd (by rw [h4]) h2
        · exact List.mem_append_right _ h4
  · have e1 : l.take (fnd k l) = l := List.take_of_length_le (by omega)
    have e2 : l.drop (fnd k l + 1) = [] := List.drop_eq_nil_of_le (by omega)
    rw [e1, e2, List.append_nil]
    exact ⟨fun hx => ⟨hx, fnd_none hf hx⟩, fun hx => hx.1⟩
theorem delM_sub (l : List PR) (k : List Int) : (delM l k).Sublist l := by
  unfold delM
  have : (l.take (fnd k l) ++ l.drop (fnd k l + 1)).Sublist (l.take (fnd k l) ++ l.drop (fnd k l)) := by
    refine List.Sublist.append (List.Sublist.refl _) ?_
    rw [← List.drop_drop]
    exact List.drop_sublist _ _
  rwa [List.take_append_drop] at this
theorem srt_delM {l : List PR} (h : Srt l) (k : List Int) : Srt (delM l k) := h.sublist (delM_sub l k)
theorem szM_sub {a b : List PR} (h : a.Sublist b) : szM a ≤ szM b := by
  induction h with
  | slnil => exact Nat.le_refl _
  | cons x _ ih => rw [szM_cons]; omega
  | cons_cons x _ ih => rw [szM_cons, szM_cons]; omega

theorem right_putM {l : List PR} (h : RightM l) {k v : List Int} (he : putE l k v = 0) : RightM (putM l k v) := by
  unfold putE at he
  split at he
  · omega
  · split at he
    · omega
    · refine ⟨fun p hp => ?_, srt_putM h.2.1 k v, by omega⟩
      rcases (mem_putM h.2.1 k v p).1 hp with e | e
      · subst e; exact ⟨by simp; omega, by simp; omega⟩
      · exact h.1 p e.1
theorem right_delM {l : List PR} (h : RightM l) (k : List Int) : RightM (delM l k) :=
  ⟨fun p hp => h.1 p ((delM_sub l k).subset hp), srt_delM h.2.1 k, Nat.le_trans (szM_sub (delM_sub l k)) h.2.2⟩

/-- what is found in a row in order hangs on what it holds -/
theorem find_of {l : List PR} (h : Srt l) {k v : List Int} (hm : (k, v) ∈ l) : hasM l k = true ∧ getM l k = v := by
  have hf := fnd_has hm rfl
  obtain ⟨v0, hv⟩ := fnd_at hf
  have := srt_one h (List.mem_of_getElem? hv) hm rfl
  injection this with _ e
  subst e
  exact ⟨by unfold hasM; simpa using hf, by unfold getM; rw [List.getD, hv]; rfl⟩
theorem find_not {l : List PR} {k : List Int} (hm : ∀ v, (k, v) ∉ l) : hasM l k = false ∧ getM l k = [] := by
  have hf : ¬ fnd k l < l.length := by
    intro hf
    obtain ⟨v, hv⟩ := fnd_at hf
    exact hm v (List.mem_of_getElem? hv)
  exact ⟨by unfold hasM; simpa using hf, by unfold getM; rw [List.getD, List.getElem?_eq_none (by omega)]; rfl⟩
theorem find_same {l m : List PR} (hl : Srt l) (hm : Srt m) {k : List Int} (h : ∀ v, (k, v) ∈ l ↔ (k, v) ∈ m) : hasM l k = hasM m k ∧ getM l k = getM m k := by
  by_cases hv : ∃ v, (k, v) ∈ l
  · obtain ⟨v, hv⟩ := hv
    have h1 := find_of hl hv
    have h2 := find_of hm ((h v).1 hv)
    exact ⟨h1.1.trans h2.1.symm, h1.2.trans h2.2.symm⟩
  · have h1 := find_not (l := l) (k := k) fun v hx => hv ⟨v, hx⟩
    have h2 := find_not (l := m) (k := k) fun v hx => hv ⟨v, (h v).2 hx⟩
    exact ⟨h1.1.trans h2.1.symm, h1.2.trans h2.2.symm⟩

/-- P7.2 -/
theorem puts_plain {l : List PR} (h : RightM l) (k v : List Int) :
    hasM (putM l k v) k = true ∧ getM (putM l k v) k = v ∧ hasM (delM (putM l k v) k) k = false ∧ getM (delM (putM l k v) k) k = [] ∧
    ∀ o, o ≠ k → (hasM l o = hasM (putM l k v) o ∧ getM l o = getM (putM l k v) o) ∧ (hasM (putM l k v) o = hasM (delM (putM l k v) k) o ∧ getM (putM l k v) o = getM (delM (putM l k v) k) o) := by
  have hs := srt_putM h.2.1 k v
  have h1 := find_of hs ((mem_putM h.2.1 k v (k, v)).2 (.inl rfl))
  have h2 := find_not (l := delM (putM l k v) k) (k := k) fun v' hv' => ((mem_delM hs k _).1 hv').2 rfl
  refine ⟨h1.1, h1.2, h2.1, h2.2, fun o ho => ⟨find_same h.2.1 hs fun w => ?_, find_same hs (srt_delM hs k) fun w => ?_⟩⟩
  · rw [mem_putM h.2.1]
    constructor
    · exact fun hx => .inr ⟨hx, ho⟩
    · rintro (e | e)
      · injection e with e _; exact absurd e ho
      · exact e.1
  · rw [mem_delM hs]
    exact ⟨fun hx => ⟨hx, ho⟩, fun hx => hx.1⟩

/-- two things put at unlike keys -/
theorem order_plain {l : List PR} (h : RightM l) {a b x y : List Int} (hab : a ≠ b) (h1 : putE l a x = 0) (h2 : putE l b y = 0) :
    putM (putM l a x) b y = putM (putM l b y) a x ∧ putE (putM l a x) b y = putE (putM l b y) a x := by
  have e : putM (putM l a x) b y = putM (putM l b y) a x := by
    have s1 := srt_putM h.2.1 a x
    have s2 := srt_putM h.2.1 b y
    refine srt_ext (srt_putM s1 b y) (srt_putM s2 a x) fun z => ?_
    rw [mem_putM s1, mem_putM s2, mem_putM h.2.1, mem_putM h.2.1]
    constructor
    · rintro (e | ⟨e | ⟨e1, e2⟩, e3⟩)
      · exact .inr ⟨.inl e, by rw [e]; exact fun e' => hab e'.symm⟩
      · exact .inl e
      · exact .inr ⟨.inr ⟨e1, e3⟩, e2⟩
    · rintro (e | ⟨e | ⟨e1, e2⟩, e3⟩)
      · exact .inr ⟨.inl e, by rw [e]; exact hab⟩
      · exact .inl e
      · exact .inr ⟨.inr ⟨e1, e3⟩, e2⟩
  refine ⟨e, ?_⟩
  unfold putE at h1 h2 ⊢
  rw [e]
  by_cases g1 : 64 < a.length ∨ 256 < x.length
  · rw [if_pos g1] at h1; omega
  · by_cases g2 : 64 < b.length ∨ 256 < y.length
    · rw [if_pos g2] at h2; omega
    · rw [if_neg g1, if_neg g2]

theorem szM_putM (l : List PR) (k v : List Int) : (szM (putM l k v) : Int) = szM l + v.length - (getM l k).length + (if hasM l k = true then 0 else 8 + k.length) := by
  unfold putM spA spB hasM getM
  by_cases hf : fnd k l < l.length
  · obtain ⟨v0, hv⟩ := fnd_at hf
    have e := congrArg szM (split_at hv)
    rw [if_pos hf, if_pos hf, if_pos (by simpa using hf), List.getD, hv]
    rw [szM_append, szM_cons] at e ⊢
    simp at e ⊢
    omega
  · have e := congrArg szM (List.take_append_drop (bey k l) l)
    rw [if_neg hf, if_neg hf, if_neg (by simpa using hf), List.getD, List.getElem?_eq_none (by omega)]
    rw [szM_append] at e
    rw [szM_append, szM_cons]
    simp at e ⊢
    omega
theorem szM_delM {l : List PR} {k v : List Int} (h1 : hasM l k = true) (h2 : getM l k = v) : szM (delM l k) + (8 + k.length + v.length) = szM l := by
  unfold hasM at h1
  unfold getM at h2
  unfold delM
  have hf : fnd k l < l.length := by simpa using h1
  obtain ⟨v0, hv⟩ := fnd_at hf
  have e := congrArg szM (split_at hv)
  rw [List.getD, hv] at h2
  simp at h2
  subst h2
  rw [szM_append, szM_cons] at e
  rw [szM_append]
  simp at e
  omega
theorem szM_len (l : List PR) : 8 * l.length ≤ szM l := by
  induction l with
  | nil => exact Nat.le_refl _
  | cons x l ih => rw [szM_cons, List.length_cons]; omega
theorem szM_take (l : List PR) (k : Nat) : szM (l.take k) ≤ szM l := szM_sub (List.take_sublist _ _)
theorem szM_next {l : List PR} {k : Nat} {p : PR} (h : l[k]? = some p) : szM (l.take (k + 1)) = szM (l.take k) + (8 + p.1.length + p.2.length) := by
  rw [take_next h, szM_append, szM_cons, szM_nil]
  omega
end Go.Proofs.Ytncbbjodianmoaa
