/- What is read takes tokens: each reader of the document's leaves fewer than there were; nothing of the program. Conditions: those in each theorem. -/
import Derived.Test.YtoicncfpoklanaaDoorSyn
namespace Go.Proofs.YtoicncfpoklanaaDoor

theorem bind_inv {α β : Type} {r : Res α} {f : α → List Tok → Res β} {v : β} {q : List Tok} (h : r.bind f = .ok v q) : ∃ a s, r = .ok a s ∧ f a s = .ok v q := by
  cases r with
  | ok a s => exact ⟨a, s, rfl, h⟩
  | bad c p => cases h
theorem Takes.shrinks {α : Type} {p : Par α} (h : Takes p) : Shrinks p := fun ts v r hr => Nat.le_of_lt (h ts v r hr)
theorem kind_cons {z : Nat} {ts : List Tok} (h : (peekT z ts).kind ≠ 0) : ts.tail.length < ts.length := by
  cases ts with
  | nil => exact absurd rfl h
  | cons t r => simp
theorem sees_tail {z : Nat} {ss : List (List Nat)} {ts : List Tok} (h : seesT z ss ts = true) : ts.tail.length < ts.length := by
  apply kind_cons (z := z)
  unfold seesT isOne at h
  simp at h
  omega
theorem takes_take (z k : Nat) (hk : k ≠ 0) : Takes (takeT z k) := by
  intro ts v r h
  unfold takeT at h
  split at h
  · rename_i hkk
    cases h
    exact kind_cons (z := z) (by omega)
  · cases h
theorem takes_want (z : Nat) (s : List Nat) : Takes (wantT z s) := by
  intro ts v r h
  unfold wantT at h
  split at h
  · rename_i hs
    cases h
    exact sees_tail hs
  · cases h
theorem takes_name (z : Nat) : Takes (nameP z) := by
  intro ts v r h
  obtain ⟨a, s, h1, h2⟩ := bind_inv h
  cases h2
  exact takes_take z 1 (by omega) _ _ _ h1
theorem shrinks_moreG (z : Nat) (ss : List (List Nat)) (p : Par Ex) (hp : Shrinks p) : ∀ f x, Shrinks (moreG z ss p f x)
  | 0, x => by intro ts v r h; cases h; exact Nat.le_refl _
  | f + 1, x => by
    intro ts v r h
    unfold moreG at h
    split at h
    · rename_i hs
      obtain ⟨a, s, h1, h2⟩ := bind_inv h
      have := hp _ _ _ h1
      have := shrinks_moreG z ss p hp f _ _ _ _ h2
      have := sees_tail hs
      omega
    · cases h
      exact Nat.le_refl _
theorem takes_grouped (z : Nat) (ss : List (List Nat)) (p : Par Ex) (hp : Takes p) : Takes (groupedP z ss p) := by
  intro ts v r h
  obtain ⟨a, s, h1, h2⟩ := bind_inv h
  have := hp _ _ _ h1
  have := shrinks_moreG z ss p hp.shrinks _ _ _ _ _ h2
  omega
theorem takes_sum (z : Nat) (one : Par Ex) (h : Takes one) : Takes (sumP z one) := takes_grouped z _ _ (takes_grouped z _ _ h)
theorem takes_compare (z : Nat) (one : Par Ex) (ho : Takes one) : Takes (compareP z one) := by
  intro ts v r h
  obtain ⟨a, s, h1, h2⟩ := bind_inv h
  have := takes_sum z one ho _ _ _ h1
  split at h2
  · obtain ⟨b, s2, h3, h4⟩ := bind_inv h2
    have := takes_take z 4 (by omega) _ _ _ h3
    obtain ⟨y, s3, h5, h6⟩ := bind_inv h4
    have := takes_sum z one ho _ _ _ h5
    cases h6
    omega
  · cases h2
    omega
theorem takes_levels (z : Nat) (one : Par Ex) (ho : Takes one) : Takes (levelsP z one) := takes_grouped z _ _ (takes_grouped z _ _ (takes_compare z one ho))
theorem shrinks_moreL {α : Type} (z : Nat) (p : Par α) (hp : Shrinks p) : ∀ f l, Shrinks (moreL z p f l)
  | 0, l => by
    intro ts v r h
    obtain ⟨a, s, h1, h2⟩ := bind_inv h
    cases h2
    exact (takes_want z _).shrinks _ _ _ h1
  | f + 1, l => by
    intro ts v r h
    unfold moreL at h
    split at h
    · rename_i hs
      obtain ⟨a, s, h1, h2⟩ := bind_inv h
      have := hp _ _ _ h1
      have := shrinks_moreL z p hp f _ _ _ _ h2
      have := sees_tail hs
      omega
    · obtain ⟨a, s, h1, h2⟩ := bind_inv h
      cases h2
      exact (takes_want z _).shrinks _ _ _ h1
theorem takes_list {α : Type} (z : Nat) (p : Par α) (hp : Shrinks p) : Takes (listP z p) := by
  intro ts v r h
  obtain ⟨a, s, h1, h2⟩ := bind_inv h
  have := takes_want z _ _ _ _ h1
  split at h2
  · rename_i hs
    cases h2
    have := sees_tail hs
    omega
  · obtain ⟨b, s2, h3, h4⟩ := bind_inv h2
    have := hp _ _ _ h3
    have := shrinks_moreL z p hp _ _ _ _ _ h4
    omega
theorem takes_enclosed (z : Nat) (e : Par Ex) (he : Shrinks e) : Takes (enclosedP z e) := by
  intro ts v r h
  obtain ⟨a, s, h1, h2⟩ := bind_inv h
  obtain ⟨b, s2, h3, h4⟩ := bind_inv h2
  obtain ⟨c, s3, h5, h6⟩ := bind_inv h4
  cases h6
  have := takes_want z _ _ _ _ h1
  have := he _ _ _ h3
  have := takes_want z _ _ _ _ h5
  omega
theorem takes_pair (z : Nat) (e : Par Ex) (he : Shrinks e) : Takes (pairP z e) := by
  intro ts v r h
  obtain ⟨a, s, h1, h2⟩ := bind_inv h
  obtain ⟨b, s2, h3, h4⟩ := bind_inv h2
  obtain ⟨c, s3, h5, h6⟩ := bind_inv h4
  obtain ⟨d, s4, h7, h8⟩ := bind_inv h6
  obtain ⟨f, s5, h9, h10⟩ := bind_inv h8
  cases h10
  have := takes_want z _ _ _ _ h1
  have := he _ _ _ h3
  have := takes_want z _ _ _ _ h5
  have := he _ _ _ h7
  have := takes_want z _ _ _ _ h9
  omega
theorem takes_named (z : Nat) (e : Par Ex) (he : Shrinks e) : Takes (namedP z e) := by
  intro ts v r h
  obtain ⟨a, s, h1, h2⟩ := bind_inv h
  have := takes_take z 1 (by omega) _ _ _ h1
  split at h2
  · obtain ⟨b, s2, h3, h4⟩ := bind_inv h2
    cases h4
    have := takes_list z e he _ _ _ h3
    omega
  · cases h2
    omega
theorem takes_worded (z : Nat) (e : Par Ex) (he : Shrinks e) : Takes (wordedP z e) := by
  intro ts v r h
  unfold wordedP at h
  split at h
  · rename_i hs; cases h; exact sees_tail hs
  · split at h
    · rename_i hs; cases h; exact sees_tail hs
    · split at h
      · rename_i hs
        obtain ⟨a, s, h1, h2⟩ := bind_inv h
        cases h2
        have := takes_enclosed z e he _ _ _ h1
        have := sees_tail hs
        omega
      · split at h
        · rename_i hs
          obtain ⟨a, s, h1, h2⟩ := bind_inv h
          cases h2
          have := takes_enclosed z e he _ _ _ h1
          have := sees_tail hs
          omega
        · obtain ⟨a, s, h1, h2⟩ := bind_inv h
          obtain ⟨b, s2, h3, h4⟩ := bind_inv h2
          cases h4
          have := takes_enclosed z e he _ _ _ h3
          have := takes_want z _ _ _ _ h1
          omega
theorem takes_primary (z : Nat) (e : Par Ex) (he : Shrinks e) : Takes (primaryP z e) := by
  intro ts v r h
  unfold primaryP at h
  split at h
  · cases h; exact kind_cons (z := z) (by omega)
  · split at h
    · cases h; exact kind_cons (z := z) (by omega)
    · split at h
      · exact takes_named z e he _ _ _ h
      · split at h
        · obtain ⟨a, s, h1, h2⟩ := bind_inv h
          cases h2
          exact takes_enclosed z e he _ _ _ h1
        · obtain ⟨a, s, h1, h2⟩ := bind_inv h
          cases h2
          exact takes_worded z e he _ _ _ h1
theorem takes_one (z : Nat) (e o : Par Ex) (he : Shrinks e) (ho : Shrinks o) : Takes (oneS z e o) := by
  intro ts v r h
  unfold oneS at h
  split at h
  · rename_i hs
    obtain ⟨a, s, h1, h2⟩ := bind_inv h
    cases h2
    have := ho _ _ _ h1
    have := sees_tail hs
    omega
  · exact takes_primary z e he _ _ _ h
theorem takes_both (z : Nat) : ∀ g, Takes (both z g).1 ∧ Takes (both z g).2
  | 0 => ⟨(fun ts v r h => by cases h), (fun ts v r h => by cases h)⟩
  | g + 1 =>
    have ih := takes_both z g
    have h1 := takes_one z _ _ ih.1.shrinks ih.2.shrinks
    ⟨takes_levels z _ h1, h1⟩
theorem takes_expr (z g : Nat) : Takes (exprP z g) := (takes_both z g).1
theorem takes_type (z : Nat) : Takes (typeP z) := by
  intro ts v r h
  unfold typeP at h
  split at h
  · rename_i hs; cases h; exact sees_tail hs
  · split at h
    · rename_i hs; cases h; exact sees_tail hs
    · obtain ⟨a, s, h1, h2⟩ := bind_inv h
      cases h2
      exact takes_want z _ _ _ _ h1
theorem takes_set (z : Nat) (e : Par Ex) (he : Shrinks e) : Takes (setP z e) := by
  intro ts v r h
  obtain ⟨a, s, h1, h2⟩ := bind_inv h
  obtain ⟨b, s2, h3, h4⟩ := bind_inv h2
  obtain ⟨c, s3, h5, h6⟩ := bind_inv h4
  cases h6
  have := takes_name z _ _ _ h1
  have := takes_want z _ _ _ _ h3
  have := he _ _ _ h5
  omega
theorem shrinks_simple (z : Nat) (e : Par Ex) (he : Shrinks e) : Shrinks (simpleP z e) := by
  intro ts v r h
  unfold simpleP at h
  split at h
  · rename_i hs
    obtain ⟨a, s, h1, h2⟩ := bind_inv h
    cases h2
    have := takes_set z e he _ _ _ h1
    have := sees_tail hs
    omega
  · split at h
    · rename_i hs
      have := sees_tail hs
      split at h
      · cases h
        omega
      · obtain ⟨a, s, h1, h2⟩ := bind_inv h
        cases h2
        have := he _ _ _ h1
        omega
    · split at h
      · rename_i hs
        obtain ⟨a, s, h1, h2⟩ := bind_inv h
        cases h2
        have := takes_pair z e he _ _ _ h1
        have := sees_tail hs
        omega
      · split at h
        · rename_i hs
          obtain ⟨a, s, h1, h2⟩ := bind_inv h
          cases h2
          have := takes_enclosed z e he _ _ _ h1
          have := sees_tail hs
          omega
        · split at h
          · obtain ⟨a, s, h1, h2⟩ := bind_inv h
            cases h2
            exact (takes_set z e he).shrinks _ _ _ h1
          · obtain ⟨a, s, h1, h2⟩ := bind_inv h
            cases h2
            exact he _ _ _ h1
theorem shrinks_choice (z : Nat) (e : Par Ex) (b : Par (List St)) (he : Shrinks e) (hb : Shrinks b) : Shrinks (choiceP z e b) := by
  intro ts v r h
  obtain ⟨a, s, h1, h2⟩ := bind_inv h
  obtain ⟨c, s2, h3, h4⟩ := bind_inv h2
  have := he _ _ _ h1
  have := hb _ _ _ h3
  split at h4
  · rename_i hs
    obtain ⟨d, s3, h5, h6⟩ := bind_inv h4
    cases h6
    have := hb _ _ _ h5
    have := sees_tail hs
    omega
  · cases h4
    omega
theorem shrinks_loop (z : Nat) (e : Par Ex) (b : Par (List St)) (he : Shrinks e) (hb : Shrinks b) : Shrinks (loopP z e b) := by
  intro ts v r h
  obtain ⟨a, s, h1, h2⟩ := bind_inv h
  obtain ⟨c, s2, h3, h4⟩ := bind_inv h2
  obtain ⟨d, s3, h5, h6⟩ := bind_inv h4
  obtain ⟨f, s4, h7, h8⟩ := bind_inv h6
  cases h8
  have := takes_set z e he _ _ _ h1
  have := takes_want z _ _ _ _ h3
  have := he _ _ _ h5
  have := hb _ _ _ h7
  omega
theorem takes_stmt (z : Nat) (e : Par Ex) (b : Par (List St)) (he : Shrinks e) (hb : Shrinks b) : Takes (stmtP z e b) := by
  intro ts v r h
  obtain ⟨a, s, h1, h2⟩ := bind_inv h
  cases h2
  split at h1
  · rename_i hs
    have := shrinks_choice z e b he hb _ _ _ h1
    have := sees_tail hs
    omega
  · split at h1
    · rename_i hs
      have := shrinks_loop z e b he hb _ _ _ h1
      have := sees_tail hs
      omega
    · obtain ⟨c, s2, h3, h4⟩ := bind_inv h1
      obtain ⟨d, s3, h5, h6⟩ := bind_inv h4
      cases h6
      have := shrinks_simple z e he _ _ _ h3
      have := takes_want z _ _ _ _ h5
      omega
theorem takes_moreS (z : Nat) (p : Par St) (hp : Shrinks p) : ∀ f l, Takes (moreS z p f l)
  | 0, l => by
    intro ts v r h
    unfold moreS at h
    split at h
    · rename_i hs; cases h; exact sees_tail hs
    · obtain ⟨a, s, h1, h2⟩ := bind_inv h
      cases h2
  | f + 1, l => by
    intro ts v r h
    unfold moreS at h
    split at h
    · rename_i hs; cases h; exact sees_tail hs
    · obtain ⟨a, s, h1, h2⟩ := bind_inv h
      have := hp _ _ _ h1
      have := takes_moreS z p hp f _ _ _ _ h2
      omega
theorem takes_block (z : Nat) : ∀ g, Takes (blockP z g)
  | 0 => fun ts v r h => by cases h
  | g + 1 => by
    intro ts v r h
    obtain ⟨a, s, h1, h2⟩ := bind_inv h
    have := takes_want z _ _ _ _ h1
    have := takes_moreS z _ (takes_stmt z _ _ (takes_expr z g).shrinks (takes_block z g).shrinks).shrinks _ _ _ _ _ h2
    omega
theorem takes_param (z : Nat) : Takes (paramP z) := by
  intro ts v r h
  obtain ⟨a, s, h1, h2⟩ := bind_inv h
  obtain ⟨b, s2, h3, h4⟩ := bind_inv h2
  obtain ⟨c, s3, h5, h6⟩ := bind_inv h4
  cases h6
  have := takes_name z _ _ _ h1
  have := takes_want z _ _ _ _ h3
  have := takes_type z _ _ _ h5
  omega
theorem takes_func (z : Nat) : Takes (funcP z) := by
  intro ts v r h
  obtain ⟨a, s, h1, h2⟩ := bind_inv h
  obtain ⟨b, s2, h3, h4⟩ := bind_inv h2
  obtain ⟨c, s3, h5, h6⟩ := bind_inv h4
  obtain ⟨d, s4, h7, h8⟩ := bind_inv h6
  obtain ⟨f, s5, h9, h10⟩ := bind_inv h8
  cases h10
  have := takes_want z _ _ _ _ h1
  have := takes_name z _ _ _ h3
  have := takes_list z _ (takes_param z).shrinks _ _ _ h5
  have := takes_block z 32 _ _ _ h9
  have : s4.length ≤ s3.length := by
    split at h7
    · rename_i hs
      have := takes_type z _ _ _ h7
      have := sees_tail hs
      omega
    · cases h7
      exact Nat.le_refl _
  omega
end Go.Proofs.YtoicncfpoklanaaDoor
