/- The walk of TokenWords: it returns true, and nothing that was there has changed. Conditions: none beyond what its argument is, and its reach; the tables lie as the program lays them. -/
import Derived.Test.YtdmjlgjnboofdaaDoorH
import Derived.Laws.IdiomStrings
namespace Go.Proofs.YtdmjlgjnboofdaaDoor
open Go.RowKit

/-- '[]byte(s)' -/
theorem run_bytes (w : World) (s : List Nat) (hs : Byn s) (hm : s.length ≤ maxLen) : ∃ c w', (convert 9 22 (.string (strN s))).run Tryd.prog w = .ok (.slice (some ⟨w.heap.size, 0, none⟩) s.length c) w' ∧ s.length ≤ c ∧ c ≤ maxLen ∧ Below w.heap.size w w' ∧ Lies w' w'.heap.size (some ⟨w.heap.size, 0, none⟩) c (bts s) := by
  have h := run_bytes_of_string (P := Tryd.prog) w 9 22 5 (strN s) Tryd.underlying9 Tryd.underlying22 Tryd.underlying5
  rw [strN_size] at h
  generalize hc : grownCap w s.length 0 5 = c at h
  have h1 := grownCap_ge w s.length 0 5
  have h2 := grownCap_le_maxLen w s.length 0 5 hm
  rw [hc] at h1 h2
  refine ⟨c, _, h, h1, h2, ((Below.refl _ _).drew).alloc (Nat.le_refl _) _, (fun e => by cases e), fun j u hu => ⟨_, rfl, by simp, ?_⟩⟩
  have hj : j < s.length := by
    have := (List.getElem?_eq_some_iff.1 hu).1
    simpa [bts] using this
  have hb : (w.drew.alloc (.cells (bytesRow (strN s) c) 5 ((bytesRow (strN s) c).size, (bytesRow (strN s) c).size + 1))).heap[w.heap.size]? = some (.cells (bytesRow (strN s) c) 5 ((bytesRow (strN s) c).size, (bytesRow (strN s) c).size + 1)) := heap_alloc_new w.drew _
  rw [Addr.add_lit, cell_of_row _ _ _ _ _ _ hb, Nat.zero_add, bytesRow_at _ _ _ (by rw [strN_data]; simpa using hj)]
  have e1 : (bts s)[j]? = some (.int .u8 (s[j] : Nat)) := bts_get (List.getElem?_eq_getElem hj)
  rw [← hu, e1]
  have hb2 := hs s[j] (List.getElem_mem hj)
  simp only [strN_data]
  simp
  omega

/-- what holds of every token that is read holds of all that are returned -/
theorem steps_all {l : List Nat} {P : Tok → Prop} (h : ∀ p, p < l.length → (readT (l.drop p)).err = 0 → P ⟨(readT (l.drop p)).kind, (readT (l.drop p)).text, (readT (l.drop p)).num, p⟩) :
    ∀ (f p : Nat) (ts : List Tok), (∀ t ∈ ts, P t) → ∀ t ∈ (steps l f p ts).toks, P t
  | 0, _, _, hts => hts
  | f + 1, p, ts, hts => by
    intro t ht
    unfold steps at ht
    split at ht
    · rename_i hp
      split at ht
      · cases ht
      · rename_i he
        split at ht
        · cases ht
        · refine steps_all h f _ _ ?_ t ht
          intro u hu
          rcases List.mem_append.1 hu with h1 | h1
          · exact hts u h1
          · simp at h1
            subst h1
            exact h p hp (by simpa using he)
    · exact hts t ht
theorem lexed_all {l : List Nat} {P : Tok → Prop} (h : ∀ p, p < l.length → (readT (l.drop p)).err = 0 → P ⟨(readT (l.drop p)).kind, (readT (l.drop p)).text, (readT (l.drop p)).num, p⟩) : ∀ t ∈ (lexed l).toks, P t := by
  unfold lexed
  split
  · intro t ht
    cases ht
  · exact steps_all h _ _ _ (fun t ht => by cases ht)
/-- a name is no word, and its bytes are bytes -/
theorem read_name {r : List Nat} (h : (readT r).err = 0) (hy : Byn r) : Byn (readT r).text ∧ ((readT r).kind = 1 → isWord (readT r).text = false) := by
  have nilB : Byn [] := fun b hb => by cases hb
  cases r with
  | nil => exact ⟨nilB, fun h1 => by simp [readT, bad] at h1⟩
  | cons b r =>
    rw [readT_cons] at h ⊢
    by_cases h1 : letterB b = true
    · rw [if_pos h1] at h ⊢
      unfold nameT at h ⊢
      split at h
      · simp [bad] at h
      · rename_i hn
        rw [if_neg hn]
        refine ⟨hy.sub fun x hx => List.mem_of_mem_take hx, fun hk => ?_⟩
        dsimp only at hk ⊢
        cases hw : isWord (List.take (run nameB (b :: r)) (b :: r)) with
        | false => rfl
        | true => rw [hw] at hk; simp at hk
    · rw [if_neg h1] at h ⊢
      by_cases h2 : digitB b = true
      · rw [if_pos h2] at h ⊢
        unfold numT at h ⊢
        cases hv : value (List.take (run digitB (b :: r)) (b :: r)) 0 with
        | none => rw [hv] at h; simp [bad] at h
        | some v => exact ⟨nilB, fun hk => by simp at hk⟩
      · rw [if_neg h2] at h ⊢
        by_cases h3 : b = 34
        · rw [if_pos h3] at h ⊢
          unfold textT at h ⊢
          split at h
          · rename_i hq
            rw [if_pos hq]
            split at h
            · simp [bad] at h
            · rename_i hn
              rw [if_neg hn]
              exact ⟨hy.sub fun x hx => List.mem_of_mem_drop (List.mem_of_mem_take hx), fun hk => by simp at hk⟩
          · simp [bad] at h
        · rw [if_neg h3] at h ⊢
          unfold signT at h ⊢
          split at h
          · simp [bad] at h
          · rename_i hn
            rw [if_neg hn]
            exact ⟨signOf_byn hy, fun hk => by simp at hk⟩
theorem lexed_names {l : List Nat} (hy : Byn l) : ∀ t ∈ (lexed l).toks, Byn t.text ∧ (t.kind = 1 → isWord t.text = false) :=
  lexed_all fun _ _ he => read_name he (hy.sub fun _ hx => List.mem_of_mem_drop hx)
/-- at most as many tokens as there may be -/
theorem steps_many {l : List Nat} : ∀ (f p : Nat) (ts : List Tok), ts.length ≤ 2048 → (steps l f p ts).toks.length ≤ 2048
  | 0, _, _, h => h
  | f + 1, p, ts, h => by
    unfold steps
    split
    · split
      · exact Nat.zero_le _
      · split
        · exact Nat.zero_le _
        · exact steps_many f _ _ (by simp; omega)
    · exact h
theorem lexed_many (l : List Nat) : (lexed l).toks.length ≤ 2048 := by
  unfold lexed
  split
  · exact Nat.zero_le _
  · exact steps_many _ _ _ (Nat.zero_le _)

theorem word_list {s : List Nat} (h : isWord s = true) : lexed s = ⟨0, [⟨4, s, 0, 0⟩], 0⟩ ∧ lexed (s ++ [55]) = ⟨0, [⟨1, s ++ [55], 0, 0⟩], 0⟩ ∧ s.length ≤ 6 := by
  have h1 : s ∈ wordsN := by simpa [isWord] using h
  simp only [wordsN, List.mem_cons, List.not_mem_nil, or_false] at h1
  rcases h1 with rfl | rfl | rfl | rfl | rfl | rfl | rfl | rfl | rfl | rfl | rfl | rfl | rfl | rfl | rfl | rfl | rfl
  all_goals exact ⟨by kernel_rfl, by kernel_rfl, by decide⟩
end Go.Proofs.YtdmjlgjnboofdaaDoor
