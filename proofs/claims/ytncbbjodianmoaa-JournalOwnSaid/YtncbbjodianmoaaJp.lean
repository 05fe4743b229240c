/- Plain facts on what a journal goes through: what undoes a change of a right store; nothing of the program. Conditions: those in each theorem. -/
import Derived.Test.YtncbbjodianmoaaSp
namespace Go.Proofs.Ytncbbjodianmoaa

theorem hasM_iff {l : List PR} {k : List Int} : hasM l k = true ↔ fnd k l < l.length := by unfold hasM; simp
theorem get_mem {l : List PR} {k : List Int} (h : hasM l k = true) : (k, getM l k) ∈ l := by
  have hf := hasM_iff.1 h
  obtain ⟨v, hv⟩ := fnd_at hf
  have e : getM l k = v := by unfold getM; rw [List.getD, hv]; rfl
  rw [e]
  exact List.mem_of_getElem? hv
theorem not_mem {l : List PR} {k : List Int} (h : hasM l k = false) {x : PR} (hx : x ∈ l) : x.1 ≠ k := by
  have hf : ¬ fnd k l < l.length := fun h' => by rw [hasM_iff.2 h'] at h; cases h
  exact fnd_none hf hx

/-- a new key put and taken away again -/
theorem undo_new {l : List PR} (h : RightM l) {k v : List Int} (hh : hasM l k = false) : delM (putM l k v) k = l := by
  have hs := srt_putM h.2.1 k v
  refine srt_ext (srt_delM hs k) h.2.1 fun x => ?_
  rw [mem_delM hs, mem_putM h.2.1]
  constructor
  · rintro ⟨e | e, h2⟩
    · rw [e] at h2; exact absurd rfl h2
    · exact e.1
  · exact fun hx => ⟨.inr ⟨hx, not_mem hh hx⟩, not_mem hh hx⟩
/-- at a key that was there: what was there put back over another value, or where it was taken away -/
theorem put_back {l m : List PR} (h : RightM l) (hm : Srt m) {k : List Int} (hh : hasM l k = true) (he : ∀ x, x.1 ≠ k → (x ∈ m ↔ x ∈ l)) : putR m k (getM l k) = l := by
  have hg := get_mem hh
  have e : putM m k (getM l k) = l := by
    refine srt_ext (srt_putM hm k _) h.2.1 fun x => ?_
    rw [mem_putM hm]
    constructor
    · rintro (e | ⟨e1, e2⟩)
      · rw [e]; exact hg
      · exact (he x e2).1 e1
    · intro hx
      by_cases hk : x.1 = k
      · exact .inl (srt_one h.2.1 hx hg hk)
      · exact .inr ⟨(he x hk).2 hx, hk⟩
  have h0 : putE m k (getM l k) = 0 := by
    have h1 := h.1 _ hg
    unfold putE
    rw [if_neg (by simp at h1; omega), e, if_neg (by have := h.2.2; omega)]
  unfold putR
  rw [if_pos h0, e]
theorem undo_over {l : List PR} (h : RightM l) {k v : List Int} (hh : hasM l k = true) : putR (putM l k v) k (getM l k) = l :=
  put_back h (srt_putM h.2.1 k v) hh fun x hx => by
    rw [mem_putM h.2.1]
    exact ⟨fun h => h.elim (fun e => absurd (by rw [e]) hx) fun e => e.1, fun h => .inr ⟨h, hx⟩⟩
theorem undo_del {l : List PR} (h : RightM l) {k : List Int} (hh : hasM l k = true) : putR (delM l k) k (getM l k) = l :=
  put_back h (srt_delM h.2.1 k) hh fun x hx => by
    rw [mem_delM h.2.1]
    exact ⟨fun h => h.1, fun h => ⟨h, hx⟩⟩
theorem del_none {l : List PR} {k : List Int} (hh : hasM l k = false) : delM l k = l := by
  have hf : ¬ fnd k l < l.length := fun h' => by rw [hasM_iff.2 h'] at hh; cases hh
  unfold delM
  rw [List.take_of_length_le (by omega), List.drop_eq_nil_of_le (by omega), List.append_nil]

/-- rows of r pairs at most, of which none is too great for anything here -/
def Sm (r : Nat) (a : List PR) : Prop := a.length ≤ r ∧ ∀ p ∈ a, p.1.length ≤ 200000 ∧ p.2.length ≤ 200000
theorem Sm.more {r r' : Nat} {a : List PR} (h : Sm r a) (hr : r ≤ r') : Sm r' a := ⟨Nat.le_trans h.1 hr, h.2⟩
theorem right_sm {l : List PR} (h : RightM l) : Sm 256 l := by
  have h1 := szM_len l
  have h2 := h.2.2
  refine ⟨by omega, fun p hp => ?_⟩
  have := h.1 p hp
  omega
/-- what undoes a change makes a row longer by one pair at most -/
def Mild (F : List PR → List PR) : Prop := ∀ r a, Sm r a → Sm (r + 1) (F a)
theorem mild_id : Mild (fun a => a) := fun r a h => h.more (by omega)
theorem mild_del (k : List Int) : Mild (fun a => delM a k) := fun r a h =>
  ⟨Nat.le_trans (delM_sub a k).length_le (Nat.le_trans h.1 (by omega)), fun p hp => h.2 p ((delM_sub a k).subset hp)⟩
theorem mild_put (k v : List Int) : Mild (fun a => putR a k v) := fun r a h => by
  show Sm (r + 1) (putR a k v)
  unfold putR
  by_cases h0 : putE a k v = 0
  · rw [if_pos h0]
    have h1 : k.length ≤ 64 ∧ v.length ≤ 256 := by
      unfold putE at h0
      split at h0
      · cases h0
      · omega
    refine ⟨?_, fun p hp => ?_⟩
    · unfold putM
      have h2 := fnd_le k a
      have h3 := bey_le k a
      have h4 := h.1
      simp only [List.length_append, List.length_cons, List.length_take, List.length_drop]
      unfold spA spB
      split <;> omega
    · unfold putM at hp
      rcases List.mem_append.1 hp with e | e
      · exact h.2 p (List.mem_of_mem_take e)
      · rcases List.mem_cons.1 e with e | e
        · subst e; exact ⟨by simp; omega, by simp; omega⟩
        · exact h.2 p (List.mem_of_mem_drop e)
  · rw [if_neg h0]
    exact ⟨by simp, fun p hp => by cases hp⟩

/-- undone one behind the other, from the last one on: what is there when r of the last n are undone -/
def back (Fs : List (List PR → List PR)) (cur : List PR) (is : List Nat) : List PR := is.foldl (fun a i => (Fs.getD i id) a) cur
theorem back_snoc (Fs : List (List PR → List PR)) (cur : List PR) (is : List Nat) (i : Nat) : back Fs cur (is ++ [i]) = (Fs.getD i id) (back Fs cur is) := by simp [back]
/-- each undoes the change that it belongs to -/
def Chain (hs : List (List PR)) (Fs : List (List PR → List PR)) : Prop := ∀ i F a b, Fs[i]? = some F → hs[i]? = some a → hs[i + 1]? = some b → F b = a
theorem back_chain {hs : List (List PR)} {cur : List PR} {Fs : List (List PR → List PR)} (hc : Chain (hs ++ [cur]) Fs) (hl : Fs.length = hs.length) : ∀ r, r ≤ hs.length → (hs ++ [cur])[hs.length - r]? = some (back Fs cur ((List.range r).map fun j => hs.length - 1 - j))
  | 0, _ => by simp [back]
  | r + 1, h => by
    have ih := back_chain hc hl r (by omega)
    rw [List.range_succ, List.map_append, List.map_cons, List.map_nil, back_snoc]
    generalize back Fs cur ((List.range r).map fun j => hs.length - 1 - j) = b at *
    obtain ⟨a, ha⟩ : ∃ a, (hs ++ [cur])[hs.length - (r + 1)]? = some a := ⟨_, List.getElem?_eq_getElem (by simp; omega)⟩
    obtain ⟨F, hF⟩ : ∃ F, Fs[hs.length - (r + 1)]? = some F := ⟨_, List.getElem?_eq_getElem (by omega)⟩
    have := hc _ F a b hF ha (by rw [show hs.length - (r + 1) + 1 = hs.length - r by omega]; exact ih)
    rw [ha, show hs.length - 1 - r = hs.length - (r + 1) by omega, List.getD, hF]
    show some a = some (F b)
    rw [this]

theorem back_sm {Fs : List (List PR → List PR)} (hF : ∀ F ∈ Fs, Mild F) {r : Nat} : ∀ {is : List Nat} {cur : List PR}, Sm r cur → Sm (r + is.length) (back Fs cur is)
  | [], cur, h => h
  | i :: is, cur, h => by
    have hm : Mild (Fs.getD i id) := by
      rw [List.getD]
      cases h' : Fs[i]? with
      | none => exact mild_id
      | some F => exact hF F (List.mem_of_getElem? h')
    have := back_sm hF (is := is) (hm r cur h)
    show Sm (r + (is.length + 1)) (back Fs ((Fs.getD i id) cur) is)
    exact this.more (by omega)
theorem chain_snoc {hs : List (List PR)} {cur nxt : List PR} {Fs : List (List PR → List PR)} (hc : Chain (hs ++ [cur]) Fs) (hl : Fs.length = hs.length) {F : List PR → List PR} (hF : F nxt = cur) : Chain (hs ++ [cur] ++ [nxt]) (Fs ++ [F]) := by
  intro i G a b hG ha hb
  rcases Nat.lt_or_ge i Fs.length with h | h
  · rw [List.getElem?_append_left h] at hG
    rw [List.getElem?_append_left (by simp; omega)] at ha hb
    exact hc i G a b hG ha hb
  · have hi : i = Fs.length := by
      have := (List.getElem?_eq_some_iff.1 hG).1
      simp at this
      omega
    subst hi
    rw [List.getElem?_append_right (Nat.le_refl _)] at hG
    rw [hl] at ha hb
    rw [List.append_assoc, List.getElem?_append_right (Nat.le_refl _)] at ha
    rw [List.append_assoc, List.getElem?_append_right (by omega)] at hb
    simp at hG ha hb
    subst hG ha hb
    exact hF
theorem chain_take {hs : List (List PR)} {cur : List PR} {Fs : List (List PR → List PR)} (hc : Chain (hs ++ [cur]) Fs) {m : Nat} (hm : m ≤ hs.length) {a : List PR} (ha : (hs ++ [cur])[m]? = some a) : Chain (hs.take m ++ [a]) (Fs.take m) := by
  intro i G x y hG hx hy
  rw [List.getElem?_take] at hG
  split at hG
  · rename_i hi
    have e : ∀ j, j ≤ m → (hs.take m ++ [a])[j]? = (hs ++ [cur])[j]? := fun j hj => by
      rcases Nat.lt_or_ge j m with h | h
      · rw [List.getElem?_append_left (by simp; omega), List.getElem?_take, if_pos h, List.getElem?_append_left (by omega)]
      · obtain rfl : j = m := by omega
        rw [ha, List.getElem?_append_right (by simp; omega)]
        simp [Nat.min_eq_left hm]
    rw [e i (by omega)] at hx
    rw [e (i + 1) (by omega)] at hy
    exact hc i G x y hG hx hy
  · cases hG
end Go.Proofs.Ytncbbjodianmoaa
