/- The programs that TypesName makes, and what the check tells of them; a function's body has no more statements than there are tokens. No program. -/
import Derived.Test.YtfcpabhkconjmaaGreatDoorMO
namespace Go.Proofs.YtfcpabhkconjmaaGreatDoor
open Go.RowKit
set_option linter.unusedSimpArgs false
set_option linter.unusedVariables false

theorem moreS_len (z : Nat) (p : Par St) : ∀ (f : Nat) (l : List St) (ts : List Tok) (v : List St) (r : List Tok), moreS z p f l ts = .ok v r → v.length ≤ l.length + f
  | 0, l, ts, v, r, h => by
    unfold moreS at h
    split at h
    · injection h with h1 h2
      subst h1
      omega
    · obtain ⟨_, _, _, h2⟩ := bind_inv h
      cases h2
  | f + 1, l, ts, v, r, h => by
    unfold moreS at h
    split at h
    · injection h with h1 h2
      subst h1
      omega
    · obtain ⟨s, q, _, h2⟩ := bind_inv h
      have := moreS_len z p f (l ++ [s]) q v r h2
      simp at this
      omega
theorem block_len {z g : Nat} {ts r : List Tok} {v : List St} (h : blockP z g ts = .ok v r) : v.length ≤ ts.length := by
  cases g with
  | zero => simp [blockP, failT] at h
  | succ g =>
    unfold blockP at h
    obtain ⟨_, q, h1, h2⟩ := bind_inv h
    have a := takes_want z _ _ _ _ h1
    have b := moreS_len z _ _ _ _ _ _ h2
    simp at b
    omega
theorem func_len {z : Nat} {ts r : List Tok} {v : Fu} (h : funcP z ts = .ok v r) : v.body.length ≤ ts.length := by
  unfold funcP at h
  obtain ⟨_, q0, h0, h⟩ := bind_inv h
  obtain ⟨s, q1, h1, h⟩ := bind_inv h
  obtain ⟨l, q2, h2, h⟩ := bind_inv h
  obtain ⟨t, q3, h3, h⟩ := bind_inv h
  obtain ⟨b, q4, h4, h⟩ := bind_inv h
  injection h with e1 e2
  subst e1
  have a0 := takes_want z _ _ _ _ h0
  have a1 := takes_name z _ _ _ h1
  have a2 := takes_list z _ (takes_param z).shrinks _ _ _ h2
  have a3 : q3.length ≤ q2.length := by
    split at h3
    · rename_i hs
      have b1 := sees_tail hs
      have b2 := takes_type z _ _ _ h3
      omega
    · injection h3 with _ e
      subst e
      exact Nat.le_refl _
  have a4 := block_len h4
  show b.length ≤ _
  omega
theorem moreF_len (z m : Nat) : ∀ (f : Nat) (l : List Fu) (ts : List Tok) (v : List Fu) (r : List Tok), (∀ x ∈ l, x.body.length ≤ m) → ts.length ≤ m → moreF z f l ts = .ok v r → ∀ x ∈ v, x.body.length ≤ m
  | 0, l, ts, v, r, hl, hm, h => by
    unfold moreF at h
    injection h with h1 h2
    subst h1
    exact hl
  | f + 1, l, ts, v, r, hl, hm, h => by
    unfold moreF at h
    split at h
    · injection h with h1 h2
      subst h1
      exact hl
    · obtain ⟨y, q, h1, h2⟩ := bind_inv h
      have a := func_len h1
      have b := takes_func z _ _ _ h1
      refine moreF_len z m f (l ++ [y]) q v r ?_ (by omega) h2
      intro x hx
      rcases List.mem_append.1 hx with hx | hx
      · exact hl x hx
      · rw [List.mem_singleton.1 hx]; omega
/-- no body has more than 2048 statements -/
theorem parsed_body (l : List Nat) : ∀ f ∈ (parsed l).funcs, f.body.length ≤ 2048 := by
  unfold parsed
  split
  · cases hp : programP l.length (lexed l).toks with
    | ok fs r => exact moreF_len l.length 2048 _ [] _ fs r (fun x hx => by cases hx) (lexed_many l) hp
    | bad c p => exact fun x hx => by cases hx
  · exact fun x hx => by cases hx

/-- the name that nobody knows -/
def nobody : List Nat := [78, 79, 66, 79, 68, 89]
def setN : Xs := .mk 2 nobody [.mk 1 0 [] [] 0] [] [] 5
def callN : Xs := .mk 8 [] [.mk 5 0 nobody [] 7] [] [] 0
theorem declareR_names {sc sc' : Scope} {s : List Nat} {d : Int × Bool} {p : Int} (h : declareR sc s d p = (none, sc')) : sc' = sc ++ [(s, d)] := by
  unfold declareR at h
  cases e : seek sc s with
  | some x => rw [e] at h; cases h
  | none => rw [e] at h; injection h with _ h; exact h.symm
theorem params_names (place : Int) : ∀ (l : List (List Nat × Int)) (sc0 sc : Scope), runL (paramR place) sc0 l = (none, sc) → sc.map (·.1) = sc0.map (·.1) ++ l.map (·.1)
  | [], sc0, sc, h => by
    unfold runL at h
    injection h with _ h
    subst h
    simp
  | p :: l, sc0, sc, h => by
    unfold runL paramR at h
    rcases e : declareR sc0 p.1 (p.2, false) place with ⟨_ | x, sc'⟩
    · rw [e] at h
      simp only at h
      have e2 := declareR_names e
      by_cases hc : p.2 = 0 ∨ knownR p.2 = false
      · rw [if_pos hc] at h; cases h
      · rw [if_neg hc] at h
        have := params_names place l sc' sc h
        rw [this, e2]
        simp
    · rw [e] at h; cases h
theorem seek_none {α : Type} {l : List (List Nat × α)} {s : List Nat} (h : s ∉ l.map (·.1)) : seek l s = none := by
  unfold seek
  rw [List.find?_eq_none.2]
  · rfl
  · intro p hp e
    have e : p.1 = s := by simpa using e
    exact h (e ▸ List.mem_map_of_mem hp)
theorem nobody_not {s : List Nat} (h : IsName s) : s ≠ nobody := by
  rintro rfl
  have := h.1 78 (by simp [nobody])
  simp [nameB, letterB, digitB] at this
theorem tab_none {fs : List Xf} {s : List Nat} (h : ∀ f ∈ fs, f.name ≠ s) : tabOf fs s = none := by
  unfold tabOf
  rw [List.find?_eq_none.2]
  · rfl
  · intro f hf e
    exact h f hf (by simpa using e)
/-- functions whose names, and whose parameters' names, are names -/
def NamedX (fs : List Xf) : Prop := ∀ f ∈ fs, f.name ≠ nobody ∧ ∀ p ∈ f.params, p.1 ≠ nobody
theorem named_toX {fs : List Fu} (h : ∀ f ∈ fs, WF f) : NamedX (fs.map toXf) := by
  intro f hf
  obtain ⟨x, hx, rfl⟩ := List.mem_map.1 hf
  refine ⟨nobody_not (h x hx).1, ?_⟩
  intro p hp
  obtain ⟨q, hq, rfl⟩ := List.mem_map.1 (show p ∈ x.params.map fun p => (p.1, (p.2 : Int)) from hp)
  exact nobody_not ((h x hx).2.1 q hq).1
theorem wrong_set (fs : List Xf) (k : Nat) (f : Xf) (hn : NamedX fs) (h0 : progM fs = none) (hk : fs[k]? = some f) :
    checkM (fs.set k { f with body := setN :: f.body }) = (52, 5) := by
  have hf := hn f (List.mem_of_getElem? hk)
  have := prog_wrong fs k f setN (52, 5) h0 hk (of_decide_eq_true (by kernel_rfl)) (fun sc hp => by
    have h1 := params_names f.place f.params [] sc hp
    have h2 : seek sc nobody = none := seek_none (by
      rw [h1]
      simp only [List.map_nil, List.nil_append]
      intro hm
      obtain ⟨p, hp, e⟩ := List.mem_map.1 hm
      exact hf.2 p hp e)
    simp [setN, stmM, partsR, setR, h2])
  unfold checkM
  rw [this]
  rfl
theorem wrong_call (fs : List Xf) (k : Nat) (f : Xf) (hn : NamedX fs) (h0 : progM fs = none) (hk : fs[k]? = some f) :
    checkM (fs.set k { f with body := callN :: f.body }) = (52, 7) := by
  have hT := tab_none (fs := fs) (s := nobody) fun g hg => (hn g hg).1
  have := prog_wrong fs k f callN (52, 7) h0 hk (of_decide_eq_true (by kernel_rfl)) (fun sc hp => by
    simp [callN, stmM, partsR, kidsM, exprM, nodeR, hasKidsR, callR, hT, allR, operandR, Xe.place])
  unfold checkM
  rw [this]
  rfl
end Go.Proofs.YtfcpabhkconjmaaGreatDoor
