/- The programs that TypesCalls makes, and what the check tells of them. No program. -/
import Derived.Test.YtfcpabhkconjmaaGreatDoorZj
namespace Go.Proofs.YtfcpabhkconjmaaGreatDoor
open Go.RowKit
set_option linter.unusedSimpArgs false
set_option linter.unusedVariables false

/-- the k-th parameter's name, and its type -/
def parsAt : Nat → List Int → List (List Nat × Int)
  | _, [] => []
  | i, t :: l => ([97 + i], t) :: parsAt (i + 1) l
def kidX (o : Int) : Xe := .mk o 0 [] [] 0
def callX (os : List Int) : Xe := .mk 5 0 [102] (os.map kidX) 0
def doX (os : List Int) : Xs := .mk 8 [] [callX os] [] [] 0
def calX (os : List Int) : Xf := ⟨[103], [], 0, [doX os], 0⟩
def defX (ts : List Int) : Xf := ⟨[102], parsAt 0 ts, 0, [], 0⟩
def Good3 (os : List Int) : Prop := ∀ o ∈ os, o = 1 ∨ o = 2 ∨ o = 3
theorem parsAt_len : ∀ (i : Nat) (l : List Int), (parsAt i l).length = l.length
  | _, [] => rfl
  | i, _ :: l => by simp [parsAt, parsAt_len (i + 1) l]
theorem parsAt_types : ∀ (i : Nat) (l : List Int), (parsAt i l).map (·.2) = l
  | _, [] => rfl
  | i, _ :: l => by simp [parsAt, parsAt_types (i + 1) l]
theorem parsAt_snoc (t : Int) : ∀ (i : Nat) (l : List Int), parsAt i (l ++ [t]) = parsAt i l ++ [([97 + (i + l.length)], t)]
  | i, [] => by simp [parsAt]
  | i, a :: l => by
    have := parsAt_snoc t (i + 1) l
    simp only [List.cons_append, parsAt, this, List.length_cons]
    have e : i + 1 + l.length = i + (l.length + 1) := by omega
    rw [e]
theorem parsAt_fresh : ∀ (i : Nat) (l : List Int) (sc : Scope), (∀ p ∈ sc, ∃ j, j < i ∧ p.1 = [97 + j]) → Good3 l → ∃ sc', runL (paramR 0) sc (parsAt i l) = (none, sc')
  | i, [], sc, _, _ => ⟨sc, rfl⟩
  | i, t :: l, sc, h, hg => by
    have hs : seek sc [97 + i] = none := seek_none (by
      intro hm
      obtain ⟨p, hp, e⟩ := List.mem_map.1 hm
      obtain ⟨j, hj, e2⟩ := h p hp
      rw [e2] at e
      injection e with e _
      omega)
    have ht := hg t (by simp)
    obtain ⟨sc', hr⟩ := parsAt_fresh (i + 1) l (sc ++ [([97 + i], (t, false))]) (by
      intro p hp
      rcases List.mem_append.1 hp with hp | hp
      · obtain ⟨j, hj, e⟩ := h p hp
        exact ⟨j, by omega, e⟩
      · rw [List.mem_singleton.1 hp]
        exact ⟨i, by omega, rfl⟩) (fun o ho => hg o (by simp [ho]))
    refine ⟨sc', ?_⟩
    unfold parsAt runL
    have e : paramR 0 sc ([97 + i], t) = (none, sc ++ [([97 + i], (t, false))]) := by
      unfold paramR declareR
      simp only [hs]
      have h1 : ¬ (t = 0 ∨ knownR t = false) := by
        rcases ht with rfl | rfl | rfl <;> simp [knownR]
      rw [if_neg h1]
    rw [e]
    exact hr
theorem kids_ok (T : Tab5) (sc : Scope) : ∀ os : List Int, Good3 os → kidsM T sc (os.map kidX) = os.map fun o => (0, Rt.ok o)
  | [], _ => by simp [kidsM]
  | o :: os, h => by
    have ho := h o (by simp)
    simp only [List.map_cons, kidsM, kids_ok T sc os fun x hx => h x (by simp [hx])]
    congr 1
    rcases ho with rfl | rfl | rfl <;> simp [kidX, exprM, nodeR, hasKidsR, kidsM, Xe.place]
theorem args_same : ∀ os ts : List Int, os.length = ts.length → argsR (os.map fun o => ((0 : Int), Rt.ok o)) ts = if os = ts then none else some (51, 0)
  | [], [], _ => by simp [argsR]
  | [], _ :: _, h => by simp at h
  | _ :: _, [], h => by simp at h
  | o :: os, t :: ts, h => by
    have ih := args_same os ts (by simpa using h)
    simp only [List.map_cons, argsR, operandR]
    by_cases e : o = t
    · subst e
      simp only [beq_self_eq_true, if_true, ih, List.cons.injEq, true_and]
    · have e' : (o == t) = false := by simpa using e
      simp [e', e]
theorem callX_is (T : Tab5) (sc : Scope) (os ts : List Int) (ho : Good3 os) (hT : T [102] = some (ts, 0)) : exprM T sc (callX os) = if os = ts then .ok 0 else .bad 51 0 := by
  have hk := kids_ok T sc os ho
  unfold callX
  rw [exprM, hk]
  have h1 : hasKidsR 5 [102] (os.map fun o => ((0 : Int), Rt.ok o)).length = true := rfl
  unfold nodeR
  rw [h1]
  simp only [Bool.true_eq_false, if_false]
  rw [if_neg (by decide), if_neg (by decide), if_neg (by decide), if_neg (by decide), if_pos trivial]
  unfold callR
  rw [hT]
  simp only [List.length_map]
  by_cases hl : os.length = ts.length
  · rw [if_neg (by simp [hl]), args_same os ts hl]
    by_cases h : os = ts
    · rw [if_pos h, if_pos h]
    · rw [if_neg h, if_neg h]
  · rw [if_pos (by simpa using hl), if_neg (fun h => hl (by rw [h]))]
theorem doX_is (T : Tab5) (res : Int) (sc : Scope) (os ts : List Int) (ho : Good3 os) (hT : T [102] = some (ts, 0)) : (stmM T res (doX os) sc).1 = if os = ts then none else some (51, 0) := by
  have hk := callX_is T sc os ts ho hT
  unfold doX
  rw [stmM]
  have h1 : partsR 8 [callX os].length ([] : List Xs).isEmpty ([] : List Xs).isEmpty = true := rfl
  rw [h1]
  simp only [Bool.true_eq_false, if_false]
  rw [if_neg (by decide), if_neg (by decide), if_neg (by decide), if_neg (by decide), if_neg (by decide), if_pos trivial]
  have h2 : opOf [callX os] = 5 := rfl
  simp only [kidsM, h2, hk]
  have h3 : (callX os).place = 0 := rfl
  rw [h3]
  by_cases h : os = ts
  · rw [if_pos h, if_pos h]; rfl
  · rw [if_neg h, if_neg h]; rfl
/-- a call with arguments of these types, of a function of parameters of those -/
theorem calls_check (os ts : List Int) (ho : Good3 os) (ht : Good3 ts) (hn : ts.length ≤ 15) : (checkM [calX os, defX ts]).1 = if os = ts then 0 else 51 := by
  have hT : tabOf [calX os, defX ts] [102] = some (ts, 0) := by
    simp [tabOf, calX, defX, parsAt_types]
  have hf : funM (tabOf [calX os, defX ts]) (defX ts) = none := by
    obtain ⟨sc, hp⟩ := parsAt_fresh 0 ts [] (fun p hp => by cases hp) ht
    unfold funM
    have e : paramsR (defX ts) = (none, sc) := hp
    rw [e]
    have k : knownR (defX ts).result = true := rfl
    have hl : (defX ts).params.length = ts.length := parsAt_len 0 ts
    have hd : dcl (defX ts).body 0 = 0 := rfl
    have h2 : ¬ ((defX ts).params.length > 16 ∨ wrap64 (((defX ts).params.length : Int) + dcl (defX ts).body 0) > 64) := by
      rw [hl, hd]
      have : wrap64 ((ts.length : Int) + 0) = ts.length := by unfold wrap64; omega
      rw [this]
      omega
    simp only [k, h2, if_false]
    simp [defX, blockM]
  have hg : funM (tabOf [calX os, defX ts]) (calX os) = if os = ts then none else some (51, 0) := by
    unfold funM
    have e : paramsR (calX os) = (none, []) := rfl
    rw [e]
    have k : knownR (calX os).result = true := rfl
    have h2 : ¬ ((calX os).params.length > 16 ∨ wrap64 (((calX os).params.length : Int) + dcl (calX os).body 0) > 64) := by
      have hd : dcl (calX os).body 0 = 0 := of_decide_eq_true (by kernel_rfl)
      have hl : (calX os).params.length = 0 := rfl
      rw [hd, hl]
      have : wrap64 (((0 : Nat) : Int) + 0) = 0 := of_decide_eq_true (by kernel_rfl)
      rw [this]
      omega
    simp only [k, h2, if_false]
    have hb : (blockM (tabOf [calX os, defX ts]) (calX os).result (calX os).body []).1 = if os = ts then none else some (51, 0) := by
      have := doX_is (tabOf [calX os, defX ts]) 0 [] os ts ho hT
      show (blockM _ 0 [doX os] []).1 = _
      rw [blockM]
      rcases h : stmM (tabOf [calX os, defX ts]) 0 (doX os) [] with ⟨_ | x, sc⟩
      · rw [h] at this
        rw [← this]
        simp [blockM]
      · rw [h] at this
        rw [← this]
    rw [hb]
    by_cases h : os = ts
    · rw [if_pos h]; simp [calX]
    · rw [if_neg h]; simp
  unfold checkM progM
  rw [if_neg (by simp)]
  have e : (runL twiceR [] [calX os, defX ts]).1 = none := rfl
  rw [e]
  simp only
  rw [runL_unit]
  simp only [List.findSome?_cons, hg, hf]
  by_cases h : os = ts
  · rw [if_pos h, if_pos h]; rfl
  · rw [if_neg h, if_neg h]; rfl
end Go.Proofs.YtfcpabhkconjmaaGreatDoor
