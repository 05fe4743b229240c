/- What the check tells does not hang on places. No program. -/
import Derived.Test.YtfcpabhkconjmaaGreatDoorMM
namespace Go.Proofs.YtfcpabhkconjmaaGreatDoor
open Go.RowKit
set_option linter.unusedSimpArgs false
set_option linter.unusedVariables false

mutual
/-- without places -/
def noE : Xe → Xe
  | .mk op num text kids _ => .mk op num text (noEs kids) 0
def noEs : List Xe → List Xe
  | [] => []
  | e :: l => noE e :: noEs l
end
mutual
def noS : Xs → Xs
  | .mk op text exprs body els _ => .mk op text (noEs exprs) (noSs body) (noSs els) 0
def noSs : List Xs → List Xs
  | [] => []
  | e :: l => noS e :: noSs l
end
def noF (f : Xf) : Xf := ⟨f.name, f.params, f.result, noSs f.body, 0⟩
theorem noEs_map : ∀ l, noEs l = l.map noE
  | [] => by simp [noEs]
  | e :: l => by simp [noEs, noEs_map l]
theorem noSs_map : ∀ l, noSs l = l.map noS
  | [] => by simp [noSs]
  | e :: l => by simp [noSs, noSs_map l]
def stR : Rt → Rt
  | .ok t => .ok t
  | .bad c _ => .bad c 0
def stE (e : Er) : Er := e.map fun x => (x.1, 0)
def stP (p : Int × Rt) : Int × Rt := (0, stR p.2)
theorem operandR_st (fits : Int → Bool) (p : Int × Rt) : operandR fits (stP p) = stR (operandR fits p) := by
  obtain ⟨a, t | ⟨c, b⟩⟩ := p
  · unfold operandR stP stR
    simp only
    cases fits t <;> rfl
  · rfl
theorem allR_st (fits : Int → Bool) : ∀ l, allR fits (l.map stP) = stE (allR fits l)
  | [] => rfl
  | p :: l => by
    have ih := allR_st fits l
    simp only [List.map_cons, allR, operandR_st]
    cases operandR fits p with
    | ok t => exact ih
    | bad c a => rfl
theorem argsR_st : ∀ (l : List (Int × Rt)) (ts : List Int), argsR (l.map stP) ts = stE (argsR l ts)
  | [], _ => by simp [argsR, stE]
  | p :: l, [] => by simp [argsR, stE]
  | p :: l, t :: ts => by
    have ih := argsR_st l ts
    simp only [List.map_cons, argsR, operandR_st]
    cases operandR (fun x => x == t) p with
    | ok t => exact ih
    | bad c a => rfl
theorem twoR_st (g : Sg) (place : Int) (l : List (Int × Rt)) : twoR g 0 (l.map stP) = stR (twoR g place l) := by
  match l with
  | [] => rfl
  | [_] => rfl
  | a :: b :: r =>
    simp only [List.map_cons, twoR, operandR_st]
    cases operandR g.takes a with
    | bad c p => rfl
    | ok x =>
      cases operandR g.takes b with
      | bad c p => rfl
      | ok y =>
        simp only [stR]
        split <;> rfl
theorem oneR_st (u : Int × Int) (l : List (Int × Rt)) : oneR u (l.map stP) = stR (oneR u l) := by
  unfold oneR
  rw [allR_st]
  cases allR (fun x => x == u.1) l <;> rfl
theorem callR_st (T : Tab5) (text : List Nat) (place : Int) (l : List (Int × Rt)) : callR T text 0 (l.map stP) = stR (callR T text place l) := by
  unfold callR
  cases T text with
  | none => rfl
  | some d =>
    simp only [List.length_map]
    by_cases h : l.length ≠ d.1.length
    · rw [if_pos h, if_pos h]; rfl
    · rw [if_neg h, if_neg h, argsR_st]
      cases argsR l d.1 <;> rfl
theorem nameR_st (sc : Scope) (text : List Nat) (place : Int) : nameR sc text 0 = stR (nameR sc text place) := by
  unfold nameR
  cases seek sc text <;> rfl
theorem nodeR_st (T : Tab5) (sc : Scope) (op : Int) (text : List Nat) (place : Int) (l : List (Int × Rt)) : nodeR T sc op text 0 (l.map stP) = stR (nodeR T sc op text place l) := by
  unfold nodeR
  rw [List.length_map]
  by_cases h0 : hasKidsR op text l.length = false
  · rw [if_pos h0, if_pos h0]; rfl
  rw [if_neg h0, if_neg h0]
  by_cases h1 : op = 1
  · rw [if_pos h1, if_pos h1]; rfl
  rw [if_neg h1, if_neg h1]
  by_cases h2 : op = 2
  · rw [if_pos h2, if_pos h2]; rfl
  rw [if_neg h2, if_neg h2]
  by_cases h3 : op = 3
  · rw [if_pos h3, if_pos h3]; rfl
  rw [if_neg h3, if_neg h3]
  by_cases h4 : op = 4
  · rw [if_pos h4, if_pos h4]; exact nameR_st sc text place
  rw [if_neg h4, if_neg h4]
  by_cases h5 : op = 5
  · rw [if_pos h5, if_pos h5]; exact callR_st T text place l
  rw [if_neg h5, if_neg h5]
  by_cases h6 : op = 6
  · rw [if_pos h6, if_pos h6]
    cases signR text with
    | none => rfl
    | some g => exact twoR_st g place l
  rw [if_neg h6, if_neg h6]
  exact oneR_st _ l
theorem noE_place (e : Xe) : (noE e).place = 0 := by cases e; rfl
mutual
theorem exprM_st (T : Tab5) (sc : Scope) : ∀ e : Xe, exprM T sc (noE e) = stR (exprM T sc e)
  | .mk op num text kids place => by
    unfold noE exprM
    rw [kidsM_st T sc kids]
    exact nodeR_st T sc op text place _
theorem kidsM_st (T : Tab5) (sc : Scope) : ∀ l : List Xe, kidsM T sc (noEs l) = (kidsM T sc l).map stP
  | [] => by simp [noEs, kidsM]
  | e :: l => by
    unfold noEs kidsM
    rw [exprM_st T sc e, kidsM_st T sc l, noE_place]
    rfl
end
theorem declareR_st (sc : Scope) (s : List Nat) (d : Int × Bool) (place : Int) : declareR sc s d 0 = (stE (declareR sc s d place).1, (declareR sc s d place).2) := by
  unfold declareR
  cases seek sc s <;> rfl
theorem letR_st (sc : Scope) (s : List Nat) (place : Int) (x : Int × Rt) : letR sc s 0 (stP x) = (stE (letR sc s place x).1, (letR sc s place x).2) := by
  unfold letR
  rw [operandR_st]
  cases operandR (fun t => t != 0) x with
  | bad c a => rfl
  | ok t => exact declareR_st _ _ _ _
theorem setR_st (sc : Scope) (s : List Nat) (place : Int) (l : List (Int × Rt)) : setR sc s 0 (l.map stP) = stE (setR sc s place l) := by
  unfold setR
  cases seek sc s with
  | none => rfl
  | some d =>
    simp only
    by_cases h : d.2 = true
    · rw [if_pos h, if_pos h]; rfl
    · rw [if_neg h, if_neg h]; exact allR_st _ l
theorem endR_st (res : Int) (place : Int) (l : List (Int × Rt)) : endR res 0 (l.map stP) = stE (endR res place l) := by
  unfold endR
  rw [List.length_map]
  by_cases h : l.length = 0 ∧ res ≠ 0
  · rw [if_pos h, if_pos h]; rfl
  · rw [if_neg h, if_neg h]; exact allR_st _ l
theorem noEs_len (l : List Xe) : (noEs l).length = l.length := by rw [noEs_map]; simp
theorem noSs_empty (l : List Xs) : (noSs l).isEmpty = l.isEmpty := by cases l <;> rfl
theorem opOf_st (l : List Xe) : opOf (noEs l) = opOf l := by
  cases l with
  | nil => rfl
  | cons e l => cases e; rfl
mutual
theorem stmM_st (T : Tab5) (res : Int) : ∀ (s : Xs) (sc : Scope), stmM T res (noS s) sc = (stE (stmM T res s sc).1, (stmM T res s sc).2)
  | .mk op text exprs body els place, sc => by
    have hk := kidsM_st T sc exprs
    unfold noS stmM
    rw [noEs_len, noSs_empty, noSs_empty, hk, opOf_st]
    by_cases h0 : partsR op exprs.length body.isEmpty els.isEmpty = false
    · rw [if_pos h0, if_pos h0]; rfl
    rw [if_neg h0, if_neg h0]
    by_cases h1 : op = 1
    · rw [if_pos h1, if_pos h1]
      cases kidsM T sc exprs with
      | nil => rfl
      | cons x r => exact letR_st sc text place x
    rw [if_neg h1, if_neg h1]
    by_cases h2 : op = 2
    · rw [if_pos h2, if_pos h2, setR_st sc text place]
    rw [if_neg h2, if_neg h2]
    by_cases h3 : op = 3
    · rw [if_pos h3, if_pos h3, allR_st]
      have hb := blockM_st T res body sc
      have he := blockM_st T res els sc
      refine Prod.ext ?_ rfl
      simp only
      cases allR (fun x => x == 2) (kidsM T sc exprs) with
      | some x => rfl
      | none =>
        rw [hb, he]
        simp only [stE, Option.map_none]
        cases (blockM T res body sc).1 <;> rfl
    rw [if_neg h3, if_neg h3]
    by_cases h4 : op = 4
    · rw [if_pos h4, if_pos h4, allR_st, declareR_st sc text (1, true) place]
      refine Prod.ext ?_ rfl
      simp only
      cases allR (fun x => x == 1) (kidsM T sc exprs) with
      | some x => rfl
      | none =>
        simp only [stE, Option.map_none]
        rcases declareR sc text (1, true) place with ⟨_ | x, inner⟩
        · simp only [Option.map_none]
          rw [blockM_st T res body inner]
          rfl
        · rfl
    rw [if_neg h4, if_neg h4]
    by_cases h5 : op = 5
    · rw [if_pos h5, if_pos h5, endR_st res place]
    rw [if_neg h5, if_neg h5]
    by_cases h8 : op = 8
    · rw [if_pos h8, if_pos h8, allR_st]
    rw [if_neg h8, if_neg h8, allR_st]
theorem blockM_st (T : Tab5) (res : Int) : ∀ (l : List Xs) (sc : Scope), blockM T res (noSs l) sc = (stE (blockM T res l sc).1, (blockM T res l sc).2)
  | [], sc => by unfold noSs blockM; rfl
  | s :: l, sc => by
    unfold noSs blockM
    rw [stmM_st T res s sc]
    rcases stmM T res s sc with ⟨_ | x, sc'⟩
    · exact blockM_st T res l sc'
    · rfl
end
mutual
theorem dcl1_st : ∀ (s : Xs) (n : Int), dcl1 (noS s) n = dcl1 s n
  | .mk op text exprs body els place, n => by
    unfold noS dcl1
    rw [dcl_st body, dcl_st els]
theorem dcl_st : ∀ (l : List Xs) (n : Int), dcl (noSs l) n = dcl l n
  | [], n => by unfold noSs dcl; rfl
  | s :: l, n => by
    unfold noSs dcl
    rw [dcl1_st s, dcl_st l]
end
mutual
theorem ends1_st : ∀ s : Xs, ends1 (noS s) = ends1 s
  | .mk op text exprs body els place => by
    unfold noS ends1
    rw [endsM_st body, endsM_st els]
theorem endsM_st : ∀ l : List Xs, endsM (noSs l) = endsM l
  | [] => by unfold noSs endsM; rfl
  | [s] => by
    unfold noSs noSs endsM
    exact ends1_st s
  | a :: s :: l => by
    have h := endsM_st (s :: l)
    simp only [noSs] at h ⊢
    exact h
end
theorem params_st (place : Int) : ∀ (l : List (List Nat × Int)) (sc : Scope), runL (paramR 0) sc l = (stE (runL (paramR place) sc l).1, (runL (paramR place) sc l).2)
  | [], sc => rfl
  | p :: l, sc => by
    unfold runL paramR
    rw [declareR_st sc p.1 (p.2, false) place]
    rcases declareR sc p.1 (p.2, false) place with ⟨_ | x, sc'⟩
    · simp only [stE, Option.map_none]
      by_cases h : p.2 = 0 ∨ knownR p.2 = false
      · rw [if_pos h, if_pos h]; rfl
      · rw [if_neg h, if_neg h]; exact params_st place l sc'
    · rfl
theorem funM_st (T : Tab5) (f : Xf) : funM T (noF f) = stE (funM T f) := by
  have hp : paramsR (noF f) = (stE (paramsR f).1, (paramsR f).2) := params_st f.place f.params []
  unfold funM
  rw [hp]
  rcases paramsR f with ⟨_ | x, sc⟩
  · simp only [stE, Option.map_none, noF, dcl_st, endsM_st, blockM_st]
    by_cases h1 : knownR f.result = false
    · rw [if_pos h1, if_pos h1]; rfl
    rw [if_neg h1, if_neg h1]
    by_cases h2 : f.params.length > 16 ∨ wrap64 (f.params.length + dcl f.body 0) > 64
    · rw [if_pos h2, if_pos h2]; rfl
    rw [if_neg h2, if_neg h2]
    cases (blockM T f.result f.body sc).1 with
    | some x => rfl
    | none =>
      simp only [Option.map_none]
      by_cases h3 : f.result ≠ 0 ∧ endsM f.body = false
      · rw [if_pos h3, if_pos h3]; rfl
      · rw [if_neg h3, if_neg h3]; rfl
  · rfl
theorem tab_st (fs : List Xf) : tabOf (fs.map noF) = tabOf fs := by
  funext s
  unfold tabOf
  induction fs with
  | nil => rfl
  | cons f fs ih =>
    simp only [List.map_cons, List.find?_cons]
    have e : (noF f).name = f.name := rfl
    rw [e]
    cases f.name == s with
    | true => rfl
    | false => exact ih
theorem twice_st : ∀ (l acc : List Xf), (runL twiceR (acc.map noF) (l.map noF)).1 = stE (runL twiceR acc l).1
  | [], acc => rfl
  | f :: l, acc => by
    simp only [List.map_cons, runL, twiceR]
    have e : (acc.map noF).any (fun g => g.name == (noF f).name) = acc.any (fun g => g.name == f.name) := by
      rw [List.any_map]
      rfl
    rw [e]
    cases acc.any (fun g => g.name == f.name) with
    | true => rfl
    | false =>
      simp only [Bool.false_eq_true, if_false]
      have := twice_st l (acc ++ [f])
      rw [List.map_append] at this
      exact this
theorem each_st (T : Tab5) : ∀ l : List Xf, (runL (fun (_ : Unit) f => (funM T f, ())) () (l.map noF)).1 = stE (runL (fun (_ : Unit) f => (funM T f, ())) () l).1
  | [] => rfl
  | f :: l => by
    simp only [List.map_cons, runL, funM_st]
    cases funM T f with
    | some x => rfl
    | none => exact each_st T l
theorem progM_st (fs : List Xf) : progM (fs.map noF) = stE (progM fs) := by
  unfold progM
  rw [List.length_map, tab_st]
  by_cases h : fs.length > 64
  · rw [if_pos h, if_pos h]; rfl
  rw [if_neg h, if_neg h]
  have h2 := twice_st fs []
  simp only [List.map_nil] at h2
  rw [h2]
  cases (runL twiceR [] fs).1 with
  | some x => rfl
  | none => exact each_st _ fs
/-- the same error, at 0 -/
theorem check_st (fs : List Xf) : checkM (fs.map noF) = ((checkM fs).1, 0) := by
  unfold checkM
  rw [progM_st]
  cases progM fs <;> rfl
end Go.Proofs.YtfcpabhkconjmaaGreatDoor
