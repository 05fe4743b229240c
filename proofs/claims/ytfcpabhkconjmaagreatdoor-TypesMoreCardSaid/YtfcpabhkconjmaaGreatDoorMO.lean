/- An error that the check tells is never 0. No program. A right program with one statement more, ahead of a function's, that is wrong wherever it stands. No program. A right program stays right beside another right one, if no name is twice; one with a name twice is told so. No program. What the document's parser reads of a text's tokens is well made, and its texts are of bytes. No program. Two rows of functions, one behind the other, in a row of the call's own. Conditions: those in each theorem. -/
import Derived.Test.YtfcpabhkconjmaaGreatDoorMM
import Derived.Test.YtfcpabhkconjmaaGreatDoorMG
import Derived.Test.YtfcpabhkconjmaaGreatDoorMN
import Derived.Deep.DeepCutAuto
import Derived.Maps.AppendAt
import Derived.Laws.AppendOwnNone
namespace Go.Proofs.YtfcpabhkconjmaaGreatDoor
section
open Go.RowKit
set_option linter.unusedSimpArgs false
set_option linter.unusedVariables false

def RtOk : Rt → Prop
  | .ok _ => True
  | .bad c _ => c ≠ 0
def ErOk (e : Er) : Prop := ∀ x, e = some x → x.1 ≠ 0
theorem ErOk.none : ErOk none := fun x h => by cases h
theorem ErOk.some {c p : Int} (h : c ≠ 0) : ErOk (some (c, p)) := fun x e => by cases e; exact h
theorem operandR_ok (fits : Int → Bool) (p : Int × Rt) (h : RtOk p.2) : RtOk (operandR fits p) := by
  unfold operandR
  rcases p with ⟨a, t | ⟨c, b⟩⟩
  · simp only
    split
    · trivial
    · show (51 : Int) ≠ 0
      decide
  · exact h
theorem allR_ok (fits : Int → Bool) : ∀ l : List (Int × Rt), (∀ p ∈ l, RtOk p.2) → ErOk (allR fits l)
  | [], _ => ErOk.none
  | p :: l, h => by
    have h1 := operandR_ok fits p (h p (by simp))
    unfold allR
    cases e : operandR fits p with
    | bad c a => rw [e] at h1; exact ErOk.some h1
    | ok t => exact allR_ok fits l fun q hq => h q (by simp [hq])
theorem argsR_ok : ∀ (l : List (Int × Rt)) (ts : List Int), (∀ p ∈ l, RtOk p.2) → ErOk (argsR l ts)
  | [], _, _ => by unfold argsR; exact ErOk.none
  | p :: l, [], _ => by unfold argsR; exact ErOk.none
  | p :: l, t :: ts, h => by
    have h1 := operandR_ok (fun x => x == t) p (h p (by simp))
    unfold argsR
    cases e : operandR (fun x => x == t) p with
    | bad c a => rw [e] at h1; exact ErOk.some h1
    | ok t => exact argsR_ok l ts fun q hq => h q (by simp [hq])
theorem twoR_ok (g : Sg) (place : Int) (ks : List (Int × Rt)) (h : ∀ p ∈ ks, RtOk p.2) : RtOk (twoR g place ks) := by
  unfold twoR
  match ks, h with
  | [], _ => trivial
  | [_], _ => trivial
  | a :: b :: _, h =>
    have h1 := operandR_ok g.takes a (h a (by simp))
    have h2 := operandR_ok g.takes b (h b (by simp))
    simp only
    cases e : operandR g.takes a with
    | bad c p => rw [e] at h1; exact h1
    | ok x =>
      cases e2 : operandR g.takes b with
      | bad c p => rw [e2] at h2; exact h2
      | ok y =>
        simp only
        split
        · trivial
        · show (51 : Int) ≠ 0
          decide
theorem oneR_ok (u : Int × Int) (ks : List (Int × Rt)) (h : ∀ p ∈ ks, RtOk p.2) : RtOk (oneR u ks) := by
  unfold oneR
  have := allR_ok (fun x => x == u.1) ks h
  cases e : allR (fun x => x == u.1) ks with
  | none => trivial
  | some x => exact this x e
theorem bad51 {a : Int} : RtOk (.bad 51 a) := by show (51 : Int) ≠ 0; decide
theorem bad52 {a : Int} : RtOk (.bad 52 a) := by show (52 : Int) ≠ 0; decide
theorem callR_ok (T : Tab5) (text : List Nat) (place : Int) (ks : List (Int × Rt)) (h : ∀ p ∈ ks, RtOk p.2) : RtOk (callR T text place ks) := by
  unfold callR
  cases T text with
  | none => exact bad52
  | some d =>
    simp only
    split
    · exact bad51
    · have := argsR_ok ks d.1 h
      cases e : argsR ks d.1 with
      | none => trivial
      | some x => exact this x e
theorem nodeR_ok (T : Tab5) (sc : Scope) (op : Int) (text : List Nat) (place : Int) (ks : List (Int × Rt)) (h : ∀ p ∈ ks, RtOk p.2) : RtOk (nodeR T sc op text place ks) := by
  unfold nodeR
  split
  · exact bad51
  split
  · trivial
  split
  · trivial
  split
  · trivial
  split
  · unfold nameR
    cases seek sc text with
    | none => exact bad52
    | some d => trivial
  split
  · exact callR_ok T text place ks h
  split
  · cases signR text with
    | none => exact bad51
    | some g => exact twoR_ok g place ks h
  · exact oneR_ok _ ks h
mutual
theorem exprM_ok (T : Tab5) (sc : Scope) : ∀ e : Xe, RtOk (exprM T sc e)
  | .mk op num text kids place => by
    unfold exprM
    exact nodeR_ok T sc op text place _ (kidsM_ok T sc kids)
theorem kidsM_ok (T : Tab5) (sc : Scope) : ∀ l : List Xe, ∀ p ∈ kidsM T sc l, RtOk p.2
  | [], p, h => by simp [kidsM] at h
  | e :: l, p, h => by
    unfold kidsM at h
    rcases List.mem_cons.1 h with rfl | h
    · exact exprM_ok T sc e
    · exact kidsM_ok T sc l p h
end
theorem declareR_ok (sc : Scope) (s : List Nat) (d : Int × Bool) (place : Int) : ErOk (declareR sc s d place).1 := by
  unfold declareR
  cases seek sc s with
  | none => exact ErOk.none
  | some _ => exact ErOk.some (by decide)
theorem letR_ok (sc : Scope) (s : List Nat) (place : Int) (x : Int × Rt) (h : RtOk x.2) : ErOk (letR sc s place x).1 := by
  unfold letR
  have h1 := operandR_ok (fun t => t != 0) x h
  cases e : operandR (fun t => t != 0) x with
  | bad c a => rw [e] at h1; exact ErOk.some h1
  | ok t => exact declareR_ok _ _ _ _
theorem setR_ok (sc : Scope) (s : List Nat) (place : Int) (xs : List (Int × Rt)) (h : ∀ p ∈ xs, RtOk p.2) : ErOk (setR sc s place xs) := by
  unfold setR
  cases seek sc s with
  | none => exact ErOk.some (by decide)
  | some d =>
    simp only
    split
    · exact ErOk.some (by decide)
    · exact allR_ok _ xs h
theorem endR_ok (res : Int) (place : Int) (xs : List (Int × Rt)) (h : ∀ p ∈ xs, RtOk p.2) : ErOk (endR res place xs) := by
  unfold endR
  split
  · exact ErOk.some (by decide)
  · exact allR_ok _ xs h
mutual
theorem stmM_ok (T : Tab5) (res : Int) : ∀ (s : Xs) (sc : Scope), ErOk (stmM T res s sc).1
  | .mk op text exprs body els place, sc => by
    have hk := kidsM_ok T sc exprs
    unfold stmM
    split
    · exact ErOk.some (by decide)
    split
    · cases e : kidsM T sc exprs with
      | nil => exact ErOk.none
      | cons x r => exact letR_ok sc text place x (hk x (by rw [e]; simp))
    split
    · exact setR_ok sc text place _ hk
    split
    · show ErOk (match allR (fun x => x == 2) (kidsM T sc exprs) with | some e => some e | none => match (blockM T res body sc).1 with | some e => some e | none => (blockM T res els sc).1)
      have h1 := allR_ok (fun x => x == 2) _ hk
      have h2 := blockM_ok T res body sc
      have h3 := blockM_ok T res els sc
      cases e : allR (fun x => x == 2) (kidsM T sc exprs) with
      | some x => rw [e] at h1; exact h1
      | none =>
        cases e2 : (blockM T res body sc).1 with
        | some x => rw [e2] at h2; exact h2
        | none => exact h3
    split
    · show ErOk (match allR (fun x => x == 1) (kidsM T sc exprs) with | some e => some e | none => match declareR sc text (1, true) place with | (some e, _) => some e | (none, inner) => (blockM T res body inner).1)
      have h1 := allR_ok (fun x => x == 1) _ hk
      have h2 := declareR_ok sc text (1, true) place
      cases e : allR (fun x => x == 1) (kidsM T sc exprs) with
      | some x => rw [e] at h1; exact h1
      | none =>
        rcases e2 : declareR sc text (1, true) place with ⟨_ | x, inner⟩
        · exact blockM_ok T res body inner
        · rw [e2] at h2; exact h2
    split
    · exact endR_ok res place _ hk
    split
    · exact allR_ok _ _ hk
    · exact allR_ok _ _ hk
theorem blockM_ok (T : Tab5) (res : Int) : ∀ (l : List Xs) (sc : Scope), ErOk (blockM T res l sc).1
  | [], sc => by unfold blockM; exact ErOk.none
  | s :: l, sc => by
    have h1 := stmM_ok T res s sc
    unfold blockM
    rcases e : stmM T res s sc with ⟨_ | x, sc'⟩
    · exact blockM_ok T res l sc'
    · rw [e] at h1; exact h1
end
theorem runL_ok {σ α : Type} (step : σ → α → Er × σ) (h : ∀ s a, ErOk (step s a).1) : ∀ (l : List α) (s : σ), ErOk (runL step s l).1
  | [], s => by unfold runL; exact ErOk.none
  | a :: l, s => by
    have h1 := h s a
    unfold runL
    rcases e : step s a with ⟨_ | x, s'⟩
    · exact runL_ok step h l s'
    · rw [e] at h1; exact h1
theorem paramR_ok (place : Int) (sc : Scope) (p : List Nat × Int) : ErOk (paramR place sc p).1 := by
  unfold paramR
  have h1 := declareR_ok sc p.1 (p.2, false) place
  rcases e : declareR sc p.1 (p.2, false) place with ⟨_ | x, sc'⟩
  · simp only
    split
    · exact ErOk.some (by decide)
    · exact ErOk.none
  · rw [e] at h1; exact h1
theorem funM_ok (T : Tab5) (f : Xf) : ErOk (funM T f) := by
  unfold funM
  have h1 : ErOk (paramsR f).1 := runL_ok _ (fun s a => paramR_ok _ s a) _ _
  rcases e : paramsR f with ⟨_ | x, sc⟩
  · simp only
    split
    · exact ErOk.some (by decide)
    split
    · exact ErOk.some (by decide)
    have h2 := blockM_ok T f.result f.body sc
    cases e2 : (blockM T f.result f.body sc).1 with
    | some x => rw [e2] at h2; exact h2
    | none =>
      simp only
      split
      · exact ErOk.some (by decide)
      · exact ErOk.none
  · rw [e] at h1; exact h1
theorem progM_ok (fs : List Xf) : ErOk (progM fs) := by
  unfold progM
  split
  · exact ErOk.some (by decide)
  have h1 : ErOk (runL twiceR [] fs).1 := runL_ok _ (fun s a => by
    unfold twiceR
    split
    · exact ErOk.some (by decide)
    · exact ErOk.none) _ _
  cases e : (runL twiceR [] fs).1 with
  | some x => rw [e] at h1; exact h1
  | none => exact runL_ok _ (fun s a => funM_ok _ a) _ _
/-- a program is right just if nothing is told of it -/
theorem checkM_zero (fs : List Xf) : (checkM fs).1 = 0 ↔ progM fs = none := by
  unfold checkM
  have h := progM_ok fs
  cases e : progM fs with
  | none => simp
  | some x => simpa using h x e
end

section
open Go.RowKit
set_option linter.unusedSimpArgs false
set_option linter.unusedVariables false

/-- what the table and the names know of a function -/
def keyX (f : Xf) : List Nat × List (List Nat × Int) × Int × Int := (f.name, f.params, f.result, f.place)
theorem tab_key : ∀ (l l' : List Xf), l.map keyX = l'.map keyX → tabOf l = tabOf l'
  | [], [], _ => rfl
  | [], b :: l', h => by simp at h
  | a :: l, [], h => by simp at h
  | a :: l, b :: l', h => by
    simp [keyX] at h
    obtain ⟨⟨h1, h2, h3, h4⟩, h5⟩ := h
    have ih := tab_key l l' (by simpa [keyX] using h5)
    funext s
    have e := congrFun ih s
    unfold tabOf at *
    simp only [List.find?_cons]
    rw [h1]
    cases b.name == s with
    | true => simp [h2, h3]
    | false => exact e
theorem twice_key : ∀ (l l' acc acc' : List Xf), l.map keyX = l'.map keyX → acc.map (·.name) = acc'.map (·.name) → (runL twiceR acc l).1 = (runL twiceR acc' l').1
  | [], [], _, _, _, _ => rfl
  | [], b :: l', _, _, h, _ => by simp at h
  | a :: l, [], _, _, h, _ => by simp at h
  | a :: l, b :: l', acc, acc', h, ha => by
    simp [keyX] at h
    obtain ⟨⟨h1, h2, h3, h4⟩, h5⟩ := h
    have e : acc.any (fun g => g.name == a.name) = acc'.any (fun g => g.name == b.name) := by
      have := congrArg (fun m : List (List Nat) => m.any (fun x => x == a.name)) ha
      simp only [List.any_map] at this
      rw [← h1]
      exact this
    unfold runL twiceR
    rw [e, h4]
    cases acc'.any (fun g => g.name == b.name) with
    | true => rfl
    | false =>
      simp only [Bool.false_eq_true, if_false]
      exact twice_key l l' _ _ (by simpa [keyX] using h5) (by simp [ha, h1])
theorem runL_unit (g : Xf → Er) : ∀ l : List Xf, (runL (fun (_ : Unit) f => (g f, ())) () l).1 = l.findSome? g
  | [] => rfl
  | a :: l => by
    unfold runL
    rw [List.findSome?_cons]
    cases g a with
    | some x => rfl
    | none => exact runL_unit g l
theorem findSome_set (g : Xf → Er) (e : Int × Int) (f' : Xf) (he : g f' = some e) : ∀ (l : List Xf) (k : Nat), k < l.length → l.findSome? g = none → (l.set k f').findSome? g = some e
  | [], k, h, _ => by simp at h
  | a :: l, 0, _, _ => by simp [List.findSome?_cons, he]
  | a :: l, k + 1, h, hn => by
    rw [List.findSome?_cons] at hn
    rw [List.set_cons_succ, List.findSome?_cons]
    cases ha : g a with
    | some x => rw [ha] at hn; cases hn
    | none =>
      rw [ha] at hn
      exact findSome_set g e f' he l k (by simpa using h) hn
theorem set_key : ∀ (l : List Xf) (k : Nat) (f f' : Xf), l[k]? = some f → keyX f' = keyX f → (l.set k f').map keyX = l.map keyX
  | [], k, f, f', h, _ => by simp at h
  | a :: l, 0, f, f', h, hk => by
    simp at h
    subst h
    simp [hk]
  | a :: l, k + 1, f, f', h, hk => by
    simp only [List.set_cons_succ, List.map_cons]
    rw [set_key l k f f' (by simpa using h) hk]
/-- one wrong statement ahead -/
theorem prog_wrong (fs : List Xf) (k : Nat) (f : Xf) (s : Xs) (e : Int × Int) (h0 : progM fs = none) (hk : fs[k]? = some f) (hd : dcl1 s 0 = 0) (hs : ∀ sc, (paramsR f) = (none, sc) → (stmM (tabOf fs) f.result s sc).1 = some e) :
    progM (fs.set k { f with body := s :: f.body }) = some e := by
  have hkey := set_key fs k f { f with body := s :: f.body } hk rfl
  have hT := tab_key _ _ hkey
  unfold progM at h0 ⊢
  rw [List.length_set]
  by_cases hl : fs.length > 64
  · rw [if_pos hl] at h0
    cases h0
  rw [if_neg hl] at h0 ⊢
  rw [twice_key _ fs [] [] hkey rfl, hT]
  cases h2 : (runL twiceR [] fs).1 with
  | some x => rw [h2] at h0; cases h0
  | none =>
    rw [h2] at h0
    simp only at h0 ⊢
    rw [runL_unit] at h0 ⊢
    have hlt := (List.getElem?_eq_some_iff.1 hk).1
    refine findSome_set _ e _ ?_ fs k hlt h0
    have hf : funM (tabOf fs) f = none := by
      have := List.findSome?_eq_none_iff.1 h0 f (List.mem_of_getElem? hk)
      exact this
    unfold funM at hf ⊢
    show (match paramsR f with | (some e, _) => some e | (none, sc) => if knownR f.result = false then some (51, f.place) else if f.params.length > 16 ∨ wrap64 (f.params.length + dcl (s :: f.body) 0) > 64 then some (2, f.place) else match (blockM (tabOf fs) f.result (s :: f.body) sc).1 with | some e => some e | none => if f.result ≠ 0 ∧ endsM (s :: f.body) = false then some (54, f.place) else none) = some e
    rcases hp : paramsR f with ⟨_ | x, sc⟩
    · rw [hp] at hf
      simp only at hf ⊢
      by_cases a1 : knownR f.result = false
      · rw [if_pos a1] at hf; cases hf
      rw [if_neg a1] at hf ⊢
      have hd' : dcl (s :: f.body) 0 = dcl f.body 0 := by
        rw [dcl, hd]
      rw [hd']
      by_cases a2 : f.params.length > 16 ∨ wrap64 (f.params.length + dcl f.body 0) > 64
      · rw [if_pos a2] at hf; cases hf
      rw [if_neg a2]
      have hw := hs sc hp
      have hb : (blockM (tabOf fs) f.result (s :: f.body) sc).1 = some e := by
        unfold blockM
        rcases hst : stmM (tabOf fs) f.result s sc with ⟨_ | x, sc'⟩
        · rw [hst] at hw; cases hw
        · rw [hst] at hw; exact hw
      rw [hb]
    · rw [hp] at hf
      cases hf
end

section
open Go.RowKit
set_option linter.unusedSimpArgs false
set_option linter.unusedVariables false

/-- what the one table knows the other one knows, too -/
def TabLe (T T' : Tab5) : Prop := ∀ s d, T s = some d → T' s = some d
/-- where the one has a type the other one has it, too -/
def RtLe (r r' : Rt) : Prop := ∀ t, r = .ok t → r' = .ok t
def OpLe (p p' : Int × Rt) : Prop := p.1 = p'.1 ∧ RtLe p.2 p'.2
inductive OpsLe : List (Int × Rt) → List (Int × Rt) → Prop
  | nil : OpsLe [] []
  | cons {p p' : Int × Rt} {l l' : List (Int × Rt)} (h : OpLe p p') (hl : OpsLe l l') : OpsLe (p :: l) (p' :: l')
theorem OpsLe.length {l l' : List (Int × Rt)} (h : OpsLe l l') : l.length = l'.length := by
  induction h with
  | nil => rfl
  | cons _ _ ih => simp [ih]
theorem operandR_le (fits : Int → Bool) {p p' : Int × Rt} (h : OpLe p p') : RtLe (operandR fits p) (operandR fits p') := by
  intro t ht
  unfold operandR at *
  obtain ⟨a, r⟩ := p
  obtain ⟨a', r'⟩ := p'
  obtain ⟨h1, h2⟩ := h
  simp only at *
  cases r with
  | bad c b => simp only at ht; cases ht
  | ok u =>
    rw [h2 u rfl]
    subst h1
    exact ht
theorem allR_le (fits : Int → Bool) {l l' : List (Int × Rt)} (h : OpsLe l l') : allR fits l = none → allR fits l' = none := by
  induction h with
  | nil => exact id
  | @cons p p' l l' h _ ih =>
    intro hn
    unfold allR at hn ⊢
    cases e : operandR fits p with
    | bad c a => rw [e] at hn; cases hn
    | ok t =>
      rw [e] at hn
      rw [operandR_le fits h t e]
      exact ih hn
theorem argsR_le {l l' : List (Int × Rt)} (h : OpsLe l l') : ∀ ts, argsR l ts = none → argsR l' ts = none := by
  induction h with
  | nil => exact fun _ h => h
  | @cons p p' l l' h _ ih =>
    intro ts hn
    cases ts with
    | nil => unfold argsR; rfl
    | cons t ts =>
      unfold argsR at hn ⊢
      cases e : operandR (fun x => x == t) p with
      | bad c a => rw [e] at hn; cases hn
      | ok t =>
        rw [e] at hn
        rw [operandR_le _ h t e]
        exact ih ts hn
theorem twoR_le (g : Sg) (place : Int) {l l' : List (Int × Rt)} (h : OpsLe l l') : RtLe (twoR g place l) (twoR g place l') := by
  intro t ht
  cases h with
  | nil => exact ht
  | @cons p p' _ _ h1 hl =>
    cases hl with
    | nil => exact ht
    | @cons q q' _ _ h2 _ =>
      unfold twoR at ht ⊢
      simp only at ht ⊢
      cases e1 : operandR g.takes p with
      | bad c a => rw [e1] at ht; cases ht
      | ok x =>
        cases e2 : operandR g.takes q with
        | bad c a => rw [e1, e2] at ht; cases ht
        | ok y =>
          rw [e1, e2] at ht
          rw [operandR_le _ h1 x e1, operandR_le _ h2 y e2]
          exact ht
theorem oneR_le (u : Int × Int) {l l' : List (Int × Rt)} (h : OpsLe l l') : RtLe (oneR u l) (oneR u l') := by
  intro t ht
  unfold oneR at *
  cases e : allR (fun x => x == u.1) l with
  | some x => rw [e] at ht; cases ht
  | none =>
    rw [e] at ht
    rw [allR_le _ h e]
    exact ht
theorem callR_le {T T' : Tab5} (hT : TabLe T T') (text : List Nat) (place : Int) {l l' : List (Int × Rt)} (h : OpsLe l l') : RtLe (callR T text place l) (callR T' text place l') := by
  intro t ht
  unfold callR at *
  cases e : T text with
  | none => rw [e] at ht; cases ht
  | some d =>
    rw [e] at ht
    rw [hT text d e]
    simp only at *
    rw [← h.length]
    by_cases hn : l.length ≠ d.1.length
    · rw [if_pos hn] at ht; cases ht
    · rw [if_neg hn] at ht ⊢
      cases e2 : argsR l d.1 with
      | some x => rw [e2] at ht; cases ht
      | none =>
        rw [e2] at ht
        rw [argsR_le h _ e2]
        exact ht
theorem nodeR_le {T T' : Tab5} (hT : TabLe T T') (sc : Scope) (op : Int) (text : List Nat) (place : Int) {l l' : List (Int × Rt)} (h : OpsLe l l') : RtLe (nodeR T sc op text place l) (nodeR T' sc op text place l') := by
  intro t ht
  unfold nodeR at *
  rw [← h.length]
  by_cases h0 : hasKidsR op text l.length = false
  · rw [if_pos h0] at ht; cases ht
  rw [if_neg h0] at ht ⊢
  by_cases h1 : op = 1
  · rw [if_pos h1] at ht ⊢; exact ht
  rw [if_neg h1] at ht ⊢
  by_cases h2 : op = 2
  · rw [if_pos h2] at ht ⊢; exact ht
  rw [if_neg h2] at ht ⊢
  by_cases h3 : op = 3
  · rw [if_pos h3] at ht ⊢; exact ht
  rw [if_neg h3] at ht ⊢
  by_cases h4 : op = 4
  · rw [if_pos h4] at ht ⊢; exact ht
  rw [if_neg h4] at ht ⊢
  by_cases h5 : op = 5
  · rw [if_pos h5] at ht ⊢; exact callR_le hT text place h t ht
  rw [if_neg h5] at ht ⊢
  by_cases h6 : op = 6
  · rw [if_pos h6] at ht ⊢
    cases e : signR text with
    | none => rw [e] at ht; cases ht
    | some g =>
      rw [e] at ht
      exact twoR_le g place h t ht
  rw [if_neg h6] at ht ⊢
  exact oneR_le _ h t ht
mutual
theorem exprM_le {T T' : Tab5} (hT : TabLe T T') (sc : Scope) : ∀ e : Xe, RtLe (exprM T sc e) (exprM T' sc e)
  | .mk op num text kids place => by
    unfold exprM
    exact nodeR_le hT sc op text place (kidsM_le hT sc kids)
theorem kidsM_le {T T' : Tab5} (hT : TabLe T T') (sc : Scope) : ∀ l : List Xe, OpsLe (kidsM T sc l) (kidsM T' sc l)
  | [] => by unfold kidsM; exact .nil
  | e :: l => by
    unfold kidsM
    exact .cons ⟨rfl, exprM_le hT sc e⟩ (kidsM_le hT sc l)
end
/-- where the one goes on the other one does, with the same names -/
def ErLe (r r' : Er × Scope) : Prop := r.1 = none → r' = r
theorem letR_le (sc : Scope) (s : List Nat) (place : Int) {x x' : Int × Rt} (h : OpLe x x') : ErLe (letR sc s place x) (letR sc s place x') := by
  intro hn
  unfold letR at *
  cases e : operandR (fun t => t != 0) x with
  | bad c a => rw [e] at hn; cases hn
  | ok t => rw [operandR_le _ h t e]
theorem setR_le (sc : Scope) (s : List Nat) (place : Int) {l l' : List (Int × Rt)} (h : OpsLe l l') : setR sc s place l = none → setR sc s place l' = none := by
  intro hn
  unfold setR at *
  cases e : seek sc s with
  | none => rw [e] at hn; cases hn
  | some d =>
    rw [e] at hn
    simp only at *
    by_cases hd : d.2 = true
    · rw [if_pos hd] at hn; cases hn
    · rw [if_neg hd] at hn ⊢
      exact allR_le _ h hn
theorem endR_le (res : Int) (place : Int) {l l' : List (Int × Rt)} (h : OpsLe l l') : endR res place l = none → endR res place l' = none := by
  intro hn
  unfold endR at *
  rw [← h.length]
  by_cases hd : l.length = 0 ∧ res ≠ 0
  · rw [if_pos hd] at hn; cases hn
  · rw [if_neg hd] at hn ⊢
    exact allR_le _ h hn
mutual
theorem stmM_le {T T' : Tab5} (hT : TabLe T T') (res : Int) : ∀ (s : Xs) (sc : Scope), ErLe (stmM T res s sc) (stmM T' res s sc)
  | .mk op text exprs body els place, sc => by
    intro hn
    have hk := kidsM_le hT sc exprs
    unfold stmM at *
    by_cases h0 : partsR op exprs.length body.isEmpty els.isEmpty = false
    · rw [if_pos h0] at hn; cases hn
    rw [if_neg h0] at hn ⊢
    rw [if_neg h0]
    by_cases h1 : op = 1
    · rw [if_pos h1] at hn ⊢
      rw [if_pos h1]
      generalize kidsM T sc exprs = ks at *
      generalize kidsM T' sc exprs = ks' at *
      cases hk with
      | nil => rfl
      | cons h _ => exact letR_le sc text place h hn
    rw [if_neg h1] at hn ⊢
    rw [if_neg h1]
    by_cases h2 : op = 2
    · rw [if_pos h2] at hn ⊢
      rw [if_pos h2]
      exact Prod.ext ((setR_le sc text place hk hn).trans hn.symm) rfl
    rw [if_neg h2] at hn ⊢
    rw [if_neg h2]
    by_cases h3 : op = 3
    · rw [if_pos h3] at hn ⊢
      rw [if_pos h3]
      refine Prod.ext ?_ rfl
      refine Eq.trans ?_ hn.symm
      simp only at hn ⊢
      cases e : allR (fun x => x == 2) (kidsM T sc exprs) with
      | some x => rw [e] at hn; cases hn
      | none =>
        rw [e] at hn
        rw [allR_le _ hk e]
        simp only at hn ⊢
        cases e2 : (blockM T res body sc).1 with
        | some x => rw [e2] at hn; cases hn
        | none =>
          rw [e2] at hn
          rw [blockM_le hT res body sc e2, e2]
          simp only at hn ⊢
          rw [blockM_le hT res els sc hn]
          exact hn
    rw [if_neg h3] at hn ⊢
    rw [if_neg h3]
    by_cases h4 : op = 4
    · rw [if_pos h4] at hn ⊢
      rw [if_pos h4]
      refine Prod.ext ?_ rfl
      refine Eq.trans ?_ hn.symm
      simp only at hn ⊢
      cases e : allR (fun x => x == 1) (kidsM T sc exprs) with
      | some x => rw [e] at hn; cases hn
      | none =>
        rw [e] at hn
        rw [allR_le _ hk e]
        simp only at hn ⊢
        rcases e2 : declareR sc text (1, true) place with ⟨_ | x, inner⟩
        · rw [e2] at hn
          simp only at hn ⊢
          rw [blockM_le hT res body inner hn]
          exact hn
        · rw [e2] at hn; cases hn
    rw [if_neg h4] at hn ⊢
    rw [if_neg h4]
    by_cases h5 : op = 5
    · rw [if_pos h5] at hn ⊢
      rw [if_pos h5]
      exact Prod.ext ((endR_le res place hk hn).trans hn.symm) rfl
    rw [if_neg h5] at hn ⊢
    rw [if_neg h5]
    by_cases h8 : op = 8
    · rw [if_pos h8] at hn ⊢
      rw [if_pos h8]
      exact Prod.ext ((allR_le _ hk hn).trans hn.symm) rfl
    rw [if_neg h8] at hn ⊢
    rw [if_neg h8]
    exact Prod.ext ((allR_le _ hk hn).trans hn.symm) rfl
theorem blockM_le {T T' : Tab5} (hT : TabLe T T') (res : Int) : ∀ (l : List Xs) (sc : Scope), ErLe (blockM T res l sc) (blockM T' res l sc)
  | [], sc => by intro _; unfold blockM; rfl
  | s :: l, sc => by
    intro hn
    unfold blockM at *
    have h1 := stmM_le hT res s sc
    rcases e : stmM T res s sc with ⟨_ | x, sc'⟩
    · rw [e] at hn h1
      rw [h1 rfl]
      exact blockM_le hT res l sc' hn
    · rw [e] at hn; cases hn
end
theorem funM_le {T T' : Tab5} (hT : TabLe T T') (f : Xf) (h : funM T f = none) : funM T' f = none := by
  unfold funM at *
  rcases hp : paramsR f with ⟨_ | x, sc⟩
  · rw [hp] at h
    simp only at h ⊢
    by_cases a1 : knownR f.result = false
    · rw [if_pos a1] at h; cases h
    rw [if_neg a1] at h ⊢
    by_cases a2 : f.params.length > 16 ∨ wrap64 (f.params.length + dcl f.body 0) > 64
    · rw [if_pos a2] at h; cases h
    rw [if_neg a2] at h ⊢
    cases e : (blockM T f.result f.body sc).1 with
    | some x => rw [e] at h; cases h
    | none =>
      rw [e] at h
      rw [blockM_le hT f.result f.body sc e, e]
      exact h
  · rw [hp] at h; cases h
/-- names, each once -/
def Once (l : List Xf) : Prop := (l.map (·.name)).Nodup
theorem twice_of (l : List Xf) : ∀ acc : List Xf, ((acc ++ l).map (·.name)).Nodup → (runL twiceR acc l).1 = none := by
  induction l with
  | nil => intro acc _; rfl
  | cons f l ih =>
    intro acc h
    have hf : acc.any (fun g => g.name == f.name) = false := by
      rw [List.any_eq_false]
      intro g hg e
      have e : g.name = f.name := by simpa using e
      rw [List.map_append, List.nodup_append] at h
      exact h.2.2 g.name (List.mem_map_of_mem hg) f.name (by simp) e
    unfold runL twiceR
    rw [hf]
    simp only [Bool.false_eq_true, if_false]
    exact ih _ (by simpa using h)
theorem twice_not (l : List Xf) : ∀ acc : List Xf, (acc.map (·.name)).Nodup → ¬ ((acc ++ l).map (·.name)).Nodup → ∃ p, (runL twiceR acc l).1 = some (53, p) := by
  induction l with
  | nil => intro acc h1 h2; rw [List.append_nil] at h2; exact absurd h1 h2
  | cons f l ih =>
    intro acc h1 h2
    unfold runL twiceR
    cases hf : acc.any (fun g => g.name == f.name) with
    | true => exact ⟨f.place, rfl⟩
    | false =>
      simp only [Bool.false_eq_true, if_false]
      refine ih _ ?_ (by simpa using h2)
      rw [List.map_append, List.nodup_append]
      refine ⟨h1, by simp, ?_⟩
      intro a ha b hb e
      subst e
      obtain ⟨g, hg, rfl⟩ := List.mem_map.1 ha
      have hb : g.name = f.name := by simpa using hb
      have := List.any_eq_false.1 hf g hg
      exact this (by simpa using hb)
theorem progM_parts {fs : List Xf} (h : progM fs = none) : fs.length ≤ 64 ∧ (fs.map (·.name)).Nodup ∧ ∀ f ∈ fs, funM (tabOf fs) f = none := by
  unfold progM at h
  by_cases hl : fs.length > 64
  · rw [if_pos hl] at h; cases h
  rw [if_neg hl] at h
  refine ⟨by omega, ?_, ?_⟩
  · refine Classical.byContradiction fun hn => ?_
    obtain ⟨p, hp⟩ := twice_not fs [] (by simp) (by simpa using hn)
    rw [hp] at h
    cases h
  · cases e : (runL twiceR [] fs).1 with
    | some x => rw [e] at h; cases h
    | none =>
      rw [e] at h
      simp only at h
      rw [runL_unit] at h
      exact fun f hf => List.findSome?_eq_none_iff.1 h f hf
theorem tabOf_left (fs gs : List Xf) : TabLe (tabOf fs) (tabOf (fs ++ gs)) := by
  intro s d h
  unfold tabOf at *
  rw [List.find?_append]
  cases e : fs.find? (fun f => f.name == s) with
  | none => rw [e] at h; cases h
  | some f => rw [e] at h; exact h
theorem tabOf_right (fs gs : List Xf) (hn : ((fs ++ gs).map (·.name)).Nodup) : TabLe (tabOf gs) (tabOf (fs ++ gs)) := by
  intro s d h
  unfold tabOf at *
  rw [List.find?_append]
  cases e : fs.find? (fun f => f.name == s) with
  | none => exact h
  | some f =>
    exfalso
    cases e2 : gs.find? (fun f => f.name == s) with
    | none => rw [e2] at h; cases h
    | some g =>
      have q1 : f.name = s := by simpa using List.find?_some e
      have q2 : g.name = s := by simpa using List.find?_some e2
      rw [List.map_append, List.nodup_append] at hn
      exact hn.2.2 f.name (List.mem_map_of_mem (List.mem_of_find?_eq_some e)) g.name (List.mem_map_of_mem (List.mem_of_find?_eq_some e2)) (q1.trans q2.symm)
/-- two right programs, one behind the other -/
theorem prog_more (fs gs : List Xf) (hf : progM fs = none) (hg : progM gs = none) :
    (checkM (fs ++ gs)).1 = if (fs ++ gs).length > 64 then 2 else if ((fs ++ gs).map (·.name)).Nodup then 0 else 53 := by
  obtain ⟨f1, f2, f3⟩ := progM_parts hf
  obtain ⟨g1, g2, g3⟩ := progM_parts hg
  unfold checkM progM
  by_cases hl : (fs ++ gs).length > 64
  · rw [if_pos hl, if_pos hl]; rfl
  rw [if_neg hl, if_neg hl]
  by_cases hn : ((fs ++ gs).map (·.name)).Nodup
  · rw [if_pos hn, twice_of (fs ++ gs) [] (by simpa using hn)]
    simp only
    rw [runL_unit]
    have : (fs ++ gs).findSome? (funM (tabOf (fs ++ gs))) = none := by
      refine List.findSome?_eq_none_iff.2 fun f hf => ?_
      rcases List.mem_append.1 hf with h | h
      · exact funM_le (tabOf_left fs gs) f (f3 f h)
      · exact funM_le (tabOf_right fs gs hn) f (g3 f h)
    rw [this]
    rfl
  · rw [if_neg hn]
    obtain ⟨p, hp⟩ := twice_not (fs ++ gs) [] (by simp) (by simpa using hn)
    rw [hp]
    rfl
end

section
section
set_option maxRecDepth 100000
set_option linter.unusedSimpArgs false
set_option linter.unusedVariables false

def IsName (s : List Nat) : Prop := (∀ b ∈ s, nameB b = true) ∧ s.length ≤ 16 ∧ isWord s = false ∧ ∃ b r, s = b :: r ∧ letterB b = true
def IsText (s : List Nat) : Prop := (∀ b ∈ s, textB b = true) ∧ s.length ≤ 64
def GoodT (t : Tok) : Prop := (t.kind = 1 → IsName t.text) ∧ (t.kind = 2 → t.num ≤ 9223372036854775807) ∧ (t.kind = 3 → IsText t.text)
theorem value_le : ∀ (ds : List Nat) (n v : Nat), (∀ d ∈ ds, d ≤ 57) → n ≤ 9223372036854775807 → value ds n = some v → v ≤ 9223372036854775807
  | [], n, v, _, hn, h => by simp [value] at h; omega
  | d :: r, n, v, hd, hn, h => by
    have h1 := hd d (by simp)
    unfold value at h
    split at h
    · cases h
    · exact value_le r _ v (fun x hx => hd x (by simp [hx])) (by omega) h
theorem readT_good {r : List Nat} (h : (readT r).err = 0) (p : Nat) : GoodT ⟨(readT r).kind, (readT r).text, (readT r).num, p⟩ := by
  cases r with
  | nil => simp [readT, bad] at h
  | cons b r =>
    rw [readT_cons] at h ⊢
    by_cases h1 : letterB b = true
    · simp only [h1, if_true] at h ⊢
      unfold nameT at h ⊢
      split at h
      · simp [bad] at h
      · rename_i hn
        rw [if_neg hn]
        have hr : run nameB (b :: r) = run nameB r + 1 := by simp [run, nameB, h1]
        refine ⟨fun hk => ?_, fun hk => ?_, fun hk => ?_⟩
        · dsimp only at hk ⊢
          cases hw : isWord ((b :: r).take (run nameB (b :: r))) with
          | true => rw [hw] at hk; simp at hk
          | false =>
            refine ⟨run_all nameB _, ?_, hw, b, r.take (run nameB r), ?_, h1⟩
            · have := List.length_take_le (run nameB (b :: r)) (b :: r); omega
            · rw [hr, List.take_succ_cons]
        · dsimp only at hk
          cases hw : isWord ((b :: r).take (run nameB (b :: r))) <;> rw [hw] at hk <;> simp at hk
        · dsimp only at hk
          cases hw : isWord ((b :: r).take (run nameB (b :: r))) <;> rw [hw] at hk <;> simp at hk
    · rw [if_neg h1] at h ⊢
      by_cases h2 : digitB b = true
      · simp only [h2, if_true] at h ⊢
        unfold numT at h ⊢
        cases hv : value ((b :: r).take (run digitB (b :: r))) 0 with
        | none => rw [hv] at h; simp [bad] at h
        | some v =>
          refine ⟨fun hk => by simp at hk, fun hk => ?_, fun hk => by simp at hk⟩
          exact value_le _ 0 v (fun d hd => by have := run_all digitB _ d hd; simp [digitB] at this; omega) (by omega) hv
      · rw [if_neg h2] at h ⊢
        by_cases h3 : b = 34
        · simp only [h3, if_true] at h ⊢
          unfold textT at h ⊢
          split at h
          · rename_i hq
            rw [if_pos hq]
            split at h
            · simp [bad] at h
            · rename_i hn
              rw [if_neg hn]
              refine ⟨fun hk => by simp at hk, fun hk => by simp at hk, fun hk => ⟨run_all textB _, ?_⟩⟩
              have := List.length_take_le (run textB (List.drop 1 (34 :: r))) (List.drop 1 (34 :: r))
              dsimp only
              omega
          · simp [bad] at h
        · rw [if_neg h3] at h ⊢
          unfold signT at h ⊢
          split at h
          · simp [bad] at h
          · rename_i hn
            rw [if_neg hn]
            exact ⟨fun hk => by simp at hk, fun hk => by simp at hk, fun hk => by simp at hk⟩
theorem lexed_good (l : List Nat) : ∀ t ∈ (lexed l).toks, GoodT t := lexed_all fun p hp he => readT_good he p

def binS : List (List Nat) := sOr ++ sAnd ++ sCmp ++ sSum ++ sProd
inductive WE : Ex → Prop
  | num (n p : Nat) (h : n ≤ 9223372036854775807) : WE (.mk 1 n [] [] p)
  | bool (n p : Nat) (h : n = 0 ∨ n = 1) : WE (.mk 2 n [] [] p)
  | text (s : List Nat) (p : Nat) (h : IsText s) : WE (.mk 3 0 s [] p)
  | name (s : List Nat) (p : Nat) (h : IsName s) : WE (.mk 4 0 s [] p)
  | call (s : List Nat) (l : List Ex) (p : Nat) (h : IsName s) (hl : ∀ x ∈ l, WE x) : WE (.mk 5 0 s l p)
  | two (s : List Nat) (x y : Ex) (p : Nat) (h : s ∈ binS) (hx : WE x) (hy : WE y) : WE (.mk 6 0 s [x, y] p)
  | one (s : List Nat) (x : Ex) (p : Nat) (h : s ∈ sOne) (hx : WE x) : WE (.mk 7 0 s [x] p)
  | word (k : Nat) (x : Ex) (p : Nat) (h : k = 8 ∨ k = 9 ∨ k = 10) (hx : WE x) : WE (.mk k 0 [] [x] p)
inductive WS : St → Prop
  | bind (s : List Nat) (x : Ex) (p : Nat) (h : IsName s) (hx : WE x) : WS (.mk 1 s [x] [] [] p)
  | set (s : List Nat) (x : Ex) (p : Nat) (h : IsName s) (hx : WE x) : WS (.mk 2 s [x] [] [] p)
  | choice (x : Ex) (l m : List St) (p : Nat) (hx : WE x) (hl : ∀ y ∈ l, WS y) (hm : ∀ y ∈ m, WS y) : WS (.mk 3 [] [x] l m p)
  | loop (s : List Nat) (x y : Ex) (l : List St) (p : Nat) (h : IsName s) (hx : WE x) (hy : WE y) (hl : ∀ y ∈ l, WS y) : WS (.mk 4 s [x, y] l [] p)
  | ret0 (p : Nat) : WS (.mk 5 [] [] [] [] p)
  | ret (x : Ex) (p : Nat) (hx : WE x) : WS (.mk 5 [] [x] [] [] p)
  | put (x y : Ex) (p : Nat) (hx : WE x) (hy : WE y) : WS (.mk 6 [] [x, y] [] [] p)
  | del (x : Ex) (p : Nat) (hx : WE x) : WS (.mk 7 [] [x] [] [] p)
  | expr (x : Ex) (p : Nat) (hx : WE x) : WS (.mk 8 [] [x] [] [] p)
def WF (f : Fu) : Prop := IsName f.name ∧ (∀ p ∈ f.params, IsName p.1 ∧ 1 ≤ p.2 ∧ p.2 ≤ 3) ∧ f.result ≤ 3 ∧ ∀ s ∈ f.body, WS s

/-- what a reader reads of good tokens is as Q says, and the rest are good -/
def Yd {α : Type} (Q : α → Prop) (p : Par α) : Prop := ∀ ts v r, (∀ t ∈ ts, GoodT t) → p ts = .ok v r → Q v ∧ ∀ t ∈ r, GoodT t
theorem good_tail {ts : List Tok} (h : ∀ t ∈ ts, GoodT t) : ∀ t ∈ ts.tail, GoodT t := fun t ht => h t (List.mem_of_mem_tail ht)
theorem good_peek {z : Nat} {ts : List Tok} (h : ∀ t ∈ ts, GoodT t) : GoodT (peekT z ts) := by
  cases ts with
  | nil => exact ⟨fun h => by simp [peekT, noTok] at h, fun h => by simp [peekT, noTok] at h, fun h => by simp [peekT, noTok] at h⟩
  | cons t r => exact h t (by simp)
theorem sees_mem {z : Nat} {ss : List (List Nat)} {ts : List Tok} (h : seesT z ss ts = true) : (peekT z ts).text ∈ ss := by
  unfold seesT isOne at h
  simp at h
  exact h.2
section
variable {α β : Type} {Q : α → Prop} {R : β → Prop}
theorem Yd.pure {v : α} (h : Q v) : Yd Q (fun ts => .ok v ts) := fun ts v r hg hr => by
  injection hr with h1 h2
  subst h1 h2
  exact ⟨h, hg⟩
theorem Yd.bind {p : Par α} {f : α → Par β} (hp : Yd Q p) (hf : ∀ v, Q v → Yd R (f v)) : Yd R (fun ts => (p ts).bind f) := fun ts v r hg hr => by
  obtain ⟨a, s, h1, h2⟩ := bind_inv hr
  obtain ⟨q, hg2⟩ := hp ts a s hg h1
  exact hf a q s v r hg2 h2
theorem Yd.ite {c : Prop} [Decidable c] {p q : Par α} (hp : c → Yd Q p) (hq : ¬c → Yd Q q) : Yd Q (fun ts => if c then p ts else q ts) := fun ts v r hg hr => by
  by_cases h : c
  · simp only [h, if_true] at hr; exact hp h ts v r hg hr
  · simp only [h, if_false] at hr; exact hq h ts v r hg hr
theorem Yd.look {z : Nat} {ss : List (List Nat)} {p q : Par α} (hp : Yd Q p) (hq : Yd Q q) : Yd Q (fun ts => if seesT z ss ts then p ts.tail else q ts) := fun ts v r hg hr => by
  dsimp only at hr
  split at hr
  · exact hp _ v r (good_tail hg) hr
  · exact hq ts v r hg hr
theorem Yd.weak {p : Par α} {Q' : α → Prop} (h : Yd Q p) (hw : ∀ v, Q v → Q' v) : Yd Q' p := fun ts v r hg hr => ⟨hw v (h ts v r hg hr).1, (h ts v r hg hr).2⟩
end
theorem yd_want (z : Nat) (s : List Nat) : Yd (fun _ => True) (wantT z s) := fun ts v r hg hr => by
  unfold wantT at hr
  split at hr
  · injection hr with _ h2
    subst h2
    exact ⟨trivial, good_tail hg⟩
  · cases hr
theorem yd_take (z k : Nat) : Yd (fun t => t.kind = k ∧ GoodT t) (takeT z k) := fun ts v r hg hr => by
  unfold takeT at hr
  split at hr
  · rename_i hk
    injection hr with h1 h2
    subst h1 h2
    exact ⟨⟨hk, good_peek hg⟩, good_tail hg⟩
  · cases hr
theorem yd_name (z : Nat) : Yd IsName (nameP z) := Yd.bind (yd_take z 1) fun t ht => Yd.pure (ht.2.1 ht.1)
theorem yd_moreG (z : Nat) (ss : List (List Nat)) (hs : ∀ s ∈ ss, s ∈ binS) (p : Par Ex) (hp : Yd WE p) : ∀ f x, WE x → Yd WE (moreG z ss p f x)
  | 0, x, hx => Yd.pure hx
  | f + 1, x, hx => fun ts v r hg hr => by
    unfold moreG at hr
    split at hr
    · rename_i hse
      obtain ⟨y, s, h1, h2⟩ := bind_inv hr
      obtain ⟨hy, hg2⟩ := hp _ _ _ (good_tail hg) h1
      exact yd_moreG z ss hs p hp f _ (.two _ x y _ (hs _ (sees_mem hse)) hx hy) s v r hg2 h2
    · exact Yd.pure hx ts v r hg hr
theorem yd_grouped (z : Nat) (ss : List (List Nat)) (hs : ∀ s ∈ ss, s ∈ binS) (p : Par Ex) (hp : Yd WE p) : Yd WE (groupedP z ss p) := fun ts v r hg hr => by
  unfold groupedP at hr
  obtain ⟨x, s, h1, h2⟩ := bind_inv hr
  obtain ⟨hx, hg2⟩ := hp _ _ _ hg h1
  exact yd_moreG z ss hs p hp _ x hx s v r hg2 h2
theorem inOr : ∀ s ∈ sOr, s ∈ binS := by intro s h; simp [binS, h]
theorem inAnd : ∀ s ∈ sAnd, s ∈ binS := by intro s h; simp [binS, h]
theorem inCmp : ∀ s ∈ sCmp, s ∈ binS := by intro s h; simp [binS, h]
theorem inSum : ∀ s ∈ sSum, s ∈ binS := by intro s h; simp [binS, h]
theorem inProd : ∀ s ∈ sProd, s ∈ binS := by intro s h; simp [binS, h]
theorem yd_sum (z : Nat) (one : Par Ex) (h : Yd WE one) : Yd WE (sumP z one) := yd_grouped z _ inSum _ (yd_grouped z _ inProd _ h)
theorem yd_compare (z : Nat) (one : Par Ex) (h : Yd WE one) : Yd WE (compareP z one) := fun ts v r hg hr => by
  unfold compareP at hr
  obtain ⟨x, s, h1, h2⟩ := bind_inv hr
  obtain ⟨hx, hg2⟩ := yd_sum z one h _ _ _ hg h1
  split at h2
  · rename_i hse
    unfold joinedP at h2
    obtain ⟨t, s2, h3, h4⟩ := bind_inv h2
    obtain ⟨y, s3, h5, h6⟩ := bind_inv h4
    obtain ⟨_, hg3⟩ := yd_take z 4 _ _ _ hg2 h3
    obtain ⟨hy, hg4⟩ := yd_sum z one h _ _ _ hg3 h5
    have ht : t = peekT z s := by
      unfold takeT at h3
      split at h3
      · injection h3 with h3; exact h3.symm
      · cases h3
    injection h6 with h6 h7
    subst h6 h7
    exact ⟨.two _ x y _ (inCmp _ (by rw [ht]; exact sees_mem hse)) hx hy, hg4⟩
  · injection h2 with h6 h7
    subst h6 h7
    exact ⟨hx, hg2⟩
theorem yd_levels (z : Nat) (one : Par Ex) (h : Yd WE one) : Yd WE (levelsP z one) := yd_grouped z _ inOr _ (yd_grouped z _ inAnd _ (yd_compare z one h))
def All {α : Type} (Q : α → Prop) (l : List α) : Prop := ∀ x ∈ l, Q x
theorem All.snoc {α : Type} {Q : α → Prop} {l : List α} {x : α} (h : All Q l) (hx : Q x) : All Q (l ++ [x]) := fun y hy => by
  rcases List.mem_append.1 hy with h1 | h1
  · exact h y h1
  · rw [List.mem_singleton.1 h1]; exact hx
theorem yd_moreL {α : Type} {Q : α → Prop} (z : Nat) (p : Par α) (hp : Yd Q p) : ∀ f l, All Q l → Yd (All Q) (moreL z p f l)
  | 0, l, hl => Yd.bind (yd_want z _) fun _ _ => Yd.pure hl
  | f + 1, l, hl => fun ts v r hg hr => by
    unfold moreL at hr
    split at hr
    · obtain ⟨y, s, h1, h2⟩ := bind_inv hr
      obtain ⟨hy, hg2⟩ := hp _ _ _ (good_tail hg) h1
      exact yd_moreL z p hp f _ (hl.snoc hy) s v r hg2 h2
    · exact Yd.bind (R := All Q) (yd_want z _) (fun _ _ => Yd.pure hl) ts v r hg hr
theorem yd_list {α : Type} {Q : α → Prop} (z : Nat) (p : Par α) (hp : Yd Q p) : Yd (All Q) (listP z p) := by
  refine Yd.bind (yd_want z [40]) fun _ _ => ?_
  refine Yd.look (Yd.pure (fun x hx => by cases hx)) fun ts v r hg hr => ?_
  obtain ⟨x, s, h1, h2⟩ := bind_inv hr
  obtain ⟨hx, hg2⟩ := hp _ _ _ hg h1
  exact yd_moreL z p hp _ [x] (fun y hy => by rw [List.mem_singleton.1 hy]; exact hx) s v r hg2 h2
theorem yd_enclosed (z : Nat) (e : Par Ex) (he : Yd WE e) : Yd (fun l => ∃ x, l = [x] ∧ WE x) (enclosedP z e) :=
  Yd.bind (yd_want z _) fun _ _ => Yd.bind he fun x hx => Yd.bind (yd_want z _) fun _ _ => Yd.pure ⟨x, rfl, hx⟩
theorem yd_pair (z : Nat) (e : Par Ex) (he : Yd WE e) : Yd (fun l => ∃ x y, l = [x, y] ∧ WE x ∧ WE y) (pairP z e) :=
  Yd.bind (yd_want z _) fun _ _ => Yd.bind he fun x hx => Yd.bind (yd_want z _) fun _ _ => Yd.bind he fun y hy => Yd.bind (yd_want z _) fun _ _ => Yd.pure ⟨x, y, rfl, hx, hy⟩
theorem yd_named (z : Nat) (e : Par Ex) (he : Yd WE e) : Yd WE (namedP z e) := by
  refine Yd.bind (yd_take z 1) fun t ht => fun ts v r hg hr => ?_
  split at hr
  · exact Yd.bind (R := WE) (yd_list z e he) (fun l hl => Yd.pure (.call t.text l t.place (ht.2.1 ht.1) hl)) ts v r hg hr
  · exact Yd.pure (.name t.text t.place (ht.2.1 ht.1)) ts v r hg hr
theorem WE.at' {e : Ex} (h : WE e) (q : Nat) : WE (e.at q) := by
  cases h with
  | num n p h => exact .num n q h
  | bool n p h => exact .bool n q h
  | text s p h => exact .text s q h
  | name s p h => exact .name s q h
  | call s l p h hl => exact .call s l q h hl
  | two s x y p h hx hy => exact .two s x y q h hx hy
  | one s x p h hx => exact .one s x q h hx
  | word k x p h hx => exact .word k x q h hx
theorem yd_worded (z : Nat) (e : Par Ex) (he : Yd WE e) : Yd WE (wordedP z e) := by
  have hE : ∀ k, (k = 8 ∨ k = 9 ∨ k = 10) → Yd WE (fun ts => (enclosedP z e ts).bind fun l r => .ok (.mk k 0 [] l 0) r) := fun k hk => Yd.bind (yd_enclosed z e he) fun l hl => by
    obtain ⟨x, rfl, hx⟩ := hl
    exact Yd.pure (.word k x 0 hk hx)
  exact Yd.look (Yd.pure (.bool 1 0 (.inr rfl))) (Yd.look (Yd.pure (.bool 0 0 (.inl rfl))) (Yd.look (hE 8 (.inl rfl)) (Yd.look (hE 9 (.inr (.inl rfl))) (Yd.bind (yd_want z _) fun _ _ => hE 10 (.inr (.inr rfl))))))
theorem yd_primary (z : Nat) (e : Par Ex) (he : Yd WE e) : Yd WE (primaryP z e) := fun ts v r hg hr => by
  have hp := good_peek (z := z) hg
  unfold primaryP at hr
  split at hr
  · rename_i hk
    injection hr with h1 h2
    subst h1 h2
    exact ⟨.num _ _ (hp.2.1 hk), good_tail hg⟩
  · split at hr
    · rename_i hk
      injection hr with h1 h2
      subst h1 h2
      exact ⟨.text _ _ (hp.2.2 hk), good_tail hg⟩
    · split at hr
      · exact yd_named z e he ts v r hg hr
      · split at hr
        · exact Yd.bind (R := WE) (yd_enclosed z e he) (fun l hl => by obtain ⟨x, rfl, hx⟩ := hl; exact Yd.pure hx) ts v r hg hr
        · exact Yd.bind (R := WE) (yd_worded z e he) (fun x hx => Yd.pure (hx.at' _)) ts v r hg hr
theorem yd_one (z : Nat) (e o : Par Ex) (he : Yd WE e) (ho : Yd WE o) : Yd WE (oneS z e o) := fun ts v r hg hr => by
  unfold oneS at hr
  split at hr
  · rename_i hs
    obtain ⟨x, s, h1, h2⟩ := bind_inv hr
    obtain ⟨hx, hg2⟩ := ho _ _ _ (good_tail hg) h1
    injection h2 with h3 h4
    subst h3 h4
    exact ⟨.one _ x _ (sees_mem hs) hx, hg2⟩
  · exact yd_primary z e he ts v r hg hr
theorem yd_both (z : Nat) : ∀ g, Yd WE (both z g).1 ∧ Yd WE (both z g).2
  | 0 => ⟨fun ts v r _ hr => by simp [both, failT] at hr, fun ts v r _ hr => by simp [both, failT] at hr⟩
  | g + 1 => by
    have ih := yd_both z g
    have h := yd_one z _ _ ih.1 ih.2
    exact ⟨yd_levels z _ h, h⟩
theorem yd_expr (z g : Nat) : Yd WE (exprP z g) := (yd_both z g).1
theorem yd_type (z : Nat) : Yd (fun t => 1 ≤ t ∧ t ≤ 3) (typeP z) :=
  Yd.look (Yd.pure (by omega)) (Yd.look (Yd.pure (by omega)) (Yd.bind (yd_want z _) fun _ _ => Yd.pure (by omega)))
theorem yd_set (z : Nat) (e : Par Ex) (he : Yd WE e) : Yd (fun x => IsName x.1 ∧ WE x.2) (setP z e) :=
  Yd.bind (yd_name z) fun s hs => Yd.bind (yd_want z _) fun _ _ => Yd.bind he fun x hx => Yd.pure ⟨hs, hx⟩
theorem WS.at' {s : St} (h : WS s) (q : Nat) : WS (s.at q) := by
  cases h with
  | bind s x p h hx => exact .bind s x q h hx
  | set s x p h hx => exact .set s x q h hx
  | choice x l m p hx hl hm => exact .choice x l m q hx hl hm
  | loop s x y l p h hx hy hl => exact .loop s x y l q h hx hy hl
  | ret0 p => exact .ret0 q
  | ret x p hx => exact .ret x q hx
  | put x y p hx hy => exact .put x y q hx hy
  | del x p hx => exact .del x q hx
  | expr x p hx => exact .expr x q hx
theorem yd_simple (z : Nat) (e : Par Ex) (he : Yd WE e) : Yd WS (simpleP z e) := by
  refine Yd.look (Yd.bind (yd_set z e he) fun x hx => Yd.pure (.bind _ _ 0 hx.1 hx.2)) ?_
  refine Yd.look (p := fun ts => if seesT z [[59]] ts then Res.ok (St.mk 5 [] [] [] [] 0) ts else (e ts).bind fun x r => Res.ok (St.mk 5 [] [x] [] [] 0) r) (fun ts v r hg hr => ?_) ?_
  · dsimp only at hr
    split at hr
    · injection hr with h1 h2
      subst h1 h2
      exact ⟨.ret0 0, hg⟩
    · exact Yd.bind (R := WS) he (fun x hx => Yd.pure (.ret x 0 hx)) ts v r hg hr
  refine Yd.look (Yd.bind (yd_pair z e he) fun l hl => ?_) ?_
  · obtain ⟨x, y, rfl, hx, hy⟩ := hl
    exact Yd.pure (.put x y 0 hx hy)
  refine Yd.look (Yd.bind (yd_enclosed z e he) fun l hl => ?_) ?_
  · obtain ⟨x, rfl, hx⟩ := hl
    exact Yd.pure (.del x 0 hx)
  intro ts v r hg hr
  dsimp only at hr
  split at hr
  · exact Yd.bind (R := WS) (yd_set z e he) (fun x hx => Yd.pure (.set _ _ 0 hx.1 hx.2)) ts v r hg hr
  · exact Yd.bind (R := WS) he (fun x hx => Yd.pure (.expr x 0 hx)) ts v r hg hr
theorem yd_choice (z : Nat) (e : Par Ex) (b : Par (List St)) (he : Yd WE e) (hb : Yd (All WS) b) : Yd WS (choiceP z e b) :=
  Yd.bind he fun x hx => Yd.bind hb fun l hl => Yd.look (Yd.bind hb fun m hm => Yd.pure (.choice x l m 0 hx hl hm)) (Yd.pure (.choice x l [] 0 hx hl (fun y hy => by cases hy)))
theorem yd_loop (z : Nat) (e : Par Ex) (b : Par (List St)) (he : Yd WE e) (hb : Yd (All WS) b) : Yd WS (loopP z e b) :=
  Yd.bind (yd_set z e he) fun x hx => Yd.bind (yd_want z _) fun _ _ => Yd.bind he fun y hy => Yd.bind hb fun l hl => Yd.pure (.loop _ _ y l 0 hx.1 hx.2 hy hl)
theorem yd_stmt (z : Nat) (e : Par Ex) (b : Par (List St)) (he : Yd WE e) (hb : Yd (All WS) b) : Yd WS (stmtP z e b) := fun ts v r hg hr => by
  unfold stmtP at hr
  obtain ⟨s, q, h1, h2⟩ := bind_inv hr
  have h3 : WS s ∧ ∀ t ∈ q, GoodT t := by
    refine (Yd.look (Q := WS) (yd_choice z e b he hb) (Yd.look (yd_loop z e b he hb) (Yd.bind (yd_simple z e he) fun s hs => Yd.bind (yd_want z _) fun _ _ => Yd.pure hs))) ts s q hg h1
  injection h2 with h4 h5
  subst h4 h5
  exact ⟨h3.1.at' _, h3.2⟩
theorem yd_moreS (z : Nat) (p : Par St) (hp : Yd WS p) : ∀ f l, All WS l → Yd (All WS) (moreS z p f l)
  | 0, l, hl => fun ts v r hg hr => by
    unfold moreS at hr
    split at hr
    · exact Yd.pure hl _ v r (good_tail hg) hr
    · obtain ⟨_, _, _, h2⟩ := bind_inv hr
      simp [failT] at h2
  | f + 1, l, hl => fun ts v r hg hr => by
    unfold moreS at hr
    split at hr
    · exact Yd.pure hl _ v r (good_tail hg) hr
    · obtain ⟨y, s, h1, h2⟩ := bind_inv hr
      obtain ⟨hy, hg2⟩ := hp _ _ _ hg h1
      exact yd_moreS z p hp f _ (hl.snoc hy) s v r hg2 h2
theorem yd_block (z : Nat) : ∀ g, Yd (All WS) (blockP z g)
  | 0 => fun ts v r _ hr => by simp [blockP, failT] at hr
  | g + 1 => Yd.bind (yd_want z _) fun _ _ => fun ts v r hg hr => yd_moreS z _ (yd_stmt z _ _ (yd_expr z g) (yd_block z g)) _ [] (fun x hx => by cases hx) ts v r hg hr
theorem yd_param (z : Nat) : Yd (fun p : List Nat × Nat => IsName p.1 ∧ 1 ≤ p.2 ∧ p.2 ≤ 3) (paramP z) :=
  Yd.bind (yd_name z) fun s hs => Yd.bind (yd_want z _) fun _ _ => Yd.bind (yd_type z) fun t ht => Yd.pure ⟨hs, ht⟩
theorem yd_func (z : Nat) : Yd WF (funcP z) := fun ts v r hg hr => by
  unfold funcP at hr
  obtain ⟨_, q0, h0, hr⟩ := bind_inv hr
  obtain ⟨_, g0⟩ := yd_want z _ _ _ _ hg h0
  obtain ⟨s, q1, h1, hr⟩ := bind_inv hr
  obtain ⟨hs, g1⟩ := yd_name z _ _ _ g0 h1
  obtain ⟨l, q2, h2, hr⟩ := bind_inv hr
  obtain ⟨hl, g2⟩ := yd_list z _ (yd_param z) _ _ _ g1 h2
  obtain ⟨t, q3, h3, hr⟩ := bind_inv hr
  obtain ⟨ht, g3⟩ := (Yd.look (Q := fun t => t ≤ 3) (p := typeP z) (q := fun ts => .ok 0 ts) ((yd_type z).weak fun t h => h.2) (Yd.pure (by omega))) _ _ _ g2 h3
  obtain ⟨b, q4, h4, hr⟩ := bind_inv hr
  obtain ⟨hb, g4⟩ := yd_block z 32 _ _ _ g3 h4
  injection hr with e1 e2
  subst e1 e2
  exact ⟨⟨hs, hl, ht, hb⟩, g4⟩
theorem yd_moreF (z : Nat) : ∀ f l, All WF l → Yd (All WF) (moreF z f l)
  | 0, l, hl => Yd.pure hl
  | f + 1, l, hl => fun ts v r hg hr => by
    unfold moreF at hr
    split at hr
    · injection hr with h1 h2
      subst h1 h2
      exact ⟨hl, fun t ht => by cases ht⟩
    · obtain ⟨y, s, h1, h2⟩ := bind_inv hr
      obtain ⟨hy, hg2⟩ := yd_func z _ _ _ hg h1
      exact yd_moreF z f _ (hl.snoc hy) s v r hg2 h2
/-- what a text is read as is well made -/
theorem parsed_well (l : List Nat) : All WF (parsed l).funcs := by
  unfold parsed
  split
  · rename_i he
    cases hp : programP l.length (lexed l).toks with
    | ok fs r => exact (yd_moreF l.length _ [] (fun x hx => by cases hx) _ fs r (lexed_good l) hp).1
    | bad c p => exact fun x hx => by cases hx
  · exact fun x hx => by cases hx
end
section
set_option linter.unusedSimpArgs false
set_option linter.unusedVariables false
theorem byn_name {s : List Nat} (h : IsName s) : bynB s = true := by
  rw [bynB_iff]
  intro b hb
  have := h.1 b hb
  simp [nameB, letterB, digitB] at this
  omega
theorem byn_text {s : List Nat} (h : IsText s) : bynB s = true := by
  rw [bynB_iff]
  intro b hb
  have := h.1 b hb
  simp [textB] at this
  omega
theorem okEs_of : ∀ l : List Ex, (∀ x ∈ l, okE x = true) → okEs l = true
  | [], _ => rfl
  | e :: l, h => by
    unfold okEs
    rw [h e (by simp), okEs_of l fun x hx => h x (by simp [hx])]
    rfl
theorem okSs_of : ∀ l : List St, (∀ x ∈ l, okS x = true) → okSs l = true
  | [], _ => rfl
  | e :: l, h => by
    unfold okSs
    rw [h e (by simp), okSs_of l fun x hx => h x (by simp [hx])]
    rfl
theorem okE_of {e : Ex} (h : WE e) : okE e = true := by
  induction h with
  | num => rfl
  | bool => rfl
  | text s p h => simp [okE, byn_text h, okEs]
  | name s p h => simp [okE, byn_name h, okEs]
  | call s l p h hl ih => simp [okE, byn_name h, okEs_of l ih]
  | two s x y p h hx hy ihx ihy =>
    have : bynB s = true := by
      revert s
      unfold binS
      decide
    simp [okE, this, okEs, ihx, ihy]
  | one s x p h hx ih =>
    have : bynB s = true := by
      revert s
      decide
    simp [okE, this, okEs, ih]
  | word k x p h hx ih => simp [okE, okEs, ih, bynB]
theorem okS_of {s : St} (h : WS s) : okS s = true := by
  induction h with
  | bind s x p h hx => simp [okS, byn_name h, okEs, okSs, okE_of hx]
  | set s x p h hx => simp [okS, byn_name h, okEs, okSs, okE_of hx]
  | choice x l m p hx hl hm ihl ihm => simp [okS, okEs, okE_of hx, okSs_of l ihl, okSs_of m ihm, bynB]
  | loop s x y l p h hx hy hl ih => simp [okS, byn_name h, okEs, okE_of hx, okE_of hy, okSs_of l ih, okSs]
  | ret0 => rfl
  | ret x p hx => simp [okS, okEs, okE_of hx, okSs, bynB]
  | put x y p hx hy => simp [okS, okEs, okE_of hx, okE_of hy, okSs, bynB]
  | del x p hx => simp [okS, okEs, okE_of hx, okSs, bynB]
  | expr x p hx => simp [okS, okEs, okE_of hx, okSs, bynB]
theorem okF_of {f : Fu} (h : WF f) : okF f = true := by
  unfold okF
  rw [byn_name h.1, okSs_of _ fun s hs => okS_of (h.2.2.2 s hs)]
  simp only [Bool.and_true, Bool.true_and, List.all_eq_true]
  exact fun p hp => byn_name (h.2.1 p hp).1
/-- every function of what a text is read as has texts of bytes -/
theorem parsed_ok (l : List Nat) : ∀ f ∈ (parsed l).funcs, okF f = true := fun f hf => okF_of (parsed_well l f hf)
end
end

section
section
open Go.RowKit
set_option maxRecDepth 100000
set_option linter.unusedSimpArgs false
set_option linter.unusedVariables false

/-- a row of the call's own, V, of n functions' cells; b: a variable of type Program that was made besides -/
structure Rg (B : Nat) (w9 : World) (V : Value) (n : Nat) (xs : List Value) (b : Option Nat) (u : World) : Prop where
  bl : Below B w9 u
  le : B ≤ u.heap.size
  own : u.ownsRow B 36 5 V n xs
  var : ∀ g, b = some g → B ≤ g ∧ V.ownBlock ≠ some g ∧ u.heap[g]? = some (.cells #[.slice none 0 0] 26)
theorem Rg.start (w : World) : Rg w.heap.size w (.slice none 0 0) 0 [] none w :=
  ⟨Below.refl _ _, Nat.le_refl _, ⟨rfl, .inl ⟨rfl, rfl⟩⟩, fun g h => by cases h⟩
theorem Rg.row {B : Nat} {w9 u : World} {b : Option Nat} (h : Rg B w9 (.slice none 0 0) 0 [] b u) :
    Rg B w9 (.slice (some ⟨u.heap.size, 0, none⟩) 0 0) 0 [] b (u.alloc (.cells #[] 36)) := by
  have hb := below_alloc u (.cells #[] 36)
  refine ⟨h.bl.trans (hb.mono h.le), Nat.le_trans h.le hb.size, ⟨rfl, .inr ⟨u.heap.size, 0, #[], rfl, h.le, heap_alloc_new u _, Nat.le_refl _, Nat.zero_le _, rfl, rfl⟩⟩, fun g e => ?_⟩
  obtain ⟨h1, h2, h3⟩ := h.var g e
  have hlt : g < u.heap.size := (Array.getElem?_eq_some_iff.1 h3).1
  exact ⟨h1, fun e => by injection e with e; change u.heap.size = g at e; omega, (hb.block g hlt).trans h3⟩
theorem Rg.made {B : Nat} {w9 u : World} {V : Value} {n : Nat} {xs : List Value} (h : Rg B w9 V n xs none u) :
    Rg B w9 V n xs (some u.heap.size) (u.alloc (.cells #[.slice none 0 0] 26)) := by
  have hb := below_alloc u (.cells #[.slice none 0 0] 26)
  refine ⟨h.bl.trans (hb.mono h.le), Nat.le_trans h.le hb.size, own_below h.own hb (Nat.le_refl _), fun g e => ?_⟩
  injection e with e
  subst e
  exact ⟨h.le, fun e => by have := (h.own.lt _ e).2; omega, heap_alloc_new u _⟩
theorem Rg.put {B : Nat} {w9 u : World} {V : Value} {n : Nat} {xs : List Value} {b : Option Nat} (hR : Rg B w9 V n xs b u) {o : Oper} {a : Act} {K : Act → World → Prop} {Q : Exit → Act → World → Prop} (s x : Operand)
    (ho : o.op = .call { callee := .builtin .append, args := #[s, x], argTypes := #[24, 24] }) (hs : a.eval s = V) (A : Option Addr) (m c : Nat) (hx : a.eval x = .slice A m c)
    (ys : List Value) (hF : RowF w9 (· < B) m ys (.slice A m c)) (hl : ys.length = m * 5) (h1 : ∀ y ∈ ys, y.oneCell' = true) (hn : n + m ≤ 100000) (n' : Nat) (hn' : n + m = n') (zs : List Value) (hzs : xs ++ ys = zs)
    (h : ∀ A' c' u', Rg B w9 (.slice A' n' c') n' zs b u' → K (a.put o.dst (.slice A' n' c')) u') : o.wp Tryz.prog a u K Q := by
  subst hn' hzs
  obtain ⟨i0, hi, hz0, hz1, hz2⟩ := info_parts info47
  obtain ⟨A0, c0, e, hmc, hcm, hnil, hc⟩ := hF
  injection e with e1 e2 e3
  subst e1 e3
  cases A with
  | none =>
    have hc0 := hnil rfl
    subst hc0
    have hm0 : m = 0 := by omega
    subst hm0
    have hys : ys = [] := List.eq_nil_of_length_eq_zero (by simpa using hl)
    subst hys
    have hr := run_append_owned_none (P := Tryz.prog) (w := u) B 24 o.type 36 i0 5 Tryz.underlying24 hi V n xs hR.own
    unfold Oper.wp execOp
    simp only [ho, resolve, invoke, builtin, Sem.run_bind, Sem.run_pure, Result.andThen_ok, List.map_toArray, List.map_cons, List.map_nil, hs, hx, hr]
    obtain ⟨A1, c1, e1⟩ := own_shape hR.own
    subst e1
    have := h A1 c1 u (by simpa using hR)
    exact this
  | some ad =>
    have hnews : ∀ j v, ys[j]? = some v → u.cell? (ad.add j) = some v := by
      intro j v hv
      obtain ⟨ad', e, hb, hcell⟩ := hc j v hv
      injection e with e
      subst e
      rw [World.cell?_of_block (hR.bl.block _ (by rw [addr_block]; exact hb))]
      exact hcell
    obtain ⟨v', u', hr, h2, h3, h4, h5⟩ := run_append_own_at (P := Tryz.prog) u B 24 o.type 36 i0 _ 5 80 Tryz.underlying24 hi hz0 hz1 hz2 rfl (by omega) V n xs hR.own ad m c ys hl hnews h1 (by unfold maxLen; omega) (by omega) hR.le
    unfold Oper.wp execOp
    simp only [ho, resolve, invoke, builtin, Sem.run_bind, Sem.run_pure, Result.andThen_ok, List.map_toArray, List.map_cons, List.map_nil, hs, hx, hr]
    obtain ⟨A1, c1, e1⟩ := own_shape h2
    subst e1
    refine h A1 c1 u' ⟨hR.bl.grown h3 hR.le (fun k hk => (hR.own.lt k hk).1), Nat.le_trans hR.le h3.size, h2, fun g e => ?_⟩
    obtain ⟨g1, g2, g3⟩ := hR.var g e
    have hlt : g < u.heap.size := (Array.getElem?_eq_some_iff.1 g3).1
    refine ⟨g1, fun e => ?_, (h3.block g hlt (fun e => g2 e.symm)).trans g3⟩
    rcases h5 with h5 | h5
    · exact g2 (h5.symm.trans e)
    · rw [h5] at e
      injection e with e
      omega

theorem fusC_len (l : List Fu) : ∀ ks : List Two, ks.length = l.length → (fusC l ks).length = l.length * 5 := by
  induction l with
  | nil => intro ks _; simp [fusC]
  | cons f l ih =>
    intro ks hk
    cases ks with
    | nil => simp at hk
    | cons k ks =>
      have := ih ks (by simpa using hk)
      simp only [fusC, List.zipWith_cons_cons, List.flatten_cons, List.length_append, List.length_cons] at this ⊢
      rw [this]
      simp only [fuC, List.length_cons, List.length_nil]
      omega
theorem fusC_one {w : World} {D : Nat → Prop} (l : List Fu) : ∀ ks : List Two, ks.length = l.length → (∀ (i : Nat) (f : Fu) (k : Two), l[i]? = some f → ks[i]? = some k → FuK w D f k) → ∀ y ∈ fusC l ks, y.oneCell' = true := by
  induction l with
  | nil => intro ks _ _ y hy; simp [fusC] at hy
  | cons f l ih =>
    intro ks hk hK y hy
    cases ks with
    | nil => simp at hk
    | cons k ks =>
      simp only [fusC, List.zipWith_cons_cons, List.flatten_cons, List.mem_append] at hy
      rcases hy with hy | hy
      · obtain ⟨h1, h2⟩ := hK 0 f k rfl rfl
        obtain ⟨A1, c1, e1⟩ := row_slice h1
        obtain ⟨A2, c2, e2⟩ := stsC_sl h2
        rw [fuC, e1, e2] at hy
        exact one5f y hy
      · exact ih ks (by simpa using hk) (fun i f' k' a b => hK (i + 1) f' k' (by simpa using a) (by simpa using b)) y hy
theorem fusC_append (l l' : List Fu) (ks ks' : List Two) (hk : ks.length = l.length) : fusC (l ++ l') (ks ++ ks') = fusC l ks ++ fusC l' ks' := by
  simp [fusC, List.zipWith_append hk.symm]
/-- two rows of functions, one behind the other -/
theorem Rg.fus {B : Nat} {w9 u : World} {V : Value} {b : Option Nat} {fa fb : List Fu} {ka kb : List Two} (ha : ka.length = fa.length) (hb : kb.length = fb.length)
    (hka : ∀ (i : Nat) (f : Fu) (k : Two), fa[i]? = some f → ka[i]? = some k → FuK w9 (· < B) f k) (hkb : ∀ (i : Nat) (f : Fu) (k : Two), fb[i]? = some f → kb[i]? = some k → FuK w9 (· < B) f k)
    (h : Rg B w9 V (fa.length + fb.length) (fusC fa ka ++ fusC fb kb) b u) : FusC u (· < u.heap.size) (fa ++ fb) V := by
  refine ⟨ka ++ kb, by simp [ha, hb], ?_, ?_⟩
  · have h1 := (RowF.own h.own).more (D' := (· < u.heap.size)) (fun k hk => hk.2)
    rw [fusC_append _ _ _ _ ha, List.length_append]
    exact h1
  · intro i f k hf hk
    have key : FuK w9 (· < B) f k := by
      by_cases hi : i < fa.length
      · rw [List.getElem?_append_left hi] at hf
        rw [List.getElem?_append_left (by omega)] at hk
        exact hka i f k hf hk
      · rw [List.getElem?_append_right (by omega)] at hf
        rw [List.getElem?_append_right (by omega), ha] at hk
        exact hkb _ f k hf hk
    exact (key.same fun q hq => h.bl.block q hq).more fun q hq => Nat.lt_of_lt_of_le hq h.le
theorem Rg.drew {B : Nat} {w9 u : World} {V : Value} {n : Nat} {xs : List Value} {b : Option Nat} (h : Rg B w9 V n xs b u) : Rg B w9 V n xs b u.drew := ⟨h.bl.drew, h.le, h.own, h.var⟩
theorem Rg.stored {B g : Nat} {w9 u uf : World} {V : Value} {n : Nat} {xs : List Value} (h : Rg B w9 V n xs (some g) u) (hbl : Below g u uf) (hb : ∀ k, k ≠ g → uf.heap[k]? = u.heap[k]?) : Rg B w9 V n xs none uf := by
  refine ⟨h.bl.trans (hbl.mono (h.var g rfl).1), Nat.le_trans h.le hbl.size, ⟨h.own.1, ?_⟩, fun _ e => by cases e⟩
  rcases h.own.2 with h' | ⟨g', cap, cur, e, h1, hg, rest⟩
  · exact .inl h'
  · exact .inr ⟨g', cap, cur, e, h1, (hb g' (fun e' => (h.var g rfl).2.1 (by rw [e, ← e']; rfl))).trans hg, rest⟩
theorem Rg.store {B g : Nat} {w9 u : World} {A : Option Addr} {c n : Nat} {xs : List Value} (h : Rg B w9 (.slice A n c) n xs (some g) u) {o : Oper} {a : Act} {K : Act → World → Prop} {Q : Exit → Act → World → Prop} (x y : Operand) (ho : o.op = .store 26 x y) (hd : o.dst = none)
    (hx : a.eval x = .pointer (some ⟨g, 0, none⟩)) (hy : a.eval y = .agg #[.slice A n c])
    (hk : ∀ uf, Rg B w9 (.slice A n c) n xs none uf → uf.cell? ⟨g, 0, none⟩ = some (.slice A n c) → K a uf) : o.wp Tryz.prog a u K Q := by
  have hg := (h.var g rfl).2.2
  have hth : u.there g 0 1 := there_cells (cs := [.slice none 0 0]) hg rfl
  refine wp_store_mid 26 x y ho g 0 #[.slice A n c] hx hy (by simpa using hth) (by simpa using info26s) (by simp [Value.oneCell']) ?_
  have hb := below_cells g 0 [.slice A n c] u
  have h1 := World.rangeAt_setCells_same u g 0 [.slice A n c] (by simpa using hth)
  rw [hd]
  exact hk _ (h.stored hb.1 hb.2.1) (h1 0 _ rfl)
end
end
end Go.Proofs.YtfcpabhkconjmaaGreatDoor
