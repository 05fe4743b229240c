/- The document's text of a program, as plain functions; nothing of the program. Conditions: those in each theorem. -/
import Derived.Test.YtoicncfpoklanaaDoorSyn
import Derived.Lib.ItoaNum
namespace Go.Proofs.YtoicncfpoklanaaDoor

/-- a number's digits -/
def decN (n : Nat) : List Nat := (Lib.decDigits n).map UInt8.toNat
/-- the text of the part at a place, or none -/
def atK (ks : List (List Nat)) (i : Nat) : List Nat := ks[i]?.getD []
/-- n parts with commas between them -/
def listed (f : Nat → List Nat) : Nat → List Nat
  | 0 => []
  | n + 1 => listed f n ++ (if n = 0 then [] else [44, 32]) ++ f n
def listT (f : Nat → List Nat) (n : Nat) : List Nat := [40] ++ listed f n ++ [41]
def opT (word : List Nat) (n : Nat) (ks : List (List Nat)) : List Nat := word ++ listT (atK ks) n
def boolT (n : Nat) : List Nat := if n = 1 then [116, 114, 117, 101] else [102, 97, 108, 115, 101]
/-- an expression's text, by its parts' -/
def showOp (op num : Nat) (text : List Nat) (ks : List (List Nat)) : List Nat :=
  if op = 1 then decN num
  else if op = 2 then boolT num
  else if op = 3 then [34] ++ text ++ [34]
  else if op = 4 then text
  else if op = 5 then opT text ks.length ks
  else if op = 6 then [40] ++ atK ks 0 ++ ([32] ++ text ++ [32]) ++ atK ks 1 ++ [41]
  else if op = 7 then text ++ atK ks 0
  else if op = 8 then opT [103, 101, 116] 1 ks
  else if op = 9 then opT [104, 97, 115] 1 ks
  else if op = 10 then opT [108, 101, 110] 1 ks
  else []
mutual
def showE : Ex → List Nat
  | .mk op num text kids _ => showOp op num text (showL kids)
def showL : List Ex → List (List Nat)
  | [] => []
  | e :: r => showE e :: showL r
end
theorem showL_length : ∀ l, (showL l).length = l.length
  | [] => by simp [showL]
  | e :: r => by simp [showL, showL_length r]
theorem showL_get : ∀ (l : List Ex) (i : Nat), (showL l)[i]? = l[i]?.map showE
  | [], i => by simp [showL]
  | e :: r, 0 => by simp [showL]
  | e :: r, i + 1 => by simp [showL, showL_get r i]
theorem showE_eq (e : Ex) : showE e = showOp e.op e.num e.text (showL e.kids) := by
  cases e with
  | mk => simp [showE, Ex.op, Ex.num, Ex.text, Ex.kids]
def blockT (inner : List Nat) : List Nat := [123] ++ inner ++ [32, 125]
def setT (text : List Nat) (ks : List (List Nat)) : List Nat := text ++ [32, 61, 32] ++ atK ks 0
/-- a statement's text, by its parts' -/
def showSt (op : Nat) (text : List Nat) (ks : List (List Nat)) (b e : List Nat) (bare : Bool) : List Nat :=
  if op = 1 then [108, 101, 116, 32] ++ setT text ks ++ [59]
  else if op = 2 then setT text ks ++ [59]
  else if op = 3 then [105, 102, 32] ++ atK ks 0 ++ [32] ++ b ++ (if bare then [] else [32, 101, 108, 115, 101, 32] ++ e)
  else if op = 4 then [102, 111, 114, 32] ++ setT text ks ++ [32, 116, 111, 32] ++ atK ks 1 ++ [32] ++ b
  else if op = 5 then [114, 101, 116, 117, 114, 110] ++ (if ks.length = 0 then [] else [32] ++ atK ks 0) ++ [59]
  else if op = 6 then opT [112, 117, 116] 2 ks ++ [59]
  else if op = 7 then opT [100, 101, 108] 1 ks ++ [59]
  else if op = 8 then atK ks 0 ++ [59]
  else []
mutual
def showS : St → List Nat
  | .mk op text exprs body els _ => showSt op text (showL exprs) (blockT (showB body)) (blockT (showB els)) els.isEmpty
def showB : List St → List Nat
  | [] => []
  | s :: r => [32] ++ showS s ++ showB r
end
theorem showS_eq (s : St) : showS s = showSt s.op s.text (showL s.exprs) (blockT (showB s.body)) (blockT (showB s.els)) s.els.isEmpty := by
  cases s with
  | mk => simp [showS, St.op, St.text, St.exprs, St.body, St.els]
theorem showB_snoc : ∀ (l : List St) (s : St), showB (l ++ [s]) = showB l ++ [32] ++ showS s
  | [], s => by simp [showB]
  | x :: r, s => by simp [showB, showB_snoc r s]
def typeT (t : Nat) : List Nat := if t = 1 then [105, 110, 116] else if t = 2 then [98, 111, 111, 108] else if t = 3 then [98, 121, 116, 101, 115] else []
def paramT (l : List (List Nat × Nat)) (i : Nat) : List Nat := match l[i]? with | some p => p.1 ++ [58, 32] ++ typeT p.2 | none => []
def showF (f : Fu) : List Nat := [102, 110, 32] ++ f.name ++ listT (paramT f.params) f.params.length ++ (if f.result = 0 then [] else [58, 32] ++ typeT f.result) ++ [32] ++ blockT (showB f.body) ++ [10]
def shown (l : List Fu) : List Nat := l.flatMap showF

theorem listed_le (f : Nat → List Nat) : ∀ (n m : Nat), n ≤ m → (listed f n).length ≤ (listed f m).length := by
  intro n m h
  induction h with
  | refl => exact Nat.le_refl _
  | step _ ih => simp only [listed, List.length_append]; omega
end Go.Proofs.YtoicncfpoklanaaDoor
