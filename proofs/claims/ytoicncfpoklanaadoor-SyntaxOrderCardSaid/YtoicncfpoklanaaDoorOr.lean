/- What the document's parser makes of three names with two signs between them; nothing of the program. Conditions: those in each theorem. -/
import Derived.Test.YtoicncfpoklanaaDoorSyn
namespace Go.Proofs.YtoicncfpoklanaaDoor
set_option maxRecDepth 100000

def groups : List (List (List Nat)) := [sOr, sAnd, sCmp, sSum, sProd]
/-- how loose a sign is -/
def looseG (s : List Nat) : List (List (List Nat)) → Nat → Nat
  | [], _ => 5
  | g :: r, i => bif g.contains s then i else looseG s r (i + 1)
def looseN (s : List Nat) : Nat := looseG s groups 0
def signs5 : List (List Nat) := sOr ++ sAnd ++ sCmp ++ sSum ++ sProd
def orderL (s t : List Nat) : List Nat := [102, 110, 32, 102, 40, 41, 32, 123, 32, 120, 32, 61, 32, 97, 32] ++ s ++ [32, 98, 32] ++ t ++ [32, 99, 59, 32, 125]
def orderX (s t : List Nat) (x : Ex) : Bool :=
  match x with
  | .mk _ _ u [.mk _ _ a _ _, .mk _ _ b _ _] _ => bif Nat.ble (looseN s + 1) (looseN t) then (u == s) && (b == t) && (a == [97]) else (u == t) && (a == s) && (b == [99])
  | _ => false
def orderOk (s t : List Nat) : Bool :=
  match parsed (orderL s t) with
  | ⟨err, fs, place⟩ => bif (looseN s == 2) && (looseN t == 2) then Nat.beq err 41 else Nat.beq err 0 && Nat.beq place 0 && (match fs with | [⟨_, _, _, [.mk _ _ (x :: _) _ _ _], _⟩] => orderX s t x | _ => false)
theorem order_all : (signs5.all fun s => signs5.all fun t => orderOk s t) = true := by kernel_rfl
theorem loose_mem : ∀ s : List Nat, looseN s = 5 ∨ s ∈ signs5 := by
  intro s
  unfold looseN looseG groups
  simp only [looseG]
  by_cases h1 : sOr.contains s = true
  · right; simp [signs5]; simp at h1; exact .inl h1
  by_cases h2 : sAnd.contains s = true
  · right; simp [signs5]; simp at h2; exact .inr (.inl h2)
  by_cases h3 : sCmp.contains s = true
  · right; simp [signs5]; simp at h3; exact .inr (.inr (.inl h3))
  by_cases h4 : sSum.contains s = true
  · right; simp [signs5]; simp at h4; exact .inr (.inr (.inr (.inl h4)))
  by_cases h5 : sProd.contains s = true
  · right; simp [signs5]; simp at h5; exact .inr (.inr (.inr (.inr h5)))
  left
  simp only [Bool.not_eq_true] at h1 h2 h3 h4 h5
  rw [h1, h2, h3, h4, h5]
  rfl
end Go.Proofs.YtoicncfpoklanaaDoor
