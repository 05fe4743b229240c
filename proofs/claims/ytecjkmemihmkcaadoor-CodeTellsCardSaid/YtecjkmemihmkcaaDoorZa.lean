/- Modules as plain data, their bytes, and how bytes are read as a module; nothing of the program. Conditions: those in each theorem. -/
import Derived.Test.YtecjkmemihmkcaaDoorO
import Derived.Test.YtecjkmemihmkcaaDoorQ
namespace Go.Proofs.YtecjkmemihmkcaaDoor
open Go.RowKit
set_option linter.unusedSimpArgs false
set_option linter.unusedVariables false

/-- a code: its name, the types of its parameters, its result, its slots, its instructions -/
structure Cd where
  name : List Int
  params : List Int
  result : Int
  slots : Int
  instrs : List (Int × Int)
/-- a module: its codes and its texts -/
structure Md where
  codes : List Cd
  texts : List (List Int)

def nuB (n : Int) : List Int := be n 7 8
def inB (i : Int × Int) : List Int := be i.1 7 8 ++ be i.2 7 8
/-- a code's bytes -/
def cdB (c : Cd) : List Int := be c.name.length 3 4 ++ (c.name ++ (be c.params.length 7 8 ++ (c.params.flatMap nuB ++ (be c.result 7 8 ++ (be c.slots 7 8 ++ (be c.instrs.length 7 8 ++ c.instrs.flatMap inB))))))
/-- a module's bytes -/
def mdB (m : Md) : List Int := be m.codes.length 7 8 ++ (m.codes.flatMap cdB ++ rowBytes m.texts)

def okT (t : Int) : Bool := decide (1 ≤ t) && decide (t ≤ 3)
def okI (i : Int × Int) : Bool := decide (1 ≤ i.1) && decide (i.1 ≤ 18)
def okCd (c : Cd) : Bool := decide (c.name.length ≤ 16) && (decide (c.params.length ≤ 16) && (decide (c.instrs.length ≤ 16384) && (decide ((c.params.length : Int) ≤ c.slots) && (decide (c.slots ≤ 256) && ((decide (c.result = 0) || okT c.result) && (c.params.all okT && c.instrs.all okI))))))
def okX (s : List Int) : Bool := decide (s.length ≤ 64)
/-- a module is right -/
def okMd (m : Md) : Bool := decide (m.codes.length ≤ 64) && (decide (m.texts.length ≤ 1024) && (m.codes.all okCd && m.texts.all okX))

/-- what a reading comes to: a thing and the place behind it, or an error -/
inductive Rd (α : Type) where
  | ok (a : α) (p : Int) : Rd α
  | bad (e : Int) : Rd α
def Rd.bind {α β : Type} : Rd α → (α → Int → Rd β) → Rd β
  | .ok a p, f => f a p
  | .bad e, _ => .bad e
@[simp] theorem Rd.bind_ok {α β : Type} (a : α) (p : Int) (f : α → Int → Rd β) : (Rd.ok a p).bind f = f a p := rfl
@[simp] theorem Rd.bind_bad {α β : Type} (e : Int) (f : α → Int → Rd β) : (Rd.bad e).bind f = .bad e := rfl
theorem Rd.bind_bind {α β γ : Type} (r : Rd α) (f : α → Int → Rd β) (g : β → Int → Rd γ) : (r.bind f).bind g = r.bind fun a p => (f a p).bind g := by cases r <;> rfl
theorem Rd.bind_is {α β : Type} {r : Rd α} {f : α → Int → Rd β} {b : β} {q : Int} (h : r.bind f = .ok b q) : ∃ a p, r = .ok a p ∧ f a p = .ok b q := by
  cases r with
  | ok a p => exact ⟨a, p, rfl, h⟩
  | bad e => cases h
/-- the state that a reading leaves -/
def Rd.st {α : Type} (r : Rd α) : Rd Unit := r.bind fun _ p => .ok () p
@[simp] theorem Rd.st_ok {α : Type} (a : α) (p : Int) : (Rd.ok a p).st = .ok () p := rfl
@[simp] theorem Rd.st_bad {α : Type} (e : Int) : (Rd.bad e : Rd α).st = .bad e := rfl

/-- a number, a byte string, a row at p -/
def numR (l : List Int) (p : Int) : Rd Int := if roomV l.length p 8 = 0 then .ok (numA l p) (p + 8) else .bad (roomV l.length p 8)
def bytesR (l : List Int) (p : Int) : Rd (List Int) := if bytesE l p = 0 then .ok (bytesA l p) (bytesB l p) else .bad (bytesE l p)
def rowR (l : List Int) (p : Int) : Rd (List (List Int)) := if rowE l p = 0 then .ok (items l (p + 4) (cnt l p)) (offs l (p + 4) (cnt l p)) else .bad (rowE l p)
/-- how many, at most so many -/
def manyR (l : List Int) (most : Int) (p : Int) : Rd Int := (numR l p).bind fun n q => if n < 0 ∨ most < n then .bad 111 else .ok n q
/-- the first k things -/
def elemsR {α : Type} (f : Int → Rd α) (p : Int) : Nat → Rd (List α)
  | 0 => .ok [] p
  | k + 1 => (elemsR f p k).bind fun l q => (f q).bind fun a r => .ok (l ++ [a]) r
/-- so many things, at most so many -/
def rowOf {α : Type} (l : List Int) (most : Int) (f : Int → Rd α) (p : Int) : Rd (List α) := (manyR l most p).bind fun n q => elemsR f q n.toNat
def instrR (l : List Int) (p : Int) : Rd (Int × Int) := (numR l p).bind fun o q => (numR l q).bind fun a r => .ok (o, a) r
def codeR (l : List Int) (p : Int) : Rd Cd :=
  (bytesR l p).bind fun s p => (rowOf l 16 (numR l) p).bind fun ts p => (numR l p).bind fun t p => (numR l p).bind fun k p => (rowOf l 16384 (instrR l) p).bind fun is p => .ok ⟨s, ts, t, k, is⟩ p
/-- codes and texts -/
def partsR (l : List Int) : Rd Md := (rowOf l 64 (codeR l) 0).bind fun cs p => (rowR l p).bind fun ts p => .ok ⟨cs, ts⟩ p
/-- the module that has these bytes -/
def getR (l : List Int) : Rd Md := (partsR l).bind fun m p => if p = l.length ∧ okMd m = true then .ok m p else .bad 111

theorem numR_in {l : List Int} {p a q : Int} (h : numR l p = .ok a q) : 0 ≤ p ∧ q = p + 8 ∧ q ≤ l.length ∧ a = numA l p ∧ roomV l.length p 8 = 0 := by
  unfold numR at h
  split at h
  · rename_i h0
    injection h with h1 h2
    have := room_is0 h0
    exact ⟨this.1, h2.symm, by omega, h1.symm, h0⟩
  · cases h
theorem bytesR_in {l : List Int} {p q : Int} {a : List Int} (h : bytesR l p = .ok a q) : 0 ≤ p ∧ q = p + 4 + a.length ∧ q ≤ l.length ∧ a = bytesA l p ∧ bytesE l p = 0 ∧ a.length ≤ 65536 := by
  unfold bytesR at h
  split at h
  · rename_i h0
    injection h with h1 h2
    have h3 := bytesE_0 h0
    have h4 := bytesA_length h0
    rw [h1] at h4
    unfold bytesB at h2
    exact ⟨h3.2.2.1, by omega, by omega, h1.symm, h0, by omega⟩
  · cases h
theorem instrR_in {l : List Int} {p q : Int} {a : Int × Int} (h : instrR l p = .ok a q) : 0 ≤ p ∧ q = p + 16 ∧ q ≤ l.length ∧ numR l p = .ok a.1 (p + 8) ∧ numR l (p + 8) = .ok a.2 (p + 16) := by
  obtain ⟨x, p1, e1, h⟩ := Rd.bind_is h
  obtain ⟨y, p2, e2, h⟩ := Rd.bind_is h
  injection h with h1 h2
  have g1 := numR_in e1
  have g2 := numR_in e2
  obtain ⟨_, rfl, _⟩ := g1
  obtain ⟨_, rfl, _⟩ := g2
  subst h1 h2
  have e : p + 8 + 8 = p + 16 := by omega
  refine ⟨by omega, by omega, by omega, e1, ?_⟩
  rw [e] at e2
  exact e2
theorem manyR_in {l : List Int} {most p a q : Int} (h : manyR l most p = .ok a q) : numR l p = .ok a q ∧ 0 ≤ a ∧ a ≤ most := by
  obtain ⟨x, p1, e1, h⟩ := Rd.bind_is h
  split at h
  · cases h
  · injection h with h1 h2
    subst h1 h2
    exact ⟨e1, by omega, by omega⟩
theorem elemsR_len {α : Type} {f : Int → Rd α} {p : Int} : ∀ {k : Nat} {l : List α} {q : Int}, elemsR f p k = .ok l q → l.length = k
  | 0, l, q, h => by
    injection h with h1 h2
    subst h1
    rfl
  | k + 1, l, q, h => by
    obtain ⟨x, p1, e1, h⟩ := Rd.bind_is h
    obtain ⟨y, p2, e2, h⟩ := Rd.bind_is h
    injection h with h1 h2
    subst h1
    rw [List.length_append, elemsR_len e1]
    rfl
/-- once bad, ever so -/
theorem elemsR_bad {α : Type} {f : Int → Rd α} {p : Int} {e : Int} {k : Nat} (h : elemsR f p k = .bad e) : ∀ j, elemsR f p (k + j) = .bad e
  | 0 => h
  | j + 1 => by
    show (elemsR f p (k + j)).bind _ = _
    rw [elemsR_bad h j]
    rfl
/-- a thing of each place -/
theorem elemsR_in {α : Type} {f : Int → Rd α} {n : Nat} (hf : ∀ {p q : Int} {a : α}, f p = .ok a q → 0 ≤ p ∧ p ≤ q ∧ q ≤ n) {p : Int} (hp0 : 0 ≤ p) (hp : p ≤ n) : ∀ {k : Nat} {l : List α} {q : Int}, elemsR f p k = .ok l q → p ≤ q ∧ q ≤ n
  | 0, l, q, h => by
    injection h with h1 h2
    subst h2
    omega
  | k + 1, l, q, h => by
    obtain ⟨x, p1, e1, h⟩ := Rd.bind_is h
    obtain ⟨y, p2, e2, h⟩ := Rd.bind_is h
    injection h with h1 h2
    subst h2
    have g1 := elemsR_in hf hp0 hp e1
    have g2 := hf e2
    omega
theorem rowOf_in {α : Type} {l : List Int} {most : Int} {f : Int → Rd α} (hf : ∀ {p q : Int} {a : α}, f p = .ok a q → 0 ≤ p ∧ p ≤ q ∧ q ≤ l.length) {p q : Int} {xs : List α} (h : rowOf l most f p = .ok xs q) :
    0 ≤ p ∧ p ≤ q ∧ q ≤ l.length ∧ (xs.length : Int) ≤ most ∧ manyR l most p = .ok xs.length (p + 8) ∧ elemsR f (p + 8) xs.length = .ok xs q := by
  obtain ⟨n, p1, e1, h⟩ := Rd.bind_is h
  obtain ⟨h1, h2, h3⟩ := manyR_in e1
  obtain ⟨g1, rfl, g3, _⟩ := numR_in h1
  have h4 := elemsR_len h
  have h5 := elemsR_in hf (by omega) g3 h
  obtain ⟨n, rfl⟩ := Int.eq_ofNat_of_zero_le h2
  rw [Int.toNat_natCast] at h4 h
  subst h4
  exact ⟨g1, by omega, h5.2, h3, e1, h⟩
theorem codeR_in {l : List Int} {p q : Int} {c : Cd} (h : codeR l p = .ok c q) : 0 ≤ p ∧ p ≤ q ∧ q ≤ l.length := by
  obtain ⟨x1, p1, e1, h⟩ := Rd.bind_is h
  obtain ⟨x2, p2, e2, h⟩ := Rd.bind_is h
  obtain ⟨x3, p3, e3, h⟩ := Rd.bind_is h
  obtain ⟨x4, p4, e4, h⟩ := Rd.bind_is h
  obtain ⟨x5, p5, e5, h⟩ := Rd.bind_is h
  injection h with h1 h2
  subst h2
  have g1 := bytesR_in e1
  have g2 := rowOf_in (fun h => by have := numR_in h; omega) e2
  have g3 := numR_in e3
  have g4 := numR_in e4
  have g5 := rowOf_in (fun h => by have := instrR_in h; omega) e5
  omega

end Go.Proofs.YtecjkmemihmkcaaDoor
