/- Words of this proof for memory (a slice whose elements are known, what stays of it, an append of it, its string), and their laws; nothing of the program. Conditions: those in each theorem. -/
import Derived.WalkKit
import Derived.Laws.BytesArg
import Derived.Laws.AppendOwnNone
import Derived.Test.YtecjkmemihmkcaaDoorPlain
namespace Go.Proofs.YtecjkmemihmkcaaDoor
set_option maxRecDepth 100000
open Go.RowKit

theorem addr_block (a : Addr) (n : Nat) : (a.add n).block = a.block := by unfold Addr.add; split <;> rfl

/-- the slice at A, of capacity c, has the elements l (one cell each), in a block below B -/
def Lies (w : World) (B : Nat) (A : Option Addr) (c : Nat) (l : List Value) : Prop :=
  (A = none → c = 0) ∧ ∀ j u, l[j]? = some u → ∃ ad, A = some ad ∧ ad.block < B ∧ w.cell? (ad.add j) = some u

theorem Lies.nothing (w : World) (B : Nat) : Lies w B none 0 [] := ⟨fun _ => rfl, fun j u h => by simp at h⟩
theorem Lies.below {w w' : World} {B : Nat} {A : Option Addr} {c : Nat} {l : List Value} (h : Lies w B A c l) (hb : Below B w w') : Lies w' B A c l :=
  ⟨h.1, fun j u hu => by
    obtain ⟨ad, e, hB, hc⟩ := h.2 j u hu
    exact ⟨ad, e, hB, by rw [hb.cell (by rw [addr_block]; exact hB)]; exact hc⟩⟩
theorem Lies.more {w : World} {B B' : Nat} {A : Option Addr} {c : Nat} {l : List Value} (h : Lies w B A c l) (hB : B ≤ B') : Lies w B' A c l :=
  ⟨h.1, fun j u hu => by
    obtain ⟨ad, e, hb, hc⟩ := h.2 j u hu
    exact ⟨ad, e, by omega, hc⟩⟩
theorem Lies.none_nil {w : World} {B : Nat} {c : Nat} {l : List Value} (h : Lies w B none c l) : l = [] ∧ c = 0 := by
  refine ⟨?_, h.1 rfl⟩
  cases l with
  | nil => rfl
  | cons x r =>
    obtain ⟨ad, e, _⟩ := h.2 0 x rfl
    cases e

/-- what a call owns, as a slice that lies -/
theorem own_lies {w : World} {base : Nat} {e : TypeId} {v : Value} {n : Nat} {xs : List Value} (h : w.ownsRow base e 1 v n xs) :
    ∃ A c, v = .slice A n c ∧ n ≤ c ∧ c ≤ maxLen ∧ Lies w w.heap.size A c xs := by
  rcases h.2 with ⟨rfl, rfl⟩ | ⟨g, cap, cur, rfl, hb, hg, hn, hm, hs, ht⟩
  · have : xs = [] := List.eq_nil_of_length_eq_zero (by simpa using h.1)
    subst this
    exact ⟨none, 0, rfl, Nat.le_refl _, Nat.zero_le _, Lies.nothing _ _⟩
  · exact ⟨_, _, rfl, hn, hm, (fun e => by cases e), fun j u hu => ⟨_, rfl, (h.lt g rfl).2, h.cells rfl j u hu⟩⟩

/-- 'append' of a slice that lies onto what the call owns -/
theorem wpList_append_lies {P : Program} {w : World} {ops : Array Oper} {rest : List Oper} {o : Oper} {a : Act} {Q : Exit → Act → World → Prop} (hgd : o.guard = none) (s x : Operand) (t : TypeId)
    (ho : o.op = .call { callee := .builtin .append, args := #[s, x], argTypes := #[t, t] })
    (base : Nat) (e : TypeId) (i : TypeInfo) (z : Value) (bytes : Nat) (ht : P.underlying t = some (.slice e)) (hi : P.info? e = some i) (hz : i.zero = some z)
    (hsize : i.size = 1) (hby : i.bytes = bytes) (hzs : z.cells.size = 1)
    (v : Value) (n : Nat) (xs : List Value) (hs : a.eval s = v) (hown : w.ownsRow base e 1 v n xs)
    (B : Nat) (A : Option Addr) (m c : Nat) (news : List Value) (hx : a.eval x = .slice A m c) (hm : news.length = m) (hr : Lies w B A c news) (h1 : ∀ u ∈ news, u.oneCell' = true)
    (h63 : n + m ≤ maxLen) (hbytes : (n + m) * bytes ≤ 140737488355328) (hbase : base ≤ w.heap.size)
    (h : ∀ v' w', w'.ownsRow base e 1 v' (n + m) (xs ++ news) → w.grownBy w' v.ownBlock → wpList P ops Q rest (a.put o.dst v') w') : wpList P ops Q (o :: rest) a w := by
  cases A with
  | none =>
    obtain ⟨rfl, rfl⟩ := hr.none_nil
    have hm0 : m = 0 := by simpa using hm.symm
    subst hm0
    exact wpList_append_own_none hgd s x t ho base e i 1 ht hi v n xs hs hown hx (h v w (by simpa using hown) (World.grownBy.refl _ _))
  | some ad =>
    refine wpList_append_own w hgd s x t ho base e i z 1 bytes ht hi hz hsize hby hzs (by omega) v n xs hs hown ad m c news hx (by omega) (fun j u hu => ?_) h1 h63 hbytes hbase (fun v' w' h2 h3 _ => h v' w' h2 h3)
    obtain ⟨ad', e', _, hc⟩ := hr.2 j u hu
    injection e' with e'
    subst e'
    exact hc

theorem bytes_oneCell (l : List Int) : ∀ u ∈ cellsOf l, u.oneCell' = true := ints_oneCell .u8 l

/-- 'string(b)' of a slice that lies -/
theorem run_string_lies {P : Program} (w : World) (src dst e : TypeId) (hs : P.underlying src = some (.slice e)) (he : P.underlying e = some (.int .u8)) (hd : P.underlying dst = some .string)
    (B : Nat) (A : Option Addr) (n c : Nat) (l : List Int) (hn : l.length = n) (hr : Lies w B A c (cellsOf l)) :
    (convert src dst (.slice A n c)).run P w = .ok (.string (strOfNums l)) w := by
  subst hn
  cases A with
  | none =>
    have h := hr.none_nil.1
    have hl : l = [] := by simpa using h
    subst hl
    exact run_convert_bytes_nil w src e hs he _ _ dst hd
  | some ad =>
    have hl := run_loadCells_list (P := P) w ad (cellsOf l) (fun j u hu => by
      obtain ⟨ad', e', _, hc⟩ := hr.2 j u hu
      injection e' with e'
      subst e'
      exact hc)
    simp only [List.length_map] at hl
    rw [run_convert_bytes_string w src dst e _ _ c hs he hd, run_bytesToString w _ _ c l hl, foldl_push_bytes]
    simp [strOfNums, ByteArray.empty, ByteArray.emptyWithCapacity]
    rfl


/-- the slice of byte strings at A, of capacity c, reads as ls, all of it below B -/
def Grid (w : World) (B : Nat) (A : Option Addr) (c : Nat) (ls : List (List Int)) : Prop :=
  (A = none → c = 0) ∧ ∀ i l, ls[i]? = some l → ∃ ad A' c', A = some ad ∧ ad.block < B ∧ w.cell? (ad.add i) = some (.slice A' l.length c') ∧ l.length ≤ c' ∧ c' ≤ maxLen ∧ Lies w B A' c' (cellsOf l)

theorem Grid.nothing (w : World) (B : Nat) : Grid w B none 0 [] := ⟨fun _ => rfl, fun j u h => by simp at h⟩
theorem Grid.below {w w' : World} {B : Nat} {A : Option Addr} {c : Nat} {ls : List (List Int)} (h : Grid w B A c ls) (hb : Below B w w') : Grid w' B A c ls :=
  ⟨h.1, fun i l hl => by
    obtain ⟨ad, A', c', e, hB, hc, h1, h2, h3⟩ := h.2 i l hl
    exact ⟨ad, A', c', e, hB, by rw [hb.cell (by rw [addr_block]; exact hB)]; exact hc, h1, h2, h3.below hb⟩⟩
theorem Grid.more {w : World} {B B' : Nat} {A : Option Addr} {c : Nat} {ls : List (List Int)} (h : Grid w B A c ls) (hB : B ≤ B') : Grid w B' A c ls :=
  ⟨h.1, fun i l hl => by
    obtain ⟨ad, A', c', e, hb, hc, h1, h2, h3⟩ := h.2 i l hl
    exact ⟨ad, A', c', e, by omega, hc, h1, h2, h3.more hB⟩⟩

end Go.Proofs.YtecjkmemihmkcaaDoor
