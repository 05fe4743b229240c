/- Words of this proof for memory (a slice whose elements are known, what stays of it, an append of it, its string; rows of the call's own), and their laws; nothing of the program. Conditions: those in each theorem. -/
import Derived.WalkKit
import Derived.Laws.BytesArg
import Derived.Laws.AppendOwnNone
import Derived.Laws.BitsAllLaws
import Derived.Deep.RegionHeld3
import Derived.Deep.QuietTactic
import Derived.BigQuiet
namespace Go.Proofs.YtoicncfpoklanaaDoor
open Go.RowKit

/-- the cells of a list of bytes -/
abbrev cellsOf (l : List Int) : List Value := l.map (Value.int .u8)


theorem addr_block (a : Addr) (n : Nat) : (a.add n).block = a.block := by unfold Addr.add; split <;> rfl

/-- the slice at A, of capacity c, has the elements l (one cell each), in a block below B -/
def Lies (w : World) (B : Nat) (A : Option Addr) (c : Nat) (l : List Value) : Prop :=
  (A = none → c = 0) ∧ ∀ j u, l[j]? = some u → ∃ ad, A = some ad ∧ ad.block < B ∧ w.cell? (ad.add j) = some u

theorem Lies.nothing (w : World) (B : Nat) : Lies w B none 0 [] := ⟨fun _ => rfl, fun j u h => by simp at h⟩
theorem Lies.below {w w' : World} {B : Nat} {A : Option Addr} {c : Nat} {l : List Value} (h : Lies w B A c l) (hb : Below B w w') : Lies w' B A c l :=
  ⟨h.1, fun j u hu => by
    obtain ⟨ad, e, hB, hc⟩ := h.2 j u hu
    exact ⟨ad, e, hB, by rw [hb.cell (by rw [addr_block]; exact hB)]; exact hc⟩⟩
theorem Lies.more {w : World} {B B' : Nat} {A : Option Addr} {c : Nat} {l : List Value} (h : Lies w B A c l) (hB : B ≤ B') : Lies w B' A c l :=
  ⟨h.1, fun j u hu => by
    obtain ⟨ad, e, hb, hc⟩ := h.2 j u hu
    exact ⟨ad, e, by omega, hc⟩⟩
theorem Lies.none_nil {w : World} {B : Nat} {c : Nat} {l : List Value} (h : Lies w B none c l) : l = [] ∧ c = 0 := by
  refine ⟨?_, h.1 rfl⟩
  cases l with
  | nil => rfl
  | cons x r =>
    obtain ⟨ad, e, _⟩ := h.2 0 x rfl
    cases e

/-- what a call owns, as a slice that lies -/
theorem own_lies {w : World} {base : Nat} {e : TypeId} {v : Value} {n : Nat} {xs : List Value} (h : w.ownsRow base e 1 v n xs) :
    ∃ A c, v = .slice A n c ∧ n ≤ c ∧ c ≤ maxLen ∧ Lies w w.heap.size A c xs := by
  rcases h.2 with ⟨rfl, rfl⟩ | ⟨g, cap, cur, rfl, hb, hg, hn, hm, hs, ht⟩
  · have : xs = [] := List.eq_nil_of_length_eq_zero (by simpa using h.1)
    subst this
    exact ⟨none, 0, rfl, Nat.le_refl _, Nat.zero_le _, Lies.nothing _ _⟩
  · exact ⟨_, _, rfl, hn, hm, (fun e => by cases e), fun j u hu => ⟨_, rfl, (h.lt g rfl).2, h.cells rfl j u hu⟩⟩

/-- 'append' of a slice that lies onto what the call owns -/
theorem wpList_append_lies {P : Program} {w : World} {ops : Array Oper} {rest : List Oper} {o : Oper} {a : Act} {Q : Exit → Act → World → Prop} (hgd : o.guard = none) (s x : Operand) (t : TypeId)
    (ho : o.op = .call { callee := .builtin .append, args := #[s, x], argTypes := #[t, t] })
    (base : Nat) (e : TypeId) (i : TypeInfo) (z : Value) (bytes : Nat) (ht : P.underlying t = some (.slice e)) (hi : P.info? e = some i) (hz : i.zero = some z)
    (hsize : i.size = 1) (hby : i.bytes = bytes) (hzs : z.cells.size = 1)
    (v : Value) (n : Nat) (xs : List Value) (hs : a.eval s = v) (hown : w.ownsRow base e 1 v n xs)
    (B : Nat) (A : Option Addr) (m c : Nat) (news : List Value) (hx : a.eval x = .slice A m c) (hm : news.length = m) (hr : Lies w B A c news) (h1 : ∀ u ∈ news, u.oneCell' = true)
    (h63 : n + m ≤ maxLen) (hbytes : (n + m) * bytes ≤ 140737488355328) (hbase : base ≤ w.heap.size)
    (h : ∀ v' w', w'.ownsRow base e 1 v' (n + m) (xs ++ news) → w.grownBy w' v.ownBlock → wpList P ops Q rest (a.put o.dst v') w') : wpList P ops Q (o :: rest) a w := by
  cases A with
  | none =>
    obtain ⟨rfl, rfl⟩ := hr.none_nil
    have hm0 : m = 0 := by simpa using hm.symm
    subst hm0
    exact wpList_append_own_none hgd s x t ho base e i 1 ht hi v n xs hs hown hx (h v w (by simpa using hown) (World.grownBy.refl _ _))
  | some ad =>
    refine wpList_append_own w hgd s x t ho base e i z 1 bytes ht hi hz hsize hby hzs (by omega) v n xs hs hown ad m c news hx (by omega) (fun j u hu => ?_) h1 h63 hbytes hbase (fun v' w' h2 h3 _ => h v' w' h2 h3)
    obtain ⟨ad', e', _, hc⟩ := hr.2 j u hu
    injection e' with e'
    subst e'
    exact hc

theorem bytes_oneCell (l : List Int) : ∀ u ∈ cellsOf l, u.oneCell' = true := ints_oneCell .u8 l

/-- 'string(b)' of a slice that lies -/
theorem run_string_lies {P : Program} (w : World) (src dst e : TypeId) (hs : P.underlying src = some (.slice e)) (he : P.underlying e = some (.int .u8)) (hd : P.underlying dst = some .string)
    (B : Nat) (A : Option Addr) (n c : Nat) (l : List Int) (hn : l.length = n) (hr : Lies w B A c (cellsOf l)) :
    (convert src dst (.slice A n c)).run P w = .ok (.string (strOfNums l)) w := by
  subst hn
  cases A with
  | none =>
    have h := hr.none_nil.1
    have hl : l = [] := by simpa using h
    subst hl
    exact run_convert_bytes_nil w src e hs he _ _ dst hd
  | some ad =>
    have hl := run_loadCells_list (P := P) w ad (cellsOf l) (fun j u hu => by
      obtain ⟨ad', e', _, hc⟩ := hr.2 j u hu
      injection e' with e'
      subst e'
      exact hc)
    simp only [List.length_map] at hl
    rw [run_convert_bytes_string w src dst e _ _ c hs he hd, run_bytesToString w _ _ c l hl, foldl_push_bytes]
    simp [strOfNums, ByteArray.empty, ByteArray.emptyWithCapacity]
    rfl


theorem addr_add (a : Addr) (i j : Nat) : (a.add i).add j = a.add (i + j) := by
  unfold Addr.add
  by_cases hi : i = 0 <;> by_cases hj : j = 0 <;> simp [hi, hj, Nat.add_assoc]
theorem Lies.cut {w : World} {B : Nat} {A : Option Addr} {c : Nat} {l : List Int} (h : Lies w B A c (cellsOf l)) {p : Nat} (hc : l.length ≤ c) :
    Lies w B (if c = p then A else A.map (fun x => x.add p)) (c - p) (cellsOf (l.drop p)) := by
  refine ⟨fun e => ?_, fun j u hu => ?_⟩
  · split at e
    · omega
    · have : A = none := by simpa using e
      have := h.1 this
      omega
  · have hu' : (cellsOf l)[p + j]? = some u := by simpa [cellsOf, List.getElem?_drop] using hu
    have hj : p + j < l.length := by
      have := (List.getElem?_eq_some_iff.1 hu').1
      simpa using this
    obtain ⟨ad, rfl, hB, hcell⟩ := h.2 (p + j) u hu'
    rw [if_neg (by omega)]
    exact ⟨ad.add p, rfl, by rw [addr_block]; exact hB, by rw [addr_add]; exact hcell⟩
/-- a part of a slice -/
theorem Lies.mid {w : World} {B : Nat} {A : Option Addr} {c : Nat} {l : List Int} (h : Lies w B A c (cellsOf l)) {p n : Nat} (hc : l.length ≤ c) :
    Lies w B (if c = p then A else A.map (fun x => x.add p)) (c - p) (cellsOf ((l.drop p).take n)) := by
  refine ⟨(h.cut hc).1, fun j u hu => (h.cut hc).2 j u ?_⟩
  have hj : j < n := by
    have := (List.getElem?_eq_some_iff.1 hu).1
    simp at this
    omega
  simpa [cellsOf, List.getElem?_take, hj] using hu
/-- the first part of a slice -/
theorem Lies.pre {w : World} {B : Nat} {A : Option Addr} {c : Nat} {l : List Int} (h : Lies w B A c (cellsOf l)) (t : Nat) : Lies w B A c (cellsOf (l.take t)) := by
  refine ⟨h.1, fun j u hu => h.2 j u ?_⟩
  have hj : j < t := by
    have := (List.getElem?_eq_some_iff.1 hu).1
    simp at this
    omega
  simpa [cellsOf, List.getElem?_take, hj] using hu
theorem own_below {w w' : World} {base : Nat} {e : TypeId} {size : Nat} {v : Value} {n : Nat} {xs : List Value} {B : Nat} (h : w.ownsRow base e size v n xs) (hb : Below B w w') (hB : w.heap.size ≤ B) : w'.ownsRow base e size v n xs := by
  refine ⟨h.1, ?_⟩
  rcases h.2 with h' | ⟨g, cap, cur, rfl, h1, hg, rest⟩
  · exact .inl h'
  · refine .inr ⟨g, cap, cur, rfl, h1, ?_, rest⟩
    rw [hb.block g (Nat.lt_of_lt_of_le (h.lt g rfl).2 hB)]
    exact hg
theorem own_mono {w : World} {base base' : Nat} {e : TypeId} {size : Nat} {v : Value} {n : Nat} {xs : List Value} (h : w.ownsRow base e size v n xs) (hb : base' ≤ base) : w.ownsRow base' e size v n xs := by
  refine ⟨h.1, ?_⟩
  rcases h.2 with h' | ⟨g, cap, cur, hv, h1, rest⟩
  · exact .inl h'
  · exact .inr ⟨g, cap, cur, hv, by omega, rest⟩
theorem own_eq {w : World} {base : Nat} {e : TypeId} {v : Value} {n m : Nat} {xs ys : List Value} (h : w.ownsRow base e 1 v n xs) (hn : n = m) (hx : xs = ys) : w.ownsRow base e 1 v m ys := by
  subst hn hx
  exact h
theorem grown_trans {w w' w'' : World} {r : Option Nat} (h1 : w.grownBy w' r) (h2 : w'.grownBy w'' r) : w.grownBy w'' r :=
  ⟨h2.os.trans h1.os, h2.tape.trans h1.tape, h2.output.trans h1.output, Nat.le_trans h1.size h2.size, fun k hk hr => (h2.block k (Nat.lt_of_lt_of_le hk h1.size) hr).trans (h1.block k hk hr)⟩
theorem own_kept' {w w' : World} {base : Nat} {row : Option Nat} {e : TypeId} {v : Value} {n : Nat} {xs : List Value} (h : w.ownsRow base e 1 v n xs) (hg : w.grownBy w' row) (hlt : ∀ g, row = some g → g < base) : w'.ownsRow base e 1 v n xs := by
  refine h.kept hg ?_
  cases hv : v.ownBlock with
  | none => exact .inl rfl
  | some k =>
    refine .inr fun e => ?_
    have h1 := (h.lt k hv).1
    have h2 := hlt k e.symm
    omega
theorem own_addr {w : World} {base : Nat} {A : Option Addr} {n c : Nat} {xs : List Value} (h : w.ownsRow base 5 1 (.slice A n c) n xs) (hn : 0 < n) : ∃ g, A = some ⟨g, 0, none⟩ ∧ base ≤ g := by
  rcases h.2 with ⟨e, h0⟩ | ⟨g, cap, cur, e, hb, _⟩
  · omega
  · injection e with e1
    exact ⟨g, e1, hb⟩
theorem below_drewN {B : Nat} {a w : World} (h : Below B a w) (n : Nat) : Below B a (w.drewN n) := ⟨h.os, h.tape, h.output, h.size, h.block⟩
/-- a stronger condition serves for a weaker one -/
theorem held_mono {P : Program} {md : Region.Mode} {ops : Array Oper} {Q : Exit → Act → World → Prop} {S S' : World → Prop} (hS : ∀ w, S w → S' w) :
    ∀ (fuel : Nat) (listed : Array Bool) (a : Act) (w : World), wpAnyH P md ops Q S fuel listed a w → wpAnyH P md ops Q S' fuel listed a w
  | 0, _, _, _, h => h
  | fuel + 1, _, _, _, h => ⟨h.1, fun i hi => wpOp_mono (fun a' w' h' => ⟨hS w' h'.1, held_mono hS fuel _ a' w' h'.2⟩) (h.2 i hi)⟩
/-- each of them is a byte -/
def Byt (l : List Int) : Prop := ∀ b ∈ l, 0 ≤ b ∧ b < 256
theorem Byt.nil : Byt [] := by intro b hb; cases hb
theorem Byt.append {a b : List Int} (ha : Byt a) (hb : Byt b) : Byt (a ++ b) := by
  intro x hx
  rcases List.mem_append.1 hx with h | h
  · exact ha x h
  · exact hb x h
theorem Byt.sub {a b : List Int} (hb : Byt b) (h : ∀ x ∈ a, x ∈ b) : Byt a := fun x hx => hb x (h x hx)

/-- an operation whose guard says yes goes as one that has none -/
theorem wpList_wanted {P : Program} {ops : Array Oper} {Q : Exit → Act → World → Prop} {rest : List Oper} {o : Oper} {a : Act} {w : World} (hw : Region.wanted o (yielded ops a.tmps) = true)
    (h : wpList P ops Q ({ o with guard := none } :: rest) a w) : wpList P ops Q (o :: rest) a w := by
  unfold wpList at h ⊢
  have hw' : Region.wanted { o with guard := none } (yielded ops a.tmps) = true := rfl
  rw [if_pos hw]
  rw [if_pos hw'] at h
  exact h

end Go.Proofs.YtoicncfpoklanaaDoor
