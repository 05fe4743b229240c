/- Words of this proof for memory (a slice whose elements are known, what stays of it, a struct in a block of its own), and their laws; nothing of the program but the sizes of its types. Conditions: those in each theorem. -/
import Derived.Test.YtehihpfhcphdoaaRows
import Derived.WalkKit
import Derived.WalkSpells
import Derived.WalkLawsBesides
import Derived.Lib.Hide
import Derived.Outline
import Derived.Laws.BytesArg
import Derived.Laws.AppendOwnNone
import Derived.Deep.MidRow
import Derived.Deep.RegionHeld3
import Derived.Deep.QuietTactic
import Derived.BigQuiet
namespace Go.Proofs.Ytehihpfhcphdoaa
open Go.RowKit

/-- the cells of a list of bytes -/
abbrev cellsOf (l : List Int) : List Value := l.map (Value.int .u8)
def Byt (l : List Int) : Prop := ∀ b ∈ l, 0 ≤ b ∧ b < 256

theorem addr_block (a : Addr) (n : Nat) : (a.add n).block = a.block := by unfold Addr.add; split <;> rfl

/-- the slice at A, of capacity c, has the elements l (one cell each), in a block below B -/
def Lies (w : World) (B : Nat) (A : Option Addr) (c : Nat) (l : List Value) : Prop :=
  (A = none → c = 0) ∧ ∀ j u, l[j]? = some u → ∃ ad, A = some ad ∧ ad.block < B ∧ w.cell? (ad.add j) = some u

theorem Lies.nothing (w : World) (B : Nat) : Lies w B none 0 [] := ⟨fun _ => rfl, fun j u h => by simp at h⟩
theorem Lies.below {w w' : World} {B : Nat} {A : Option Addr} {c : Nat} {l : List Value} (h : Lies w B A c l) (hb : Below B w w') : Lies w' B A c l :=
  ⟨h.1, fun j u hu => by
    obtain ⟨ad, e, hB, hc⟩ := h.2 j u hu
    exact ⟨ad, e, hB, by rw [hb.cell (by rw [addr_block]; exact hB)]; exact hc⟩⟩
theorem Lies.more {w : World} {B B' : Nat} {A : Option Addr} {c : Nat} {l : List Value} (h : Lies w B A c l) (hB : B ≤ B') : Lies w B' A c l :=
  ⟨h.1, fun j u hu => by
    obtain ⟨ad, e, hb, hc⟩ := h.2 j u hu
    exact ⟨ad, e, by omega, hc⟩⟩
theorem Lies.none_nil {w : World} {B : Nat} {c : Nat} {l : List Value} (h : Lies w B none c l) : l = [] ∧ c = 0 := by
  refine ⟨?_, h.1 rfl⟩
  cases l with
  | nil => rfl
  | cons x r =>
    obtain ⟨ad, e, _⟩ := h.2 0 x rfl
    cases e

/-- what a call owns, as a slice that lies -/
theorem own_lies {w : World} {base : Nat} {e : TypeId} {v : Value} {n : Nat} {xs : List Value} (h : w.ownsRow base e 1 v n xs) :
    ∃ A c, v = .slice A n c ∧ n ≤ c ∧ c ≤ maxLen ∧ Lies w w.heap.size A c xs := by
  rcases h.2 with ⟨rfl, rfl⟩ | ⟨g, cap, cur, rfl, hb, hg, hn, hm, hs, ht⟩
  · have : xs = [] := List.eq_nil_of_length_eq_zero (by simpa using h.1)
    subst this
    exact ⟨none, 0, rfl, Nat.le_refl _, Nat.zero_le _, Lies.nothing _ _⟩
  · exact ⟨_, _, rfl, hn, hm, (fun e => by cases e), fun j u hu => ⟨_, rfl, (h.lt g rfl).2, h.cells rfl j u hu⟩⟩

/-- 'append' of a slice that lies onto what the call owns -/
theorem wpList_append_lies {P : Program} {w : World} {ops : Array Oper} {rest : List Oper} {o : Oper} {a : Act} {Q : Exit → Act → World → Prop} (hgd : o.guard = none) (s x : Operand) (t : TypeId)
    (ho : o.op = .call { callee := .builtin .append, args := #[s, x], argTypes := #[t, t] })
    (base : Nat) (e : TypeId) (i : TypeInfo) (z : Value) (bytes : Nat) (ht : P.underlying t = some (.slice e)) (hi : P.info? e = some i) (hz : i.zero = some z)
    (hsize : i.size = 1) (hby : i.bytes = bytes) (hzs : z.cells.size = 1)
    (v : Value) (n : Nat) (xs : List Value) (hs : a.eval s = v) (hown : w.ownsRow base e 1 v n xs)
    (B : Nat) (A : Option Addr) (m c : Nat) (news : List Value) (hx : a.eval x = .slice A m c) (hm : news.length = m) (hr : Lies w B A c news) (h1 : ∀ u ∈ news, u.oneCell' = true)
    (h63 : n + m ≤ maxLen) (hbytes : (n + m) * bytes ≤ 140737488355328) (hbase : base ≤ w.heap.size)
    (h : ∀ v' w', w'.ownsRow base e 1 v' (n + m) (xs ++ news) → w.grownBy w' v.ownBlock → wpList P ops Q rest (a.put o.dst v') w') : wpList P ops Q (o :: rest) a w := by
  cases A with
  | none =>
    obtain ⟨rfl, rfl⟩ := hr.none_nil
    have hm0 : m = 0 := by simpa using hm.symm
    subst hm0
    exact wpList_append_own_none hgd s x t ho base e i 1 ht hi v n xs hs hown hx (h v w (by simpa using hown) (World.grownBy.refl _ _))
  | some ad =>
    refine wpList_append_own w hgd s x t ho base e i z 1 bytes ht hi hz hsize hby hzs (by omega) v n xs hs hown ad m c news hx (by omega) (fun j u hu => ?_) h1 h63 hbytes hbase (fun v' w' h2 h3 _ => h v' w' h2 h3)
    obtain ⟨ad', e', _, hc⟩ := hr.2 j u hu
    injection e' with e'
    subst e'
    exact hc

theorem bytes_oneCell (l : List Int) : ∀ u ∈ cellsOf l, u.oneCell' = true := ints_oneCell .u8 l

/-- 'string(b)' of a slice that lies -/
theorem run_string_lies {P : Program} (w : World) (src dst e : TypeId) (hs : P.underlying src = some (.slice e)) (he : P.underlying e = some (.int .u8)) (hd : P.underlying dst = some .string)
    (B : Nat) (A : Option Addr) (n c : Nat) (l : List Int) (hn : l.length = n) (hr : Lies w B A c (cellsOf l)) :
    (convert src dst (.slice A n c)).run P w = .ok (.string (strOfNums l)) w := by
  subst hn
  cases A with
  | none =>
    have h := hr.none_nil.1
    have hl : l = [] := by simpa using h
    subst hl
    exact run_convert_bytes_nil w src e hs he _ _ dst hd
  | some ad =>
    have hl := run_loadCells_list (P := P) w ad (cellsOf l) (fun j u hu => by
      obtain ⟨ad', e', _, hc⟩ := hr.2 j u hu
      injection e' with e'
      subst e'
      exact hc)
    simp only [List.length_map] at hl
    rw [run_convert_bytes_string w src dst e _ _ c hs he hd, run_bytesToString w _ _ c l hl, foldl_push_bytes]
    simp [strOfNums, ByteArray.empty, ByteArray.emptyWithCapacity]
    rfl



theorem below_drewN {B : Nat} {a w : World} (h : Below B a w) (n : Nat) : Below B a (w.drewN n) := ⟨h.os, h.tape, h.output, h.size, h.block⟩
theorem below_alloc (w : World) (o : Obj) : Below w.heap.size w (w.alloc o) := (Below.refl _ _).alloc (Nat.le_refl _) o
/-- a stronger condition serves for a weaker one -/
theorem held_mono {P : Program} {md : Region.Mode} {ops : Array Oper} {Q : Exit → Act → World → Prop} {S S' : World → Prop} (hS : ∀ w, S w → S' w) :
    ∀ (fuel : Nat) (listed : Array Bool) (a : Act) (w : World), wpAnyH P md ops Q S fuel listed a w → wpAnyH P md ops Q S' fuel listed a w
  | 0, _, _, _, h => h
  | fuel + 1, _, _, _, h => ⟨h.1, fun i hi => wpOp_mono (fun a' w' h' => ⟨hS w' h'.1, held_mono hS fuel _ a' w' h'.2⟩) (h.2 i hi)⟩
theorem below_cells (g o : Nat) : ∀ (cs : List Value) (w : World), Below g w (w.setCells g o cs) ∧ (∀ k, k ≠ g → (w.setCells g o cs).heap[k]? = w.heap[k]?) ∧ (w.setCells g o cs).heap.size = w.heap.size := by
  intro cs
  induction cs generalizing o with
  | nil => exact fun w => ⟨Below.refl _ _, fun _ _ => rfl, rfl⟩
  | cons c cs ih =>
    intro w
    have h := ih (o + 1) (w.setCell ⟨g, o, none⟩ c)
    refine ⟨((Below.refl g w).setCell (p := ⟨g, o, none⟩) (Nat.le_refl _) c).trans h.1, fun k hk => ?_, h.2.2.trans (by simp [World.setCell])⟩
    have h2 := h.2.1 k hk
    rw [Below.heap_setCell _ _ _ _ hk] at h2
    exact h2
/-- a struct is stored in a variable of its own -/
theorem wpList_storeN {ops : Array Oper} {rest : List Oper} {o : Oper} {a : Act} {w : World} {Q : Exit → Act → World → Prop} {T n : Nat} (hi : (Try.prog.info? T).map (·.size) = some n) (hgd : o.guard = none) (x y : Operand) (ho : o.op = .store T x y) (hd : o.dst = none)
    (g : Nat) (hx : a.eval x = .pointer (some ⟨g, 0, none⟩)) (cs : List Value) (hl : cs.length = n) (hy : a.eval y = .agg cs.toArray) (ht : w.there g 0 n) (h1 : ∀ u ∈ cs, u.oneCell' = true)
    (h : ∀ w', w'.rangeAt g 0 cs → w'.there g 0 n → Below g w w' → (∀ k, k ≠ g → w'.heap[k]? = w.heap[k]?) → w'.heap.size = w.heap.size → wpList Try.prog ops Q rest a w') : wpList Try.prog ops Q (o :: rest) a w := by
  subst hl
  refine wpList_store_mid hgd T x y ho g 0 cs.toArray hx hy (by simpa using ht) (by simpa using hi) (by simpa using h1) ?_
  have hb := below_cells g 0 cs w
  have := h (w.setCells g 0 cs) (World.rangeAt_setCells_same w g 0 _ (by simpa using ht)) (World.there_setCells ht _ _ _) hb.1 hb.2.1 hb.2.2
  rw [hd]
  exact this
/-- a struct in the block where a function's result lies -/
theorem ret_cell {fn : Func} {s T : Nat} {d : TypeDesc} {cs : List Value} (h : fn.results = #[.cell s T]) (hu : Try.prog.underlying T = some d) (hd : d.isRow = true) (hi : (Try.prog.info? T).map (·.size) = some cs.length) (tmps : Array Value) (w : World) (g : Nat) (hp : tmps.getD s undef = .pointer (some ⟨g, 0, none⟩)) (hr : w.rangeAt g 0 cs) :
    (results fn tmps).run Try.prog w = .ok (.agg cs.toArray) w := by
  have hp' : tmps[s]?.getD undef = .pointer (some ⟨g, 0, none⟩) := by simpa using hp
  have h1 := run_loadVar_mid (P := Try.prog) w g 0 T cs _ hr hu hd hi
  simp [results, h, hp', asAddr, h1]
/-- the same with a second result -/
theorem ret_cell2 {fn : Func} {s T u : Nat} {d : TypeDesc} {cs : List Value} (h : fn.results = #[.cell s T, .tmp u]) (hu : Try.prog.underlying T = some d) (hd : d.isRow = true) (hi : (Try.prog.info? T).map (·.size) = some cs.length) (tmps : Array Value) (w : World) (g : Nat) (hp : tmps.getD s undef = .pointer (some ⟨g, 0, none⟩)) (hr : w.rangeAt g 0 cs) :
    (results fn tmps).run Try.prog w = .ok (.tuple #[.agg cs.toArray, tmps.getD u undef]) w := by
  have hp' : tmps[s]?.getD undef = .pointer (some ⟨g, 0, none⟩) := by simpa using hp
  have h1 := run_loadVar_mid (P := Try.prog) w g 0 T cs _ hr hu hd hi
  simp [results, h, hp', asAddr, h1]
/-- a block of cells, as a range -/
theorem range_of {w : World} {g : Nat} {cs : List Value} {T : TypeId} (h : w.heap[g]? = some (.cells cs.toArray T (0, 0))) : w.rangeAt g 0 cs := by
  intro j v hv
  rw [cell_of_row _ _ _ _ _ _ h]
  simpa using hv
theorem there_cells {w : World} {g n : Nat} {cs : List Value} {T : TypeId} (h : w.heap[g]? = some (.cells cs.toArray T (0, 0))) (hn : cs.length = n) : w.there g 0 n := by
  intro j hj
  constructor
  · rw [cell_of_row _ _ _ _ _ _ h]
    simp
    omega
  · simp [World.frozen?, h]
theorem range_below {w w' : World} {B g : Nat} {cs : List Value} (h : w.rangeAt g 0 cs) (hb : Below B w w') (hg : g < B) : w'.rangeAt g 0 cs := by
  intro j v hv
  rw [hb.cell (by exact hg)]
  exact h j v hv
theorem there_below {w w' : World} {B g n : Nat} (h : w.there g 0 n) (hb : Below B w w') (hg : g < B) : w'.there g 0 n := by
  intro j hj
  have e := hb.block g hg
  refine ⟨?_, ?_⟩
  · rw [hb.cell (by exact hg)]; exact (h j hj).1
  · have := (h j hj).2
    unfold World.frozen? at this ⊢
    rw [e]; exact this
theorem info26s : (Try.prog.info? 26).map (·.size) = some 3 := by kernel_rfl
theorem info47s : (Try.prog.info? 47).map (·.size) = some 3 := by kernel_rfl
theorem info5 : (Try.prog.info? 5).map (fun i => (i.zero, i.size, i.bytes)) = some (some (.int .u8 0), 1, 1) := by kernel_rfl
theorem info_parts {P : Program} {t : TypeId} {a : Option Value × Nat × Nat} (h : (P.info? t).map (fun i => (i.zero, i.size, i.bytes)) = some a) : ∃ i, P.info? t = some i ∧ i.zero = a.1 ∧ i.size = a.2.1 ∧ i.bytes = a.2.2 := by
  cases hi : P.info? t with
  | none => rw [hi] at h; cases h
  | some i =>
    rw [hi] at h
    injection h with h
    subst h
    exact ⟨i, rfl, rfl, rfl, rfl⟩

/-- a value of the program: its type, its number, its text -/
abbrev VV (t n : Int) (k : Value) : Value := .agg #[.int .i64 t, .int .i64 n, k]
abbrev nilS : Value := .slice none 0 0
/-- a block of zeroes for a value -/
abbrev zO : Obj := .cells #[.int .i64 0, .int .i64 0, nilS] 26
/-- a value in the block b, which may be written -/
def At (w : World) (b : Nat) (t n : Int) (k : Value) : Prop := w.rangeAt b 0 [.int .i64 t, .int .i64 n, k] ∧ w.there b 0 3
theorem At.below {w w' : World} {B b : Nat} {t n : Int} {k : Value} (h : At w b t n k) (hb : Below B w w') (hg : b < B) : At w' b t n k := ⟨range_below h.1 hb hg, there_below h.2 hb hg⟩
theorem At.cells {w : World} {b : Nat} {t n : Int} {k : Value} (h : At w b t n k) : w.cell? ⟨b, 0, none⟩ = some (.int .i64 t) ∧ w.cell? ⟨b, 1, none⟩ = some (.int .i64 n) ∧ w.cell? ⟨b, 2, none⟩ = some k :=
  ⟨h.1 0 _ rfl, h.1 1 _ rfl, h.1 2 _ rfl⟩
theorem At.lt {w : World} {b : Nat} {t n : Int} {k : Value} (h : At w b t n k) : b < w.heap.size := World.block_lt_of_cell? w _ h.cells.1
theorem at_new (w : World) (t n : Int) (k : Value) : At (w.alloc (.cells #[.int .i64 t, .int .i64 n, k] 26)) w.heap.size t n k :=
  ⟨range_of (cs := [.int .i64 t, .int .i64 n, k]) (heap_alloc_new w _), there_cells (cs := [.int .i64 t, .int .i64 n, k]) (heap_alloc_new w _) rfl⟩
end Go.Proofs.Ytehihpfhcphdoaa
