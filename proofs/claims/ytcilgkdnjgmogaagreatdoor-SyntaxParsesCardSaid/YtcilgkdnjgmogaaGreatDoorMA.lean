/- Words of this proof for memory (a slice whose elements are known, what stays of it, an append of it, its string; rows of the call's own), and their laws; nothing of the program. -/
import Derived.WalkKit
import Derived.Laws.BytesArg
import Derived.Laws.AppendOwnNone
import Derived.Laws.BitsAllLaws
import Derived.Deep.RegionHeld3
import Derived.Deep.QuietTactic
import Derived.BigQuiet
namespace Go.Proofs.YtcilgkdnjgmogaaGreatDoor
section
open Go.RowKit
abbrev cellsOf (l : List Int) : List Value := l.map (Value.int .u8)
theorem addr_block (a : Addr) (n : Nat) : (a.add n).block = a.block := by unfold Addr.add; split <;> rfl
def Lies (w : World) (B : Nat) (A : Option Addr) (c : Nat) (l : List Value) : Prop :=
 (A = none → c = 0) ∧ ∀ j u, l[j]? = some u → ∃ ad, A = some ad ∧ ad.block < B ∧ w.cell? (ad.add j) = some u
theorem Lies.nothing (w : World) (B : Nat) : Lies w B none 0 [] := ⟨fun _ => rfl, fun j u h => by simp at h⟩
theorem Lies.below {w w' : World} {B : Nat} {A : Option Addr} {c : Nat} {l : List Value} (h : Lies w B A c l) (hb : Below B w w') : Lies w' B A c l :=
 ⟨h.1, fun j u hu => by
  obtain ⟨ad, e, hB, hc⟩ := h.2 j u hu
  exact ⟨ad, e, hB, by rw [hb.cell (by rw [addr_block]; exact hB)]; exact hc⟩⟩
theorem Lies.more {w : World} {B B' : Nat} {A : Option Addr} {c : Nat} {l : List Value} (h : Lies w B A c l) (hB : B ≤ B') : Lies w B' A c l :=
 ⟨h.1, fun j u hu => by
  obtain ⟨ad, e, hb, hc⟩ := h.2 j u hu
  exact ⟨ad, e, by omega, hc⟩⟩
theorem Lies.none_nil {w : World} {B : Nat} {c : Nat} {l : List Value} (h : Lies w B none c l) : l = [] ∧ c = 0 := by
 refine ⟨?_, h.1 rfl⟩
 cases l with
 | nil => rfl
 | cons x r =>
  obtain ⟨ad, e, _⟩ := h.2 0 x rfl
  cases e
theorem own_lies {w : World} {base : Nat} {e : TypeId} {v : Value} {n : Nat} {xs : List Value} (h : w.ownsRow base e 1 v n xs) :
  ∃ A c, v = .slice A n c ∧ n ≤ c ∧ c ≤ maxLen ∧ Lies w w.heap.size A c xs := by
 rcases h.2 with ⟨rfl, rfl⟩ | ⟨g, cap, cur, rfl, hb, hg, hn, hm, hs, ht⟩
 ·have : xs = [] := List.eq_nil_of_length_eq_zero (by simpa using h.1)
  subst this
  exact ⟨none, 0, rfl, Nat.le_refl _, Nat.zero_le _, Lies.nothing _ _⟩
 ·exact ⟨_, _, rfl, hn, hm, (fun e => by cases e), fun j u hu => ⟨_, rfl, (h.lt g rfl).2, h.cells rfl j u hu⟩⟩
theorem wpList_append_lies {P : Program} {w : World} {ops : Array Oper} {rest : List Oper} {o : Oper} {a : Act} {Q : Exit → Act → World → Prop} (hgd : o.guard = none) (s x : Operand) (t : TypeId)
  (ho : o.op = .call { callee := .builtin .append, args := #[s, x], argTypes := #[t, t] })
  (base : Nat) (e : TypeId) (i : TypeInfo) (z : Value) (bytes : Nat) (ht : P.underlying t = some (.slice e)) (hi : P.info? e = some i) (hz : i.zero = some z)
  (hsize : i.size = 1) (hby : i.bytes = bytes) (hzs : z.cells.size = 1)
  (v : Value) (n : Nat) (xs : List Value) (hs : a.eval s = v) (hown : w.ownsRow base e 1 v n xs)
  (B : Nat) (A : Option Addr) (m c : Nat) (news : List Value) (hx : a.eval x = .slice A m c) (hm : news.length = m) (hr : Lies w B A c news) (h1 : ∀ u ∈ news, u.oneCell' = true)
  (h63 : n + m ≤ maxLen) (hbytes : (n + m) * bytes ≤ 140737488355328) (hbase : base ≤ w.heap.size)
  (h : ∀ v' w', w'.ownsRow base e 1 v' (n + m) (xs ++ news) → w.grownBy w' v.ownBlock → wpList P ops Q rest (a.put o.dst v') w') : wpList P ops Q (o :: rest) a w := by
 cases A with
 | none =>
  obtain ⟨rfl, rfl⟩ := hr.none_nil
  have hm0 : m = 0 := by simpa using hm.symm
  subst hm0
  exact wpList_append_own_none hgd s x t ho base e i 1 ht hi v n xs hs hown hx (h v w (by simpa using hown) (World.grownBy.refl _ _))
 | some ad =>
  refine wpList_append_own w hgd s x t ho base e i z 1 bytes ht hi hz hsize hby hzs (by omega) v n xs hs hown ad m c news hx (by omega) (fun j u hu => ?_) h1 h63 hbytes hbase (fun v' w' h2 h3 _ => h v' w' h2 h3)
  obtain ⟨ad', e', _, hc⟩ := hr.2 j u hu
  injection e' with e'
  subst e'
  exact hc
theorem bytes_oneCell (l : List Int) : ∀ u ∈ cellsOf l, u.oneCell' = true := ints_oneCell .u8 l
theorem run_string_lies {P : Program} (w : World) (src dst e : TypeId) (hs : P.underlying src = some (.slice e)) (he : P.underlying e = some (.int .u8)) (hd : P.underlying dst = some .string)
  (B : Nat) (A : Option Addr) (n c : Nat) (l : List Int) (hn : l.length = n) (hr : Lies w B A c (cellsOf l)) :
  (convert src dst (.slice A n c)).run P w = .ok (.string (strOfNums l)) w := by
 subst hn
 cases A with
 | none =>
  have h := hr.none_nil.1
  have hl : l = [] := by simpa using h
  subst hl
  exact run_convert_bytes_nil w src e hs he _ _ dst hd
 | some ad =>
  have hl := run_loadCells_list (P := P) w ad (cellsOf l) (fun j u hu => by
   obtain ⟨ad', e', _, hc⟩ := hr.2 j u hu
   injection e' with e'
   subst e'
   exact hc)
  simp only [List.length_map] at hl
  rw [run_convert_bytes_string w src dst e _ _ c hs he hd, run_bytesToString w _ _ c l hl, foldl_push_bytes]
  simp [strOfNums, ByteArray.empty, ByteArray.emptyWithCapacity]
  rfl
theorem addr_add (a : Addr) (i j : Nat) : (a.add i).add j = a.add (i + j) := by
 unfold Addr.add
 by_cases hi : i = 0 <;> by_cases hj : j = 0 <;> simp [hi, hj, Nat.add_assoc]
theorem Lies.cut {w : World} {B : Nat} {A : Option Addr} {c : Nat} {l : List Int} (h : Lies w B A c (cellsOf l)) {p : Nat} (hc : l.length ≤ c) :
  Lies w B (if c = p then A else A.map (fun x => x.add p)) (c - p) (cellsOf (l.drop p)) := by
 refine ⟨fun e => ?_, fun j u hu => ?_⟩
 ·split at e
  ·omega
  ·have : A = none := by simpa using e
   have := h.1 this
   omega
 ·have hu' : (cellsOf l)[p + j]? = some u := by simpa [cellsOf, List.getElem?_drop] using hu
  have hj : p + j < l.length := by
   have := (List.getElem?_eq_some_iff.1 hu').1
   simpa using this
  obtain ⟨ad, rfl, hB, hcell⟩ := h.2 (p + j) u hu'
  rw [if_neg (by omega)]
  exact ⟨ad.add p, rfl, by rw [addr_block]; exact hB, by rw [addr_add]; exact hcell⟩
theorem Lies.mid {w : World} {B : Nat} {A : Option Addr} {c : Nat} {l : List Int} (h : Lies w B A c (cellsOf l)) {p n : Nat} (hc : l.length ≤ c) :
  Lies w B (if c = p then A else A.map (fun x => x.add p)) (c - p) (cellsOf ((l.drop p).take n)) := by
 refine ⟨(h.cut hc).1, fun j u hu => (h.cut hc).2 j u ?_⟩
 have hj : j < n := by
  have := (List.getElem?_eq_some_iff.1 hu).1
  simp at this
  omega
 simpa [cellsOf, List.getElem?_take, hj] using hu
theorem Lies.pre {w : World} {B : Nat} {A : Option Addr} {c : Nat} {l : List Int} (h : Lies w B A c (cellsOf l)) (t : Nat) : Lies w B A c (cellsOf (l.take t)) := by
 refine ⟨h.1, fun j u hu => h.2 j u ?_⟩
 have hj : j < t := by
  have := (List.getElem?_eq_some_iff.1 hu).1
  simp at this
  omega
 simpa [cellsOf, List.getElem?_take, hj] using hu
theorem own_below {w w' : World} {base : Nat} {e : TypeId} {size : Nat} {v : Value} {n : Nat} {xs : List Value} {B : Nat} (h : w.ownsRow base e size v n xs) (hb : Below B w w') (hB : w.heap.size ≤ B) : w'.ownsRow base e size v n xs := by
 refine ⟨h.1, ?_⟩
 rcases h.2 with h' | ⟨g, cap, cur, rfl, h1, hg, rest⟩
 ·exact .inl h'
 ·refine .inr ⟨g, cap, cur, rfl, h1, ?_, rest⟩
  rw [hb.block g (Nat.lt_of_lt_of_le (h.lt g rfl).2 hB)]
  exact hg
theorem own_mono {w : World} {base base' : Nat} {e : TypeId} {size : Nat} {v : Value} {n : Nat} {xs : List Value} (h : w.ownsRow base e size v n xs) (hb : base' ≤ base) : w.ownsRow base' e size v n xs := by
 refine ⟨h.1, ?_⟩
 rcases h.2 with h' | ⟨g, cap, cur, hv, h1, rest⟩
 ·exact .inl h'
 ·exact .inr ⟨g, cap, cur, hv, by omega, rest⟩
theorem own_eq {w : World} {base : Nat} {e : TypeId} {v : Value} {n m : Nat} {xs ys : List Value} (h : w.ownsRow base e 1 v n xs) (hn : n = m) (hx : xs = ys) : w.ownsRow base e 1 v m ys := by
 subst hn hx
 exact h
theorem grown_trans {w w' w'' : World} {r : Option Nat} (h1 : w.grownBy w' r) (h2 : w'.grownBy w'' r) : w.grownBy w'' r :=
 ⟨h2.os.trans h1.os, h2.tape.trans h1.tape, h2.output.trans h1.output, Nat.le_trans h1.size h2.size, fun k hk hr => (h2.block k (Nat.lt_of_lt_of_le hk h1.size) hr).trans (h1.block k hk hr)⟩
theorem own_kept' {w w' : World} {base : Nat} {row : Option Nat} {e : TypeId} {v : Value} {n : Nat} {xs : List Value} (h : w.ownsRow base e 1 v n xs) (hg : w.grownBy w' row) (hlt : ∀ g, row = some g → g < base) : w'.ownsRow base e 1 v n xs := by
 refine h.kept hg ?_
 cases hv : v.ownBlock with
 | none => exact .inl rfl
 | some k =>
  refine .inr fun e => ?_
  have h1 := (h.lt k hv).1
  have h2 := hlt k e.symm
  omega
theorem own_addr {w : World} {base : Nat} {A : Option Addr} {n c : Nat} {xs : List Value} (h : w.ownsRow base 5 1 (.slice A n c) n xs) (hn : 0 < n) : ∃ g, A = some ⟨g, 0, none⟩ ∧ base ≤ g := by
 rcases h.2 with ⟨e, h0⟩ | ⟨g, cap, cur, e, hb, _⟩
 ·omega
 ·injection e with e1
  exact ⟨g, e1, hb⟩
theorem below_drewN {B : Nat} {a w : World} (h : Below B a w) (n : Nat) : Below B a (w.drewN n) := ⟨h.os, h.tape, h.output, h.size, h.block⟩
theorem held_mono {P : Program} {md : Region.Mode} {ops : Array Oper} {Q : Exit → Act → World → Prop} {S S' : World → Prop} (hS : ∀ w, S w → S' w) :
  ∀ (fuel : Nat) (listed : Array Bool) (a : Act) (w : World), wpAnyH P md ops Q S fuel listed a w → wpAnyH P md ops Q S' fuel listed a w
 | 0, _, _, _, h => h
 | fuel + 1, _, _, _, h => ⟨h.1, fun i hi => wpOp_mono (fun a' w' h' => ⟨hS w' h'.1, held_mono hS fuel _ a' w' h'.2⟩) (h.2 i hi)⟩
def Byt (l : List Int) : Prop := ∀ b ∈ l, 0 ≤ b ∧ b < 256
theorem Byt.nil : Byt [] := by intro b hb; cases hb
theorem Byt.append {a b : List Int} (ha : Byt a) (hb : Byt b) : Byt (a ++ b) := by
 intro x hx
 rcases List.mem_append.1 hx with h | h
 ·exact ha x h
 ·exact hb x h
theorem Byt.sub {a b : List Int} (hb : Byt b) (h : ∀ x ∈ a, x ∈ b) : Byt a := fun x hx => hb x (h x hx)
theorem wpList_wanted {P : Program} {ops : Array Oper} {Q : Exit → Act → World → Prop} {rest : List Oper} {o : Oper} {a : Act} {w : World} (hw : Region.wanted o (yielded ops a.tmps) = true)
  (h : wpList P ops Q ({ o with guard := none } :: rest) a w) : wpList P ops Q (o :: rest) a w := by
 unfold wpList at h ⊢
 have hw' : Region.wanted { o with guard := none } (yielded ops a.tmps) = true := rfl
 rw [if_pos hw]
 rw [if_pos hw'] at h
 exact h
end
section
open Go.RowKit
abbrev ints (l : List Nat) : List Int := l.map Int.ofNat
def bts (l : List Nat) : List Value := cellsOf (ints l)
def Byn (l : List Nat) : Prop := ∀ b ∈ l, b < 256
def strN (l : List Nat) : ByteArray := strOfNums (ints l)
theorem Byn.byt {l : List Nat} (h : Byn l) : Byt (ints l) := by
 intro b hb
 obtain ⟨x, hx, rfl⟩ := List.mem_map.1 hb
 have := h x hx
 simp
 omega
theorem Byn.append {a b : List Nat} (ha : Byn a) (hb : Byn b) : Byn (a ++ b) := by
 intro x hx
 rcases List.mem_append.1 hx with h | h
 ·exact ha x h
 ·exact hb x h
theorem Byn.sub {a b : List Nat} (hb : Byn b) (h : ∀ x ∈ a, x ∈ b) : Byn a := fun x hx => hb x (h x hx)
theorem bts_length (l : List Nat) : (bts l).length = l.length := by simp [bts]
theorem bts_append (a b : List Nat) : bts (a ++ b) = bts a ++ bts b := by simp [bts, ints]
theorem bts_get {l : List Nat} {k b : Nat} (h : l[k]? = some b) : (bts l)[k]? = some (.int .u8 (b : Nat)) := by simp [bts, h]
theorem bts_one (l : List Nat) : ∀ u ∈ bts l, u.oneCell' = true := bytes_oneCell _
theorem Lies.nat {w : World} {B : Nat} {A : Option Addr} {c : Nat} {l : List Nat} (h : Lies w B A c (bts l)) {k : Nat} (hk : k < l.length) :
  ∃ (ad : Addr) (b : Nat), A = some ad ∧ ad.block < B ∧ l[k]? = some b ∧ w.cell? (ad.add k) = some (.int .u8 (b : Nat)) := by
 have hl : l[k]? = some l[k] := List.getElem?_eq_getElem hk
 obtain ⟨ad, h1, h2, h3⟩ := h.2 k _ (bts_get hl)
 exact ⟨ad, _, h1, h2, hl, h3⟩
theorem byn_get {l : List Nat} (h : Byn l) {k b : Nat} (hb : l[k]? = some b) : b < 256 := h b (List.mem_of_getElem? hb)
theorem Lies.midN {w : World} {B : Nat} {A : Option Addr} {c : Nat} {l : List Nat} (h : Lies w B A c (bts l)) {p n : Nat} (hc : l.length ≤ c) :
  Lies w B (if c = p then A else A.map (fun x => x.add p)) (c - p) (bts ((l.drop p).take n)) := by
 have := Lies.mid h (p := p) (n := n) (by simpa using hc)
 simpa [bts, List.map_take, List.map_drop] using this
theorem Lies.cutN {w : World} {B : Nat} {A : Option Addr} {c : Nat} {l : List Nat} (h : Lies w B A c (bts l)) {p : Nat} (hc : l.length ≤ c) :
  Lies w B (if c = p then A else A.map (fun x => x.add p)) (c - p) (bts (l.drop p)) := by
 have := Lies.cut h (p := p) (by simpa using hc)
 simpa [bts, List.map_take, List.map_drop] using this
theorem strN_data (l : List Nat) : (strN l).data = (l.map UInt8.ofNat).toArray := by
 simp [strN, strOfNums, Function.comp_def]
theorem strN_size (l : List Nat) : (strN l).size = l.length := by
 show (strN l).data.size = _
 rw [strN_data]
 simp
theorem strN_inj {a b : List Nat} (ha : Byn a) (hb : Byn b) (h : strN a = strN b) : a = b := by
 have h1 : (strN a).data = (strN b).data := by rw [h]
 rw [strN_data, strN_data] at h1
 have h2 : a.map UInt8.ofNat = b.map UInt8.ofNat := by simpa using h1
 have h3 := congrArg (List.map UInt8.toNat) h2
 simp only [List.map_map] at h3
 have fa : a.map (UInt8.toNat ∘ UInt8.ofNat) = a := by
  conv => rhs; rw [← List.map_id a]
  refine List.map_congr_left fun x hx => ?_
  have := ha x hx
  simp
  omega
 have fb : b.map (UInt8.toNat ∘ UInt8.ofNat) = b := by
  conv => rhs; rw [← List.map_id b]
  refine List.map_congr_left fun x hx => ?_
  have := hb x hx
  simp
  omega
 rwa [fa, fb] at h3
theorem strN_of (s : ByteArray) : ∃ l : List Nat, Byn l ∧ s = strN l := by
 refine ⟨s.data.toList.map UInt8.toNat, fun b hb => ?_, ?_⟩
 ·obtain ⟨x, _, rfl⟩ := List.mem_map.1 hb
  exact x.toNat_lt
 ·apply ByteArray.ext
  rw [strN_data]
  simp [Function.comp_def]
theorem strN_append (a b : List Nat) : strN a ++ strN b = strN (a ++ b) := by
 apply ByteArray.ext
 rw [strN_data, ByteArray.data_append, strN_data, strN_data]
 simp
theorem strN_eq {a b : List Nat} (ha : Byn a) (hb : Byn b) : ((strN a).toList == (strN b).toList) = decide (a = b) := by
 rw [Bool.eq_iff_iff]
 simp only [beq_iff_eq, decide_eq_true_eq]
 constructor
 ·intro h
  rw [ByteArray.toList_eq, ByteArray.toList_eq] at h
  exact strN_inj ha hb (ByteArray.ext (by simpa using h))
 ·intro h
  rw [h]
end
section
def letterB (b : Nat) : Bool := decide (97 ≤ b) && decide (b ≤ 122)
def digitB (b : Nat) : Bool := decide (48 ≤ b) && decide (b ≤ 57)
def nameB (b : Nat) : Bool := letterB b || digitB b || decide (b = 95)
def textB (b : Nat) : Bool := decide (32 ≤ b) && decide (b ≤ 126) && decide (b ≠ 34) && decide (b ≠ 92)
def blankB (b : Nat) : Bool := decide (b = 9) || decide (b = 10) || decide (b = 13) || decide (b = 32)
def run (p : Nat → Bool) : List Nat → Nat
 | [] => 0
 | b :: r => if p b then run p r + 1 else 0
theorem run_le (p : Nat → Bool) : ∀ l, run p l ≤ l.length
 | [] => Nat.le_refl _
 | b :: r => by
  unfold run
  have := run_le p r
  split
  ·simp; omega
  ·exact Nat.zero_le _
theorem run_stop (p : Nat → Bool) : ∀ l b, l[run p l]? = some b → p b = false
 | [], b, h => by simp at h
 | c :: r, b, h => by
  unfold run at h
  by_cases hp : p c = true
  ·rw [if_pos hp] at h
   exact run_stop p r b (by simpa using h)
  ·rw [if_neg hp] at h
   simp at h
   subst h
   simpa using hp
theorem run_all (p : Nat → Bool) : ∀ l : List Nat, ∀ b ∈ l.take (run p l), p b = true
 | [], b, h => by simp at h
 | c :: r, b, h => by
  unfold run at h
  by_cases hp : p c = true
  ·rw [if_pos hp, List.take_succ_cons] at h
   rcases List.mem_cons.1 h with rfl | h
   ·exact hp
   ·exact run_all p r b h
  ·rw [if_neg hp] at h
   simp at h
theorem run_append (p : Nat → Bool) (b : Nat) (hb : p b = false) (c : List Nat) : ∀ r, run p (r ++ b :: c) = run p r
 | [] => by simp [run, hb]
 | x :: r => by
  simp only [List.cons_append, run]
  rw [run_append p b hb c r]
theorem run_every (p : Nat → Bool) : ∀ r, (∀ b ∈ r, p b = true) → run p r = r.length
 | [], _ => rfl
 | x :: r, h => by
  simp only [run, h x (by simp), if_true, List.length_cons]
  rw [run_every p r fun b hb => h b (by simp [hb])]
def white : Bool → List Nat → Nat
 | _, [] => 0
 | c, b :: r => if ((b == 35 || (c && b != 10)) || blankB b) then white (b == 35 || (c && b != 10)) r + 1 else 0
theorem white_le : ∀ c l, white c l ≤ l.length
 | _, [] => Nat.le_refl _
 | c, b :: r => by
  unfold white
  have := white_le (b == 35 || (c && b != 10)) r
  split
  ·simp; omega
  ·exact Nat.zero_le _
def wordsN : List (List Nat) := [[102, 110], [108, 101, 116], [105, 102], [101, 108, 115, 101], [102, 111, 114], [116, 111], [114, 101, 116, 117, 114, 110], [112, 117, 116], [100, 101, 108], [103, 101, 116], [104, 97, 115], [108, 101, 110], [116, 114, 117, 101], [102, 97, 108, 115, 101], [105, 110, 116], [98, 111, 111, 108], [98, 121, 116, 101, 115]]
def twos : List (List Nat) := [[61, 61], [33, 61], [60, 61], [62, 61], [38, 38], [124, 124]]
def ones : List (List Nat) := [[40], [41], [123], [125], [44], [59], [58], [61], [60], [62], [43], [45], [42], [47], [37], [33]]
def signsN : List (List Nat) := twos ++ ones
def isWord (s : List Nat) : Bool := wordsN.contains s
structure Read where
 err : Nat
 kind : Nat
 text : List Nat
 num : Nat
 len : Nat
def bad (e : Nat) : Read := ⟨e, 0, [], 0, 0⟩
def nameT (r : List Nat) : Read :=
 if run nameB r > 16 then bad 32 else ⟨0, bif isWord (r.take (run nameB r)) then 4 else 1, r.take (run nameB r), 0, run nameB r⟩
def value : List Nat → Nat → Option Nat
 | [], n => some n
 | d :: r, n => if n > (9223372036854775807 - (d - 48)) / 10 then none else value r (n * 10 + (d - 48))
def numT (r : List Nat) : Read :=
 match value (r.take (run digitB r)) 0 with
 | none => bad 32
 | some v => ⟨0, 2, [], v, run digitB r⟩
def textT (r : List Nat) : Read :=
 if (r.drop 1)[run textB (r.drop 1)]? = some 34 then
  (if run textB (r.drop 1) > 64 then bad 32 else ⟨0, 3, (r.drop 1).take (run textB (r.drop 1)), 0, run textB (r.drop 1) + 2⟩)
 else bad 31
def signOf (r : List Nat) : List Nat := if twos.contains (r.take 2) then r.take 2 else if ones.contains (r.take 1) then r.take 1 else []
def signT (r : List Nat) : Read := if signOf r = [] then bad 31 else ⟨0, 4, signOf r, 0, (signOf r).length⟩
def readT (r : List Nat) : Read :=
 match r with
 | [] => bad 31
 | b :: _ => if letterB b then nameT r else if digitB b then numT r else if b = 34 then textT r else signT r
structure Tok where
 kind : Nat
 text : List Nat
 num : Nat
 place : Nat
def skip (l : List Nat) (p : Nat) : Nat := p + white false (l.drop p)
structure Out where
 err : Nat
 toks : List Tok
 place : Nat
def steps (l : List Nat) : Nat → Nat → List Tok → Out
 | 0, _, ts => ⟨0, ts, 0⟩
 | f + 1, p, ts =>
  if p < l.length then
   if (readT (l.drop p)).err ≠ 0 then ⟨(readT (l.drop p)).err, [], p⟩
   else if ts.length = 2048 then ⟨2, [], p⟩
   else steps l f (skip l (p + (readT (l.drop p)).len)) (ts ++ [⟨(readT (l.drop p)).kind, (readT (l.drop p)).text, (readT (l.drop p)).num, p⟩])
  else ⟨0, ts, 0⟩
def lexed (l : List Nat) : Out := if l.length > 4096 then ⟨2, [], 0⟩ else steps l (l.length + 1) (skip l 0) []
theorem skip_ge (l : List Nat) (p : Nat) : p ≤ skip l p := Nat.le_add_right _ _
theorem skip_le (l : List Nat) (p : Nat) (h : p ≤ l.length) : skip l p ≤ l.length := by
 unfold skip
 have := white_le false (l.drop p)
 simp at this
 omega
theorem signOf_le (r : List Nat) : (signOf r).length ≤ r.length := by
 unfold signOf
 repeat' split
 all_goals simp
 all_goals omega
theorem readT_cons (b : Nat) (r : List Nat) : readT (b :: r) = if letterB b then nameT (b :: r) else if digitB b then numT (b :: r) else if b = 34 then textT (b :: r) else signT (b :: r) := rfl
theorem read_len (r : List Nat) (h : (readT r).err = 0) : 1 ≤ (readT r).len ∧ (readT r).len ≤ r.length := by
 cases r with
 | nil => simp [readT, bad] at h
 | cons b r =>
  rw [readT_cons] at h ⊢
  by_cases h1 : letterB b = true
  ·simp only [h1, if_true] at h ⊢
   have hr : run nameB (b :: r) = run nameB r + 1 := by simp [run, nameB, h1]
   have hl := run_le nameB (b :: r)
   unfold nameT at h ⊢
   split at h
   ·simp [bad] at h
   ·rename_i hn
    rw [if_neg hn]
    dsimp only
    omega
  ·rw [if_neg h1] at h ⊢
   by_cases h2 : digitB b = true
   ·simp only [h2, if_true] at h ⊢
    have hr : run digitB (b :: r) = run digitB r + 1 := by simp [run, h2]
    have hl := run_le digitB (b :: r)
    unfold numT at h ⊢
    cases hv : value (List.take (run digitB (b :: r)) (b :: r)) 0 with
    | none => rw [hv] at h; simp [bad] at h
    | some v => dsimp only; omega
   ·rw [if_neg h2] at h ⊢
    by_cases h3 : b = 34
    ·simp only [h3, if_true] at h ⊢
     unfold textT at h ⊢
     simp only [List.drop_succ_cons, List.drop_zero] at h ⊢
     split at h
     ·rename_i hq
      rw [if_pos hq]
      split at h
      ·simp [bad] at h
      ·rename_i hn
       rw [if_neg hn]
       have := (List.getElem?_eq_some_iff.1 hq).1
       simp
       omega
     ·simp [bad] at h
    ·rw [if_neg h3] at h ⊢
     have hl := signOf_le (b :: r)
     unfold signT at h ⊢
     split at h
     ·simp [bad] at h
     ·rename_i hn
      rw [if_neg hn]
      dsimp only
      have := List.length_pos_iff.2 hn
      omega
theorem steps_more (l : List Nat) : ∀ (f g p : Nat) (ts : List Tok), l.length - p < f → l.length - p < g → steps l f p ts = steps l g p ts
 | 0, _, _, _, h, _ => by omega
 | _, 0, _, _, _, h => by omega
 | f + 1, g + 1, p, ts, hf, hg => by
  unfold steps
  split
  ·split
   ·rfl
   ·rename_i hp he
    split
    ·rfl
    ·have h1 := read_len (l.drop p) (by simpa using he)
     have h2 := skip_ge l (p + (readT (l.drop p)).len)
     exact steps_more l f g _ _ (by omega) (by omega)
  ·rfl
def rest (l : List Nat) (p : Nat) (ts : List Tok) : Out := steps l (l.length - p + 1) p ts
theorem lexed_rest {l : List Nat} (h : l.length ≤ 4096) : lexed l = rest l (skip l 0) [] := by
 unfold lexed rest
 rw [if_neg (by omega)]
 exact steps_more l _ _ _ _ (by have := skip_ge l 0; omega) (by omega)
theorem rest_end {l : List Nat} {p : Nat} (ts : List Tok) (h : l.length ≤ p) : rest l p ts = ⟨0, ts, 0⟩ := by
 unfold rest steps
 rw [if_neg (by omega)]
theorem rest_bad {l : List Nat} {p : Nat} (ts : List Tok) (h : p < l.length) (he : (readT (l.drop p)).err ≠ 0) : rest l p ts = ⟨(readT (l.drop p)).err, [], p⟩ := by
 unfold rest steps
 rw [if_pos h, if_pos he]
theorem rest_many {l : List Nat} {p : Nat} {ts : List Tok} (h : p < l.length) (he : (readT (l.drop p)).err = 0) (ht : ts.length = 2048) : rest l p ts = ⟨2, [], p⟩ := by
 unfold rest steps
 rw [if_pos h, if_neg (by simpa using he), if_pos ht]
theorem rest_next {l : List Nat} {p : Nat} {ts : List Tok} (h : p < l.length) (he : (readT (l.drop p)).err = 0) (ht : ts.length ≠ 2048) :
  rest l p ts = rest l (skip l (p + (readT (l.drop p)).len)) (ts ++ [⟨(readT (l.drop p)).kind, (readT (l.drop p)).text, (readT (l.drop p)).num, p⟩]) := by
 have h1 := read_len (l.drop p) he
 have h2 := skip_ge l (p + (readT (l.drop p)).len)
 conv => lhs; unfold rest steps
 rw [if_pos h, if_neg (by simpa using he), if_neg ht]
 exact steps_more l _ _ _ _ (by omega) (by omega)
end
section
inductive Ex where
 | mk (op num : Nat) (text : List Nat) (kids : List Ex) (place : Nat)
def Ex.op : Ex → Nat | .mk o _ _ _ _ => o
def Ex.num : Ex → Nat | .mk _ n _ _ _ => n
def Ex.text : Ex → List Nat | .mk _ _ t _ _ => t
def Ex.kids : Ex → List Ex | .mk _ _ _ k _ => k
def Ex.place : Ex → Nat | .mk _ _ _ _ p => p
inductive St where
 | mk (op : Nat) (text : List Nat) (exprs : List Ex) (body els : List St) (place : Nat)
def St.op : St → Nat | .mk o _ _ _ _ _ => o
def St.text : St → List Nat | .mk _ t _ _ _ _ => t
def St.exprs : St → List Ex | .mk _ _ e _ _ _ => e
def St.body : St → List St | .mk _ _ _ b _ _ => b
def St.els : St → List St | .mk _ _ _ _ b _ => b
def St.place : St → Nat | .mk _ _ _ _ _ p => p
structure Fu where
 name : List Nat
 params : List (List Nat × Nat)
 result : Nat
 body : List St
 place : Nat
inductive Res (α : Type) where
 | ok (v : α) (rest : List Tok)
 | bad (code place : Nat)
abbrev Par (α : Type) := List Tok → Res α
def Res.bind {α β : Type} (r : Res α) (f : α → List Tok → Res β) : Res β :=
 match r with
 | .ok v rest => f v rest
 | .bad c p => .bad c p
@[simp] theorem Res.bind_ok {α β : Type} (v : α) (r : List Tok) (f : α → List Tok → Res β) : (Res.ok v r).bind f = f v r := rfl
@[simp] theorem Res.bind_bad {α β : Type} (c p : Nat) (f : α → List Tok → Res β) : (Res.bad c p : Res α).bind f = .bad c p := rfl
def Shrinks {α : Type} (p : Par α) : Prop := ∀ ts v r, p ts = .ok v r → r.length ≤ ts.length
def Takes {α : Type} (p : Par α) : Prop := ∀ ts v r, p ts = .ok v r → r.length < ts.length
def noTok (z : Nat) : Tok := ⟨0, [], 0, z⟩
def peekT (z : Nat) : List Tok → Tok
 | [] => noTok z
 | t :: _ => t
def isOne (ss : List (List Nat)) (t : Tok) : Bool := decide (t.kind = 4) && ss.contains t.text
def seesT (z : Nat) (ss : List (List Nat)) (ts : List Tok) : Bool := isOne ss (peekT z ts)
def failT {α : Type} (z c : Nat) (ts : List Tok) : Res α := .bad c (peekT z ts).place
def takeT (z k : Nat) (ts : List Tok) : Res Tok := if (peekT z ts).kind = k then .ok (peekT z ts) ts.tail else failT z 41 ts
def wantT (z : Nat) (s : List Nat) (ts : List Tok) : Res Unit := if seesT z [s] ts then .ok () ts.tail else failT z 41 ts
def nameP (z : Nat) (ts : List Tok) : Res (List Nat) := (takeT z 1 ts).bind fun t r => .ok t.text r
def moreG (z : Nat) (ss : List (List Nat)) (p : Par Ex) : Nat → Ex → Par Ex
 | 0, x, ts => .ok x ts
 | f + 1, x, ts => if seesT z ss ts then (p ts.tail).bind fun y r => moreG z ss p f (.mk 6 0 (peekT z ts).text [x, y] (peekT z ts).place) r else .ok x ts
def groupedP (z : Nat) (ss : List (List Nat)) (p : Par Ex) : Par Ex := fun ts => (p ts).bind fun x r => moreG z ss p r.length x r
def joinedP (z : Nat) (p : Par Ex) (x : Ex) : Par Ex := fun ts => (takeT z 4 ts).bind fun t r => (p r).bind fun y r' => .ok (.mk 6 0 t.text [x, y] t.place) r'
def sOr : List (List Nat) := [[124, 124]]
def sAnd : List (List Nat) := [[38, 38]]
def sCmp : List (List Nat) := [[61, 61], [33, 61], [60], [60, 61], [62], [62, 61]]
def sSum : List (List Nat) := [[43], [45]]
def sProd : List (List Nat) := [[42], [47], [37]]
def sOne : List (List Nat) := [[45], [33]]
def sumP (z : Nat) (one : Par Ex) : Par Ex := groupedP z sSum (groupedP z sProd one)
def compareP (z : Nat) (one : Par Ex) : Par Ex := fun ts => (sumP z one ts).bind fun x r => if seesT z sCmp r then joinedP z (sumP z one) x r else .ok x r
def levelsP (z : Nat) (one : Par Ex) : Par Ex := groupedP z sOr (groupedP z sAnd (compareP z one))
def moreL {α : Type} (z : Nat) (p : Par α) : Nat → List α → Par (List α)
 | 0, l, ts => (wantT z [41] ts).bind fun _ r => .ok l r
 | f + 1, l, ts => if seesT z [[44]] ts then (p ts.tail).bind fun y r => moreL z p f (l ++ [y]) r else (wantT z [41] ts).bind fun _ r => .ok l r
def listP {α : Type} (z : Nat) (p : Par α) : Par (List α) := fun ts =>
 (wantT z [40] ts).bind fun _ r => if seesT z [[41]] r then .ok [] r.tail else (p r).bind fun x r' => moreL z p r'.length [x] r'
def enclosedP (z : Nat) (e : Par Ex) : Par (List Ex) := fun ts => (wantT z [40] ts).bind fun _ r => (e r).bind fun x r' => (wantT z [41] r').bind fun _ r'' => .ok [x] r''
def pairP (z : Nat) (e : Par Ex) : Par (List Ex) := fun ts => (wantT z [40] ts).bind fun _ r => (e r).bind fun x r' => (wantT z [44] r').bind fun _ r'' => (e r'').bind fun y q => (wantT z [41] q).bind fun _ q' => .ok [x, y] q'
def namedP (z : Nat) (e : Par Ex) : Par Ex := fun ts => (takeT z 1 ts).bind fun t r =>
 if seesT z [[40]] r then (listP z e r).bind fun l r' => .ok (.mk 5 0 t.text l t.place) r' else .ok (.mk 4 0 t.text [] t.place) r
def wordedP (z : Nat) (e : Par Ex) : Par Ex := fun ts =>
 if seesT z [[116, 114, 117, 101]] ts then .ok (.mk 2 1 [] [] 0) ts.tail
 else if seesT z [[102, 97, 108, 115, 101]] ts then .ok (.mk 2 0 [] [] 0) ts.tail
 else if seesT z [[103, 101, 116]] ts then (enclosedP z e ts.tail).bind fun l r => .ok (.mk 8 0 [] l 0) r
 else if seesT z [[104, 97, 115]] ts then (enclosedP z e ts.tail).bind fun l r => .ok (.mk 9 0 [] l 0) r
 else (wantT z [108, 101, 110] ts).bind fun _ q => (enclosedP z e q).bind fun l r => .ok (.mk 10 0 [] l 0) r
def Ex.at (e : Ex) (p : Nat) : Ex := .mk e.op e.num e.text e.kids p
def primaryP (z : Nat) (e : Par Ex) : Par Ex := fun ts =>
 if (peekT z ts).kind = 2 then .ok (.mk 1 (peekT z ts).num [] [] (peekT z ts).place) ts.tail
 else if (peekT z ts).kind = 3 then .ok (.mk 3 0 (peekT z ts).text [] (peekT z ts).place) ts.tail
 else if (peekT z ts).kind = 1 then namedP z e ts
 else if seesT z [[40]] ts then (enclosedP z e ts).bind fun l r => .ok (l.headD (.mk 0 0 [] [] 0)) r
 else (wordedP z e ts).bind fun x r => .ok (x.at (peekT z ts).place) r
def oneS (z : Nat) (e o : Par Ex) : Par Ex := fun ts =>
 if seesT z sOne ts then (o ts.tail).bind fun x r => .ok (.mk 7 0 (peekT z ts).text [x] (peekT z ts).place) r else primaryP z e ts
def both (z : Nat) : Nat → Par Ex × Par Ex
 | 0 => (fun ts => failT z 42 ts, fun ts => failT z 42 ts)
 | g + 1 => (levelsP z (oneS z (both z g).1 (both z g).2), oneS z (both z g).1 (both z g).2)
def exprP (z g : Nat) : Par Ex := (both z g).1
def oneP (z g : Nat) : Par Ex := (both z g).2
def typeP (z : Nat) : Par Nat := fun ts =>
 if seesT z [[105, 110, 116]] ts then .ok 1 ts.tail else if seesT z [[98, 111, 111, 108]] ts then .ok 2 ts.tail
 else (wantT z [98, 121, 116, 101, 115] ts).bind fun _ r => .ok 3 r
def setP (z : Nat) (e : Par Ex) : Par (List Nat × Ex) := fun ts => (nameP z ts).bind fun s r => (wantT z [61] r).bind fun _ r' => (e r').bind fun x q => .ok (s, x) q
def setsT (ts : List Tok) : Bool :=
 match ts with
 | a :: b :: _ => decide (a.kind = 1) && isOne [[61]] b
 | _ => false
def simpleP (z : Nat) (e : Par Ex) : Par St := fun ts =>
 if seesT z [[108, 101, 116]] ts then (setP z e ts.tail).bind fun x r => .ok (.mk 1 x.1 [x.2] [] [] 0) r
 else if seesT z [[114, 101, 116, 117, 114, 110]] ts then (if seesT z [[59]] ts.tail then .ok (.mk 5 [] [] [] [] 0) ts.tail else (e ts.tail).bind fun x r => .ok (.mk 5 [] [x] [] [] 0) r)
 else if seesT z [[112, 117, 116]] ts then (pairP z e ts.tail).bind fun l r => .ok (.mk 6 [] l [] [] 0) r
 else if seesT z [[100, 101, 108]] ts then (enclosedP z e ts.tail).bind fun l r => .ok (.mk 7 [] l [] [] 0) r
 else if setsT ts then (setP z e ts).bind fun x r => .ok (.mk 2 x.1 [x.2] [] [] 0) r
 else (e ts).bind fun x r => .ok (.mk 8 [] [x] [] [] 0) r
def choiceP (z : Nat) (e : Par Ex) (b : Par (List St)) : Par St := fun ts => (e ts).bind fun x r => (b r).bind fun l q =>
 if seesT z [[101, 108, 115, 101]] q then (b q.tail).bind fun m q' => .ok (.mk 3 [] [x] l m 0) q' else .ok (.mk 3 [] [x] l [] 0) q
def loopP (z : Nat) (e : Par Ex) (b : Par (List St)) : Par St := fun ts => (setP z e ts).bind fun x r => (wantT z [116, 111] r).bind fun _ r' => (e r').bind fun y q => (b q).bind fun l q' => .ok (.mk 4 x.1 [x.2, y] l [] 0) q'
def St.at (s : St) (p : Nat) : St := .mk s.op s.text s.exprs s.body s.els p
def stmtP (z : Nat) (e : Par Ex) (b : Par (List St)) : Par St := fun ts =>
 (if seesT z [[105, 102]] ts then choiceP z e b ts.tail else if seesT z [[102, 111, 114]] ts then loopP z e b ts.tail
  else (simpleP z e ts).bind fun s r => (wantT z [59] r).bind fun _ r' => .ok s r').bind fun s r => .ok (s.at (peekT z ts).place) r
def moreS (z : Nat) (p : Par St) : Nat → List St → Par (List St)
 | 0, l, ts => if seesT z [[125]] ts then .ok l ts.tail else (p ts).bind fun _ _ => failT z 41 ts
 | f + 1, l, ts => if seesT z [[125]] ts then .ok l ts.tail else (p ts).bind fun s r => moreS z p f (l ++ [s]) r
def blockP (z : Nat) : Nat → Par (List St)
 | 0 => fun ts => failT z 42 ts
 | g + 1 => fun ts => (wantT z [123] ts).bind fun _ r => moreS z (stmtP z (exprP z g) (blockP z g)) r.length [] r
def paramP (z : Nat) : Par (List Nat × Nat) := fun ts => (nameP z ts).bind fun s r => (wantT z [58] r).bind fun _ r' => (typeP z r').bind fun t q => .ok (s, t) q
def funcP (z : Nat) : Par Fu := fun ts => (wantT z [102, 110] ts).bind fun _ r => (nameP z r).bind fun s r1 => (listP z (paramP z) r1).bind fun l r2 =>
 (if seesT z [[58]] r2 then typeP z r2.tail else .ok 0 r2).bind fun t r3 => (blockP z 32 r3).bind fun b r4 => .ok ⟨s, l, t, b, (peekT z ts).place⟩ r4
def moreF (z : Nat) : Nat → List Fu → Par (List Fu)
 | 0, l, ts => .ok l ts
 | f + 1, l, ts => if ts.isEmpty then .ok l [] else (funcP z ts).bind fun x r => moreF z f (l ++ [x]) r
def programP (z : Nat) : Par (List Fu) := fun ts => moreF z ts.length [] ts
structure Parsed where
 err : Nat
 funcs : List Fu
 place : Nat
def parsed (l : List Nat) : Parsed :=
 if (lexed l).err = 0 then
  match programP l.length (lexed l).toks with
  | .ok fs _ => ⟨0, fs, 0⟩
  | .bad c p => ⟨c, [], p⟩
 else ⟨(lexed l).err, [], (lexed l).place⟩
end
section
open Go.RowKit
def RowF (w : World) (D : Nat → Prop) (n : Nat) (xs : List Value) (V : Value) : Prop :=
 ∃ A c, V = .slice A n c ∧ n ≤ c ∧ c ≤ maxLen ∧ (A = none → c = 0) ∧ ∀ j u, xs[j]? = some u → ∃ ad, A = some ad ∧ D ad.block ∧ w.cell? (ad.add j) = some u
def Same (D : Nat → Prop) (w w' : World) : Prop := ∀ k, D k → w'.heap[k]? = w.heap[k]?
def Rng (lo B : Nat) : Nat → Prop := fun k => lo ≤ k ∧ k < B
theorem Same.cell {D : Nat → Prop} {w w' : World} (h : Same D w w') {a : Addr} (h1 : D a.block) : w'.cell? a = w.cell? a := World.cell?_of_block (h _ h1)
theorem RowF.same {w w' : World} {D : Nat → Prop} {n : Nat} {xs : List Value} {V : Value} (h : RowF w D n xs V) (hs : Same D w w') : RowF w' D n xs V := by
 obtain ⟨A, c, h1, h2, h3, h4, h5⟩ := h
 refine ⟨A, c, h1, h2, h3, h4, fun j u hu => ?_⟩
 obtain ⟨ad, e, g1, g3⟩ := h5 j u hu
 exact ⟨ad, e, g1, by rw [hs.cell (by rw [addr_block]; exact g1)]; exact g3⟩
theorem RowF.more {w : World} {D D' : Nat → Prop} {n : Nat} {xs : List Value} {V : Value} (h : RowF w D n xs V) (h1 : ∀ k, D k → D' k) : RowF w D' n xs V := by
 obtain ⟨A, c, e1, e2, e3, e4, e5⟩ := h
 refine ⟨A, c, e1, e2, e3, e4, fun j u hu => ?_⟩
 obtain ⟨ad, e, g1, g3⟩ := e5 j u hu
 exact ⟨ad, e, h1 _ g1, g3⟩
theorem RowF.nothing (w : World) (D : Nat → Prop) : RowF w D 0 [] (.slice none 0 0) := ⟨none, 0, rfl, Nat.le_refl _, Nat.zero_le _, fun _ => rfl, fun j u h => by simp at h⟩
theorem RowF.own {w : World} {base : Nat} {e : TypeId} {size : Nat} {V : Value} {n : Nat} {xs : List Value} (h : w.ownsRow base e size V n xs) : RowF w (Rng base w.heap.size) n xs V := by
 have hb := h
 rcases h.2 with ⟨rfl, rfl⟩ | ⟨g, cap, cur, rfl, h1, hg, hn, hm, hs, ht⟩
 ·have : xs = [] := List.eq_nil_of_length_eq_zero (by simpa using h.1)
  subst this
  exact RowF.nothing _ _
 ·exact ⟨_, _, rfl, hn, hm, (fun e => by cases e), fun j u hu => ⟨_, rfl, ⟨h1, (hb.lt g rfl).2⟩, hb.cells rfl j u hu⟩⟩
def exC (e : Ex) (k : Value) : List Value := [.int .i64 e.op, .int .i64 e.num, .string (strN e.text), k, .int .i64 e.place]
def exsC (l : List Ex) (ks : List Value) : List Value := (List.zipWith exC l ks).flatten
inductive ExsC (w : World) (D : Nat → Prop) : List Ex → Value → Prop
 | mk (l : List Ex) (ks : List Value) (V : Value) (hk : ks.length = l.length) (h1 : RowF w D l.length (exsC l ks) V) (h2 : ∀ (i : Nat) (e : Ex) (k : Value), l[i]? = some e → ks[i]? = some k → ExsC w D e.kids k) : ExsC w D l V
theorem ExsC.same {w w' : World} {D : Nat → Prop} {l : List Ex} {V : Value} (h : ExsC w D l V) (hs : Same D w w') : ExsC w' D l V := by
 induction h with
 | mk l ks V hk h1 _ ih => exact .mk l ks V hk (h1.same hs) ih
theorem ExsC.more {w : World} {D D' : Nat → Prop} {l : List Ex} {V : Value} (h : ExsC w D l V) (g1 : ∀ k, D k → D' k) : ExsC w D' l V := by
 induction h with
 | mk l ks V hk h1 _ ih => exact .mk l ks V hk (h1.more g1) ih
theorem ExsC.nothing (w : World) (D : Nat → Prop) : ExsC w D [] (.slice none 0 0) := .mk [] [] _ rfl (RowF.nothing _ _) (fun i e k h => by simp at h)
def ExV (w : World) (D : Nat → Prop) (e : Ex) (v : Value) : Prop := ∃ k, v = .agg (exC e k).toArray ∧ ExsC w D e.kids k
theorem ExV.same {w w' : World} {D : Nat → Prop} {e : Ex} {v : Value} (h : ExV w D e v) (hs : Same D w w') : ExV w' D e v := by
 obtain ⟨k, h1, h2⟩ := h
 exact ⟨k, h1, h2.same hs⟩
theorem ExV.more {w : World} {D D' : Nat → Prop} {e : Ex} {v : Value} (h : ExV w D e v) (g1 : ∀ k, D k → D' k) : ExV w D' e v := by
 obtain ⟨k, h1, h2⟩ := h
 exact ⟨k, h1, h2.more g1⟩
theorem exsC_snoc (l : List Ex) (ks : List Value) (hk : ks.length = l.length) (e : Ex) (k : Value) : exsC (l ++ [e]) (ks ++ [k]) = exsC l ks ++ exC e k := by
 simp [exsC, List.zipWith_append hk.symm]
theorem ExsC.snoc {w : World} {D : Nat → Prop} {l : List Ex} {ks : List Value} {V : Value} {e : Ex} {k : Value} (hk : ks.length = l.length) (h1 : RowF w D (l.length + 1) (exsC l ks ++ exC e k) V)
  (h2 : ∀ (i : Nat) (e : Ex) (k : Value), l[i]? = some e → ks[i]? = some k → ExsC w D e.kids k) (h3 : ExsC w D e.kids k) : ExsC w D (l ++ [e]) V := by
 refine .mk _ (ks ++ [k]) V (by simp [hk]) (by rw [exsC_snoc l ks hk]; simpa using h1) fun i x y hx hy => ?_
 by_cases hi : i < l.length
 ·rw [List.getElem?_append_left hi] at hx
  rw [List.getElem?_append_left (by omega)] at hy
  exact h2 i x y hx hy
 ·rw [List.getElem?_append_right (by omega)] at hx
  rw [List.getElem?_append_right (by omega)] at hy
  have : i - l.length = 0 := by
   have := (List.getElem?_eq_some_iff.1 hx).1
   simp at this
   omega
  rw [this] at hx
  rw [show i - ks.length = 0 by omega] at hy
  simp at hx hy
  subst hx hy
  exact h3
def stC (s : St) (e b f : Value) : List Value := [.int .i64 s.op, .string (strN s.text), e, b, f, .int .i64 s.place]
structure Three where
 e : Value
 b : Value
 f : Value
def stsC (l : List St) (ks : List Three) : List Value := (List.zipWith (fun s k => stC s k.e k.b k.f) l ks).flatten
inductive StsC (w : World) (D : Nat → Prop) : List St → Value → Prop
 | mk (l : List St) (ks : List Three) (V : Value) (hk : ks.length = l.length) (h1 : RowF w D l.length (stsC l ks) V) (he : ∀ (i : Nat) (s : St) (k : Three), l[i]? = some s → ks[i]? = some k → ExsC w D s.exprs k.e)
   (hb : ∀ (i : Nat) (s : St) (k : Three), l[i]? = some s → ks[i]? = some k → StsC w D s.body k.b) (hf : ∀ (i : Nat) (s : St) (k : Three), l[i]? = some s → ks[i]? = some k → StsC w D s.els k.f) : StsC w D l V
theorem StsC.same {w w' : World} {D : Nat → Prop} {l : List St} {V : Value} (h : StsC w D l V) (hs : Same D w w') : StsC w' D l V := by
 induction h with
 | mk l ks V hk h1 he _ _ ib iF => exact .mk l ks V hk (h1.same hs) (fun i s k a b => (he i s k a b).same hs) ib iF
theorem StsC.more {w : World} {D D' : Nat → Prop} {l : List St} {V : Value} (h : StsC w D l V) (g1 : ∀ k, D k → D' k) : StsC w D' l V := by
 induction h with
 | mk l ks V hk h1 he _ _ ib iF => exact .mk l ks V hk (h1.more g1) (fun i s k a b => (he i s k a b).more g1) ib iF
theorem StsC.nothing (w : World) (D : Nat → Prop) : StsC w D [] (.slice none 0 0) := .mk [] [] _ rfl (RowF.nothing _ _) (fun i e k h => by simp at h) (fun i e k h => by simp at h) (fun i e k h => by simp at h)
def StV (w : World) (D : Nat → Prop) (s : St) (v : Value) : Prop := ∃ k : Three, v = .agg (stC s k.e k.b k.f).toArray ∧ ExsC w D s.exprs k.e ∧ StsC w D s.body k.b ∧ StsC w D s.els k.f
theorem StV.same {w w' : World} {D : Nat → Prop} {e : St} {v : Value} (h : StV w D e v) (hs : Same D w w') : StV w' D e v := by
 obtain ⟨k, h1, h2, h3, h4⟩ := h
 exact ⟨k, h1, h2.same hs, h3.same hs, h4.same hs⟩
theorem StV.more {w : World} {D D' : Nat → Prop} {e : St} {v : Value} (h : StV w D e v) (g1 : ∀ k, D k → D' k) : StV w D' e v := by
 obtain ⟨k, h1, h2, h3, h4⟩ := h
 exact ⟨k, h1, h2.more g1, h3.more g1, h4.more g1⟩
theorem stsC_snoc (l : List St) (ks : List Three) (hk : ks.length = l.length) (s : St) (k : Three) : stsC (l ++ [s]) (ks ++ [k]) = stsC l ks ++ stC s k.e k.b k.f := by
 simp [stsC, List.zipWith_append hk.symm]
theorem snoc_get {α : Type} {l : List α} {x y : α} {i : Nat} (h : (l ++ [x])[i]? = some y) : l[i]? = some y ∨ (i = l.length ∧ y = x) := by
 by_cases hi : i < l.length
 ·rw [List.getElem?_append_left hi] at h
  exact .inl h
 ·rw [List.getElem?_append_right (by omega)] at h
  have := (List.getElem?_eq_some_iff.1 h).1
  simp at this
  have e : i - l.length = 0 := by omega
  rw [e] at h
  simp at h
  exact .inr ⟨by omega, h.symm⟩
theorem StsC.snoc {w : World} {D : Nat → Prop} {l : List St} {ks : List Three} {V : Value} {s : St} {k : Three} (hk : ks.length = l.length) (h1 : RowF w D (l.length + 1) (stsC l ks ++ stC s k.e k.b k.f) V)
  (he : ∀ (i : Nat) (s : St) (k : Three), l[i]? = some s → ks[i]? = some k → ExsC w D s.exprs k.e)
  (hb : ∀ (i : Nat) (s : St) (k : Three), l[i]? = some s → ks[i]? = some k → StsC w D s.body k.b) (hf : ∀ (i : Nat) (s : St) (k : Three), l[i]? = some s → ks[i]? = some k → StsC w D s.els k.f)
  (g1 : ExsC w D s.exprs k.e) (g2 : StsC w D s.body k.b) (g3 : StsC w D s.els k.f) : StsC w D (l ++ [s]) V := by
 refine .mk _ (ks ++ [k]) V (by simp [hk]) (by rw [stsC_snoc l ks hk]; simpa using h1) ?_ ?_ ?_
 all_goals
  intro i x y hx hy
  rcases snoc_get hx with hx | ⟨e1, rfl⟩ <;> rcases snoc_get hy with hy | ⟨e2, rfl⟩
  ·first | exact he i x y hx hy | exact hb i x y hx hy | exact hf i x y hx hy
  ·have := (List.getElem?_eq_some_iff.1 hx).1
   omega
  ·have := (List.getElem?_eq_some_iff.1 hy).1
   omega
  ·assumption
def paC (p : List Nat × Nat) : List Value := [.string (strN p.1), .int .i64 p.2]
def pasC (l : List (List Nat × Nat)) : List Value := l.flatMap paC
structure Two where
 p : Value
 b : Value
def fuC (f : Fu) (p b : Value) : List Value := [.string (strN f.name), p, .int .i64 f.result, b, .int .i64 f.place]
def fusC (l : List Fu) (ks : List Two) : List Value := (List.zipWith (fun s k => fuC s k.p k.b) l ks).flatten
def FuK (w : World) (D : Nat → Prop) (f : Fu) (k : Two) : Prop := RowF w D f.params.length (pasC f.params) k.p ∧ StsC w D f.body k.b
theorem FuK.same {w w' : World} {D : Nat → Prop} {f : Fu} {k : Two} (h : FuK w D f k) (hs : Same D w w') : FuK w' D f k := ⟨h.1.same hs, h.2.same hs⟩
theorem FuK.more {w : World} {D D' : Nat → Prop} {f : Fu} {k : Two} (h : FuK w D f k) (g1 : ∀ k, D k → D' k) : FuK w D' f k := ⟨h.1.more g1, h.2.more g1⟩
def FusC (w : World) (D : Nat → Prop) (l : List Fu) (V : Value) : Prop :=
 ∃ ks : List Two, ks.length = l.length ∧ RowF w D l.length (fusC l ks) V ∧ ∀ (i : Nat) (f : Fu) (k : Two), l[i]? = some f → ks[i]? = some k → FuK w D f k
theorem FusC.same {w w' : World} {D : Nat → Prop} {l : List Fu} {V : Value} (h : FusC w D l V) (hs : Same D w w') : FusC w' D l V := by
 obtain ⟨ks, h1, h2, h3⟩ := h
 exact ⟨ks, h1, h2.same hs, fun i f k a b => (h3 i f k a b).same hs⟩
theorem FusC.more {w : World} {D D' : Nat → Prop} {l : List Fu} {V : Value} (h : FusC w D l V) (g1 : ∀ k, D k → D' k) : FusC w D' l V := by
 obtain ⟨ks, h1, h2, h3⟩ := h
 exact ⟨ks, h1, h2.more g1, fun i f k a b => (h3 i f k a b).more g1⟩
theorem FusC.nothing (w : World) (D : Nat → Prop) : FusC w D [] (.slice none 0 0) := ⟨[], rfl, RowF.nothing _ _, fun i e k h => by simp at h⟩
def FuV (w : World) (D : Nat → Prop) (f : Fu) (v : Value) : Prop := ∃ k : Two, v = .agg (fuC f k.p k.b).toArray ∧ FuK w D f k
theorem fusC_snoc (l : List Fu) (ks : List Two) (hk : ks.length = l.length) (s : Fu) (k : Two) : fusC (l ++ [s]) (ks ++ [k]) = fusC l ks ++ fuC s k.p k.b := by
 simp [fusC, List.zipWith_append hk.symm]
end
section
theorem bind_inv {α β : Type} {r : Res α} {f : α → List Tok → Res β} {v : β} {q : List Tok} (h : r.bind f = .ok v q) : ∃ a s, r = .ok a s ∧ f a s = .ok v q := by
 cases r with
 | ok a s => exact ⟨a, s, rfl, h⟩
 | bad c p => cases h
theorem Takes.shrinks {α : Type} {p : Par α} (h : Takes p) : Shrinks p := fun ts v r hr => Nat.le_of_lt (h ts v r hr)
theorem kind_cons {z : Nat} {ts : List Tok} (h : (peekT z ts).kind ≠ 0) : ts.tail.length < ts.length := by
 cases ts with
 | nil => exact absurd rfl h
 | cons t r => simp
theorem sees_tail {z : Nat} {ss : List (List Nat)} {ts : List Tok} (h : seesT z ss ts = true) : ts.tail.length < ts.length := by
 apply kind_cons (z := z)
 unfold seesT isOne at h
 simp at h
 omega
theorem takes_take (z k : Nat) (hk : k ≠ 0) : Takes (takeT z k) := by
 intro ts v r h
 unfold takeT at h
 split at h
 ·rename_i hkk
  cases h
  exact kind_cons (z := z) (by omega)
 ·cases h
theorem takes_want (z : Nat) (s : List Nat) : Takes (wantT z s) := by
 intro ts v r h
 unfold wantT at h
 split at h
 ·rename_i hs
  cases h
  exact sees_tail hs
 ·cases h
theorem takes_name (z : Nat) : Takes (nameP z) := by
 intro ts v r h
 obtain ⟨a, s, h1, h2⟩ := bind_inv h
 cases h2
 exact takes_take z 1 (by omega) _ _ _ h1
theorem shrinks_moreG (z : Nat) (ss : List (List Nat)) (p : Par Ex) (hp : Shrinks p) : ∀ f x, Shrinks (moreG z ss p f x)
 | 0, x => by intro ts v r h; cases h; exact Nat.le_refl _
 | f + 1, x => by
  intro ts v r h
  unfold moreG at h
  split at h
  ·rename_i hs
   obtain ⟨a, s, h1, h2⟩ := bind_inv h
   have := hp _ _ _ h1
   have := shrinks_moreG z ss p hp f _ _ _ _ h2
   have := sees_tail hs
   omega
  ·cases h
   exact Nat.le_refl _
theorem takes_grouped (z : Nat) (ss : List (List Nat)) (p : Par Ex) (hp : Takes p) : Takes (groupedP z ss p) := by
 intro ts v r h
 obtain ⟨a, s, h1, h2⟩ := bind_inv h
 have := hp _ _ _ h1
 have := shrinks_moreG z ss p hp.shrinks _ _ _ _ _ h2
 omega
theorem takes_sum (z : Nat) (one : Par Ex) (h : Takes one) : Takes (sumP z one) := takes_grouped z _ _ (takes_grouped z _ _ h)
theorem takes_compare (z : Nat) (one : Par Ex) (ho : Takes one) : Takes (compareP z one) := by
 intro ts v r h
 obtain ⟨a, s, h1, h2⟩ := bind_inv h
 have := takes_sum z one ho _ _ _ h1
 split at h2
 ·obtain ⟨b, s2, h3, h4⟩ := bind_inv h2
  have := takes_take z 4 (by omega) _ _ _ h3
  obtain ⟨y, s3, h5, h6⟩ := bind_inv h4
  have := takes_sum z one ho _ _ _ h5
  cases h6
  omega
 ·cases h2
  omega
theorem takes_levels (z : Nat) (one : Par Ex) (ho : Takes one) : Takes (levelsP z one) := takes_grouped z _ _ (takes_grouped z _ _ (takes_compare z one ho))
theorem shrinks_moreL {α : Type} (z : Nat) (p : Par α) (hp : Shrinks p) : ∀ f l, Shrinks (moreL z p f l)
 | 0, l => by
  intro ts v r h
  obtain ⟨a, s, h1, h2⟩ := bind_inv h
  cases h2
  exact (takes_want z _).shrinks _ _ _ h1
 | f + 1, l => by
  intro ts v r h
  unfold moreL at h
  split at h
  ·rename_i hs
   obtain ⟨a, s, h1, h2⟩ := bind_inv h
   have := hp _ _ _ h1
   have := shrinks_moreL z p hp f _ _ _ _ h2
   have := sees_tail hs
   omega
  ·obtain ⟨a, s, h1, h2⟩ := bind_inv h
   cases h2
   exact (takes_want z _).shrinks _ _ _ h1
theorem takes_list {α : Type} (z : Nat) (p : Par α) (hp : Shrinks p) : Takes (listP z p) := by
 intro ts v r h
 obtain ⟨a, s, h1, h2⟩ := bind_inv h
 have := takes_want z _ _ _ _ h1
 split at h2
 ·rename_i hs
  cases h2
  have := sees_tail hs
  omega
 ·obtain ⟨b, s2, h3, h4⟩ := bind_inv h2
  have := hp _ _ _ h3
  have := shrinks_moreL z p hp _ _ _ _ _ h4
  omega
theorem takes_enclosed (z : Nat) (e : Par Ex) (he : Shrinks e) : Takes (enclosedP z e) := by
 intro ts v r h
 obtain ⟨a, s, h1, h2⟩ := bind_inv h
 obtain ⟨b, s2, h3, h4⟩ := bind_inv h2
 obtain ⟨c, s3, h5, h6⟩ := bind_inv h4
 cases h6
 have := takes_want z _ _ _ _ h1
 have := he _ _ _ h3
 have := takes_want z _ _ _ _ h5
 omega
theorem takes_pair (z : Nat) (e : Par Ex) (he : Shrinks e) : Takes (pairP z e) := by
 intro ts v r h
 obtain ⟨a, s, h1, h2⟩ := bind_inv h
 obtain ⟨b, s2, h3, h4⟩ := bind_inv h2
 obtain ⟨c, s3, h5, h6⟩ := bind_inv h4
 obtain ⟨d, s4, h7, h8⟩ := bind_inv h6
 obtain ⟨f, s5, h9, h10⟩ := bind_inv h8
 cases h10
 have := takes_want z _ _ _ _ h1
 have := he _ _ _ h3
 have := takes_want z _ _ _ _ h5
 have := he _ _ _ h7
 have := takes_want z _ _ _ _ h9
 omega
theorem takes_named (z : Nat) (e : Par Ex) (he : Shrinks e) : Takes (namedP z e) := by
 intro ts v r h
 obtain ⟨a, s, h1, h2⟩ := bind_inv h
 have := takes_take z 1 (by omega) _ _ _ h1
 split at h2
 ·obtain ⟨b, s2, h3, h4⟩ := bind_inv h2
  cases h4
  have := takes_list z e he _ _ _ h3
  omega
 ·cases h2
  omega
theorem takes_worded (z : Nat) (e : Par Ex) (he : Shrinks e) : Takes (wordedP z e) := by
 intro ts v r h
 unfold wordedP at h
 split at h
 ·rename_i hs; cases h; exact sees_tail hs
 ·split at h
  ·rename_i hs; cases h; exact sees_tail hs
  ·split at h
   ·rename_i hs
    obtain ⟨a, s, h1, h2⟩ := bind_inv h
    cases h2
    have := takes_enclosed z e he _ _ _ h1
    have := sees_tail hs
    omega
   ·split at h
    ·rename_i hs
     obtain ⟨a, s, h1, h2⟩ := bind_inv h
     cases h2
     have := takes_enclosed z e he _ _ _ h1
     have := sees_tail hs
     omega
    ·obtain ⟨a, s, h1, h2⟩ := bind_inv h
     obtain ⟨b, s2, h3, h4⟩ := bind_inv h2
     cases h4
     have := takes_enclosed z e he _ _ _ h3
     have := takes_want z _ _ _ _ h1
     omega
theorem takes_primary (z : Nat) (e : Par Ex) (he : Shrinks e) : Takes (primaryP z e) := by
 intro ts v r h
 unfold primaryP at h
 split at h
 ·cases h; exact kind_cons (z := z) (by omega)
 ·split at h
  ·cases h; exact kind_cons (z := z) (by omega)
  ·split at h
   ·exact takes_named z e he _ _ _ h
   ·split at h
    ·obtain ⟨a, s, h1, h2⟩ := bind_inv h
     cases h2
     exact takes_enclosed z e he _ _ _ h1
    ·obtain ⟨a, s, h1, h2⟩ := bind_inv h
     cases h2
     exact takes_worded z e he _ _ _ h1
theorem takes_one (z : Nat) (e o : Par Ex) (he : Shrinks e) (ho : Shrinks o) : Takes (oneS z e o) := by
 intro ts v r h
 unfold oneS at h
 split at h
 ·rename_i hs
  obtain ⟨a, s, h1, h2⟩ := bind_inv h
  cases h2
  have := ho _ _ _ h1
  have := sees_tail hs
  omega
 ·exact takes_primary z e he _ _ _ h
theorem takes_both (z : Nat) : ∀ g, Takes (both z g).1 ∧ Takes (both z g).2
 | 0 => ⟨(fun ts v r h => by cases h), (fun ts v r h => by cases h)⟩
 | g + 1 =>
  have ih := takes_both z g
  have h1 := takes_one z _ _ ih.1.shrinks ih.2.shrinks
  ⟨takes_levels z _ h1, h1⟩
theorem takes_expr (z g : Nat) : Takes (exprP z g) := (takes_both z g).1
theorem takes_type (z : Nat) : Takes (typeP z) := by
 intro ts v r h
 unfold typeP at h
 split at h
 ·rename_i hs; cases h; exact sees_tail hs
 ·split at h
  ·rename_i hs; cases h; exact sees_tail hs
  ·obtain ⟨a, s, h1, h2⟩ := bind_inv h
   cases h2
   exact takes_want z _ _ _ _ h1
theorem takes_set (z : Nat) (e : Par Ex) (he : Shrinks e) : Takes (setP z e) := by
 intro ts v r h
 obtain ⟨a, s, h1, h2⟩ := bind_inv h
 obtain ⟨b, s2, h3, h4⟩ := bind_inv h2
 obtain ⟨c, s3, h5, h6⟩ := bind_inv h4
 cases h6
 have := takes_name z _ _ _ h1
 have := takes_want z _ _ _ _ h3
 have := he _ _ _ h5
 omega
theorem shrinks_simple (z : Nat) (e : Par Ex) (he : Shrinks e) : Shrinks (simpleP z e) := by
 intro ts v r h
 unfold simpleP at h
 split at h
 ·rename_i hs
  obtain ⟨a, s, h1, h2⟩ := bind_inv h
  cases h2
  have := takes_set z e he _ _ _ h1
  have := sees_tail hs
  omega
 ·split at h
  ·rename_i hs
   have := sees_tail hs
   split at h
   ·cases h
    omega
   ·obtain ⟨a, s, h1, h2⟩ := bind_inv h
    cases h2
    have := he _ _ _ h1
    omega
  ·split at h
   ·rename_i hs
    obtain ⟨a, s, h1, h2⟩ := bind_inv h
    cases h2
    have := takes_pair z e he _ _ _ h1
    have := sees_tail hs
    omega
   ·split at h
    ·rename_i hs
     obtain ⟨a, s, h1, h2⟩ := bind_inv h
     cases h2
     have := takes_enclosed z e he _ _ _ h1
     have := sees_tail hs
     omega
    ·split at h
     ·obtain ⟨a, s, h1, h2⟩ := bind_inv h
      cases h2
      exact (takes_set z e he).shrinks _ _ _ h1
     ·obtain ⟨a, s, h1, h2⟩ := bind_inv h
      cases h2
      exact he _ _ _ h1
theorem shrinks_choice (z : Nat) (e : Par Ex) (b : Par (List St)) (he : Shrinks e) (hb : Shrinks b) : Shrinks (choiceP z e b) := by
 intro ts v r h
 obtain ⟨a, s, h1, h2⟩ := bind_inv h
 obtain ⟨c, s2, h3, h4⟩ := bind_inv h2
 have := he _ _ _ h1
 have := hb _ _ _ h3
 split at h4
 ·rename_i hs
  obtain ⟨d, s3, h5, h6⟩ := bind_inv h4
  cases h6
  have := hb _ _ _ h5
  have := sees_tail hs
  omega
 ·cases h4
  omega
theorem shrinks_loop (z : Nat) (e : Par Ex) (b : Par (List St)) (he : Shrinks e) (hb : Shrinks b) : Shrinks (loopP z e b) := by
 intro ts v r h
 obtain ⟨a, s, h1, h2⟩ := bind_inv h
 obtain ⟨c, s2, h3, h4⟩ := bind_inv h2
 obtain ⟨d, s3, h5, h6⟩ := bind_inv h4
 obtain ⟨f, s4, h7, h8⟩ := bind_inv h6
 cases h8
 have := takes_set z e he _ _ _ h1
 have := takes_want z _ _ _ _ h3
 have := he _ _ _ h5
 have := hb _ _ _ h7
 omega
theorem takes_stmt (z : Nat) (e : Par Ex) (b : Par (List St)) (he : Shrinks e) (hb : Shrinks b) : Takes (stmtP z e b) := by
 intro ts v r h
 obtain ⟨a, s, h1, h2⟩ := bind_inv h
 cases h2
 split at h1
 ·rename_i hs
  have := shrinks_choice z e b he hb _ _ _ h1
  have := sees_tail hs
  omega
 ·split at h1
  ·rename_i hs
   have := shrinks_loop z e b he hb _ _ _ h1
   have := sees_tail hs
   omega
  ·obtain ⟨c, s2, h3, h4⟩ := bind_inv h1
   obtain ⟨d, s3, h5, h6⟩ := bind_inv h4
   cases h6
   have := shrinks_simple z e he _ _ _ h3
   have := takes_want z _ _ _ _ h5
   omega
theorem takes_moreS (z : Nat) (p : Par St) (hp : Shrinks p) : ∀ f l, Takes (moreS z p f l)
 | 0, l => by
  intro ts v r h
  unfold moreS at h
  split at h
  ·rename_i hs; cases h; exact sees_tail hs
  ·obtain ⟨a, s, h1, h2⟩ := bind_inv h
   cases h2
 | f + 1, l => by
  intro ts v r h
  unfold moreS at h
  split at h
  ·rename_i hs; cases h; exact sees_tail hs
  ·obtain ⟨a, s, h1, h2⟩ := bind_inv h
   have := hp _ _ _ h1
   have := takes_moreS z p hp f _ _ _ _ h2
   omega
theorem takes_block (z : Nat) : ∀ g, Takes (blockP z g)
 | 0 => fun ts v r h => by cases h
 | g + 1 => by
  intro ts v r h
  obtain ⟨a, s, h1, h2⟩ := bind_inv h
  have := takes_want z _ _ _ _ h1
  have := takes_moreS z _ (takes_stmt z _ _ (takes_expr z g).shrinks (takes_block z g).shrinks).shrinks _ _ _ _ _ h2
  omega
theorem takes_param (z : Nat) : Takes (paramP z) := by
 intro ts v r h
 obtain ⟨a, s, h1, h2⟩ := bind_inv h
 obtain ⟨b, s2, h3, h4⟩ := bind_inv h2
 obtain ⟨c, s3, h5, h6⟩ := bind_inv h4
 cases h6
 have := takes_name z _ _ _ h1
 have := takes_want z _ _ _ _ h3
 have := takes_type z _ _ _ h5
 omega
theorem takes_func (z : Nat) : Takes (funcP z) := by
 intro ts v r h
 obtain ⟨a, s, h1, h2⟩ := bind_inv h
 obtain ⟨b, s2, h3, h4⟩ := bind_inv h2
 obtain ⟨c, s3, h5, h6⟩ := bind_inv h4
 obtain ⟨d, s4, h7, h8⟩ := bind_inv h6
 obtain ⟨f, s5, h9, h10⟩ := bind_inv h8
 cases h10
 have := takes_want z _ _ _ _ h1
 have := takes_name z _ _ _ h3
 have := takes_list z _ (takes_param z).shrinks _ _ _ h5
 have := takes_block z 32 _ _ _ h9
 have : s4.length ≤ s3.length := by
  split at h7
  ·rename_i hs
   have := takes_type z _ _ _ h7
   have := sees_tail hs
   omega
  ·cases h7
   exact Nat.le_refl _
 omega
end
end Go.Proofs.YtcilgkdnjgmogaaGreatDoor
