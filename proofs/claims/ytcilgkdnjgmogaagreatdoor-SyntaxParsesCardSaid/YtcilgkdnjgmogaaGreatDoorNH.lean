/- The document's text of a program, as plain functions; nothing of the program. -/
import Derived.Test.YtcilgkdnjgmogaaGreatDoorMA
import Derived.Lib.ItoaNum
import Derived.Test.YtcilgkdnjgmogaaGreatDoorMC
import Derived.Lib.Builder
import Derived.Lib.FrozenHead
import Derived.Lib.OthersKept
import Derived.Lib.UnsafeStr
import Derived.Lib.AppendStr
import Derived.Laws.Externs
import Derived.Lib.Hide
import Derived.Deep.MidRow
namespace Go.Proofs.YtcilgkdnjgmogaaGreatDoor
section
def decN (n : Nat) : List Nat := (Lib.decDigits n).map UInt8.toNat
def atK (ks : List (List Nat)) (i : Nat) : List Nat := ks[i]?.getD []
def listed (f : Nat → List Nat) : Nat → List Nat
 | 0 => []
 | n + 1 => listed f n ++ (if n = 0 then [] else [44, 32]) ++ f n
def listT (f : Nat → List Nat) (n : Nat) : List Nat := [40] ++ listed f n ++ [41]
def opT (word : List Nat) (n : Nat) (ks : List (List Nat)) : List Nat := word ++ listT (atK ks) n
def boolT (n : Nat) : List Nat := if n = 1 then [116, 114, 117, 101] else [102, 97, 108, 115, 101]
def showOp (op num : Nat) (text : List Nat) (ks : List (List Nat)) : List Nat :=
 if op = 1 then decN num
 else if op = 2 then boolT num
 else if op = 3 then [34] ++ text ++ [34]
 else if op = 4 then text
 else if op = 5 then opT text ks.length ks
 else if op = 6 then [40] ++ atK ks 0 ++ ([32] ++ text ++ [32]) ++ atK ks 1 ++ [41]
 else if op = 7 then text ++ atK ks 0
 else if op = 8 then opT [103, 101, 116] 1 ks
 else if op = 9 then opT [104, 97, 115] 1 ks
 else if op = 10 then opT [108, 101, 110] 1 ks
 else []
mutual
def showE : Ex → List Nat
 | .mk op num text kids _ => showOp op num text (showL kids)
def showL : List Ex → List (List Nat)
 | [] => []
 | e :: r => showE e :: showL r
end
theorem showL_length : ∀ l, (showL l).length = l.length
 | [] => by simp [showL]
 | e :: r => by simp [showL, showL_length r]
theorem showL_get : ∀ (l : List Ex) (i : Nat), (showL l)[i]? = l[i]?.map showE
 | [], i => by simp [showL]
 | e :: r, 0 => by simp [showL]
 | e :: r, i + 1 => by simp [showL, showL_get r i]
theorem showE_eq (e : Ex) : showE e = showOp e.op e.num e.text (showL e.kids) := by
 cases e with
 | mk => simp [showE, Ex.op, Ex.num, Ex.text, Ex.kids]
def blockT (inner : List Nat) : List Nat := [123] ++ inner ++ [32, 125]
def setT (text : List Nat) (ks : List (List Nat)) : List Nat := text ++ [32, 61, 32] ++ atK ks 0
def showSt (op : Nat) (text : List Nat) (ks : List (List Nat)) (b e : List Nat) (bare : Bool) : List Nat :=
 if op = 1 then [108, 101, 116, 32] ++ setT text ks ++ [59]
 else if op = 2 then setT text ks ++ [59]
 else if op = 3 then [105, 102, 32] ++ atK ks 0 ++ [32] ++ b ++ (if bare then [] else [32, 101, 108, 115, 101, 32] ++ e)
 else if op = 4 then [102, 111, 114, 32] ++ setT text ks ++ [32, 116, 111, 32] ++ atK ks 1 ++ [32] ++ b
 else if op = 5 then [114, 101, 116, 117, 114, 110] ++ (if ks.length = 0 then [] else [32] ++ atK ks 0) ++ [59]
 else if op = 6 then opT [112, 117, 116] 2 ks ++ [59]
 else if op = 7 then opT [100, 101, 108] 1 ks ++ [59]
 else if op = 8 then atK ks 0 ++ [59]
 else []
mutual
def showS : St → List Nat
 | .mk op text exprs body els _ => showSt op text (showL exprs) (blockT (showB body)) (blockT (showB els)) els.isEmpty
def showB : List St → List Nat
 | [] => []
 | s :: r => [32] ++ showS s ++ showB r
end
theorem showS_eq (s : St) : showS s = showSt s.op s.text (showL s.exprs) (blockT (showB s.body)) (blockT (showB s.els)) s.els.isEmpty := by
 cases s with
 | mk => simp [showS, St.op, St.text, St.exprs, St.body, St.els]
theorem showB_snoc : ∀ (l : List St) (s : St), showB (l ++ [s]) = showB l ++ [32] ++ showS s
 | [], s => by simp [showB]
 | x :: r, s => by simp [showB, showB_snoc r s]
def typeT (t : Nat) : List Nat := if t = 1 then [105, 110, 116] else if t = 2 then [98, 111, 111, 108] else if t = 3 then [98, 121, 116, 101, 115] else []
def paramT (l : List (List Nat × Nat)) (i : Nat) : List Nat := match l[i]? with | some p => p.1 ++ [58, 32] ++ typeT p.2 | none => []
def showF (f : Fu) : List Nat := [102, 110, 32] ++ f.name ++ listT (paramT f.params) f.params.length ++ (if f.result = 0 then [] else [58, 32] ++ typeT f.result) ++ [32] ++ blockT (showB f.body) ++ [10]
def shown (l : List Fu) : List Nat := l.flatMap showF
theorem listed_le (f : Nat → List Nat) : ∀ (n m : Nat), n ≤ m → (listed f n).length ≤ (listed f m).length := by
 intro n m h
 induction h with
 | refl => exact Nat.le_refl _
 | step _ ih => simp only [listed, List.length_append]; omega
end
section
section
open Go.RowKit
set_option maxRecDepth 100000
set_option linter.unusedSimpArgs false
def u8s (l : List Nat) : List UInt8 := l.map UInt8.ofNat
theorem u8s_append (a b : List Nat) : u8s (a ++ b) = u8s a ++ u8s b := by simp [u8s]
theorem strN_u8 (l : List Nat) : strN l = ⟨(u8s l).toArray⟩ := by
 have := strN_data l
 cases h : strN l with
 | mk d => rw [h] at this; simp at this; rw [this]; rfl
theorem strCells_strN (l : List Nat) : Lib.strCells (strN l) = Lib.byteCells (u8s l) := by
 rw [strN_u8]
 simp [Lib.strCells, Lib.byteCells]
theorem info5b : (Tryz.prog.info? 5).map (fun i => (i.zero, i.size, i.bytes)) = some (some (.int .u8 0), 1, 1) := by kernel_rfl
theorem info64s : (Tryz.prog.info? 126).map (·.size) = some 2 := by kernel_rfl
theorem lies66 : liesAt Tryz.prog Tryz.prog.depth 128 (2 / Tryz.prog.cellsOf 128) 0 126 1 = true := by kernel_rfl
def Wr (R : Nat) (l : List Nat) (w : World) : Prop := Lib.IsBuilderF 128 5 R R (Lib.byteCells (u8s l)) w
def Puts (R : Nat) (l s : List Nat) (w : World) (e : Ending) (w' : World) : Prop :=
 e = .returned (.tuple #[]) ∧ Wr R (l ++ s) w' ∧ Below R w w' ∧ Lib.OthersKept 5 (some R) w w'
set_option maxHeartbeats 400000 in
theorem copyCheck_used (b : Nat) (w : World) (h0 : w.cell? ⟨b, 0, none⟩ = some (.pointer (some ⟨b, 0, none⟩))) :
  Calls Tryz.prog 176 #[.pointer (some ⟨b, 0, none⟩)] w fun e w' => e = .returned (.tuple #[]) ∧ w' = w := by
 obtain ⟨j, hj, _⟩ := Option.map_eq_some_iff.1 info64s
 go_enter Tryz.func176, Tryz.ntmps176
 go_wp2
 rw [Lib.run_neq_ptr_same w _ Tryz.underlying124 hj]
 go_wp2
 go_end0
 exact ⟨rfl, rfl⟩
set_option maxHeartbeats 400000 in
theorem copyCheck_fresh (b : Nat) (w : World) (h0 : w.cell? ⟨b, 0, none⟩ = some (.pointer none)) (hsh : w.shape? b = some (128, 2)) (hfz : w.frozen? ⟨b, 0, none⟩ = false) :
  Calls Tryz.prog 176 #[.pointer (some ⟨b, 0, none⟩)] w fun e w' => e = .returned (.tuple #[]) ∧ w' = w.setCell ⟨b, 0, none⟩ (.pointer (some ⟨b, 0, none⟩)) := by
 obtain ⟨j, hj, hjs⟩ := Option.map_eq_some_iff.1 info64s
 go_enter Tryz.func176, Tryz.ntmps176
 go_wp2
 rw [Lib.run_to_unsafe w ⟨b, 0, none⟩ Tryz.underlying124 Tryz.underlying275 hj (by rw [hjs]; decide) hsh (Nat.zero_lt_succ 1)]
 simp only [Result.andThen]
 rw [Oper.upon_value]
 go_wp2
 rw [run_callFunc_extern Tryz.func214 (by kernel_rfl) (by kernel_rfl) (by kernel_rfl) (e := Extern.AbiNoEscape.same) (by kernel_rfl)]
 rw [Lib.run_noEscape]
 simp only [Result.andThen]
 rw [Oper.upon_value]
 go_wp2
 rw [Lib.run_from_unsafe w ⟨b, 0, none⟩ Tryz.underlying275 Tryz.underlying124 hj hsh lies66]
 simp only [Result.andThen]
 rw [Oper.upon_value]
 go_wp2
 go_end0
 exact ⟨rfl, rfl⟩
theorem copyCheck (B b : Nat) (bs : List Value) (w : World) (h : Lib.IsBuilderF 128 5 B b bs w) :
  Calls Tryz.prog 176 #[.pointer (some ⟨b, 0, none⟩)] w fun e w' => e = .returned (.tuple #[]) ∧ Lib.BuilderAtF 128 5 B b (.pointer (some ⟨b, 0, none⟩)) bs w' ∧ Below B w w' ∧ Lib.OthersKept 5 (some b) w w' := by
 rcases h with h | h
 ·refine (copyCheck_fresh b w h.cell0 h.shape h.frozen0).mono ?_
  rintro e w' ⟨rfl, rfl⟩
  exact ⟨rfl, h.used _, (Below.refl B w).setCell (p := ⟨b, 0, none⟩) h.1 _, (Lib.OthersKept.refl _ _ w).setCell ⟨b, 0, none⟩ rfl _⟩
 ·refine (copyCheck_used b w h.cell0).mono ?_
  rintro e w' ⟨rfl, rfl⟩
  exact ⟨rfl, h, Below.refl B _, Lib.OthersKept.refl _ _ _⟩
set_option maxHeartbeats 800000 in
theorem writeString (B b : Nat) (bs : List Value) (s : ByteArray) (w : World) (h : Lib.IsBuilderF 128 5 B b bs w) (hlen : bs.length + s.size ≤ 140737488355328) (hBw : B ≤ w.heap.size) :
  Calls Tryz.prog 137 #[.pointer (some ⟨b, 0, none⟩), .string s] w fun e w' => e = .returned (.tuple #[.int .i64 s.size, .nilIface]) ∧ Lib.BuilderAtF 128 5 B b (.pointer (some ⟨b, 0, none⟩)) (bs ++ Lib.strCells s) w' ∧ Below B w w' ∧ Lib.OthersKept 5 (some b) w w' := by
 obtain ⟨i0, hi, hz0, hz1, hz2⟩ := info_parts info5b
 go_enter Tryz.func137, Tryz.ntmps137
 go_wp2_with (go_at_call 176; refine (copyCheck B b bs _ h).mono ?_)
 rintro e w1 ⟨rfl, h1, hb1, hk1⟩
 obtain ⟨hB, v, hbk, hown, hne⟩ := h1
 have c0 : w1.cell? ⟨b, 0, none⟩ = some (.pointer (some ⟨b, 0, none⟩)) := by rw [Lib.cell_of_heap hbk]; rfl
 have c1 : w1.cell? ⟨b, 1, none⟩ = some v := by rw [Lib.cell_of_heap hbk]; rfl
 go_wp2_with (at_builtin; refine Lib.wpList_append_own_stringF _ rfl _ _ 22 9 rfl B 5 i0 Tryz.underlying22 Tryz.underlying9 hi hz0 hz1 hz2 _ _ _ rfl hown s rfl ?c3 ?c4 ?c5 ?_)
 case c3 => unfold maxLen; omega
 case c4 => omega
 case c5 => have := hb1.size; omega
 intro v' w2 hown' hgrow _
 have hlt : b < w1.heap.size := by
  rcases Nat.lt_or_ge b w1.heap.size with h' | h'
  ·exact h'
  ·simp [Array.getElem?_eq_none h'] at hbk
 have hb2 : w2.heap[b]? = some (.cells #[.pointer (some ⟨b, 0, none⟩), v] 128 (0, 0)) := by
  rw [hgrow.block b hlt (fun e => hne e.symm)]
  exact hbk
 have d0 : w2.cell? ⟨b, 0, none⟩ = some (.pointer (some ⟨b, 0, none⟩)) := by rw [Lib.cell_of_heap hb2]; rfl
 have d1 : w2.cell? ⟨b, 1, none⟩ = some v := by rw [Lib.cell_of_heap hb2]; rfl
 have f1 : w2.frozen? ⟨b, 1, none⟩ = false := Lib.frozen_of_heap hb2 1
 obtain ⟨ao, n', cap, rfl⟩ : ∃ ao n' cap, v' = .slice ao n' cap := by
  rcases hown'.2 with ⟨hv, _⟩ | ⟨g, cap, cur, fz, hv, _⟩
  ·exact ⟨_, _, _, hv⟩
  ·exact ⟨_, _, _, hv⟩
 go_wp2
 go_ret2
 refine ⟨rfl, ?_, ?_, (hk1.grown hgrow (Lib.ownsRowF_kind hown)).setCell ⟨b, 1, none⟩ rfl _⟩
 ·exact Lib.BuilderAtF.put (T := 128) (e := 5) hB hb2 (bs' := bs ++ Lib.strCells s) (by simpa [Lib.strCells_length] using hown') (by decide)
 ·exact (hb1.grown hgrow (by have := hb1.size; omega) (fun k hk => (hown.lt k hk).1)).setCell (p := ⟨b, 1, none⟩) hB _
theorem Wr.lt {R : Nat} {l : List Nat} {w : World} (h : Wr R l w) : R < w.heap.size := by
 have : ∃ p v, w.heap[R]? = some (.cells #[p, v] 128 (0, 0)) := by
  rcases h with ⟨_, v, h, _⟩ | ⟨_, v, h, _⟩
  ·exact ⟨_, v, h⟩
  ·exact ⟨_, v, h⟩
 obtain ⟨p, v, h⟩ := this
 exact (Array.getElem?_eq_some_iff.1 h).1
theorem write (R : Nat) (l s : List Nat) (w : World) (h : Wr R l w) (hlen : (l ++ s).length ≤ 140737488355328) :
  Calls Tryz.prog 137 #[.pointer (some ⟨R, 0, none⟩), .string (strN s)] w fun e w' => (∃ n, e = .returned (.tuple #[.int .i64 n, .nilIface])) ∧ Wr R (l ++ s) w' ∧ Below R w w' ∧ Lib.OthersKept 5 (some R) w w' := by
 refine (writeString R R _ (strN s) w h (by rw [Lib.byteCells_length, strN_size]; simpa [u8s] using hlen) (Nat.le_of_lt h.lt)).mono ?_
 rintro e w' ⟨rfl, h1, h2, h3⟩
 refine ⟨⟨_, rfl⟩, ?_, h2, h3⟩
 rw [strCells_strN, ← Lib.byteCells_append, ← u8s_append] at h1
 exact .inr h1
end
section
open Go.RowKit
set_option maxRecDepth 100000
set_option linter.unusedSimpArgs false
def flat (ss : List (List Nat)) : List Nat := ss.flatten
theorem flat_take (ss : List (List Nat)) (k : Nat) (t : List Nat) (h : ss[k]? = some t) : flat (ss.take (k + 1)) = flat (ss.take k) ++ t := by
 simp [flat, List.take_add_one, h]
theorem flat_le (ss : List (List Nat)) (k : Nat) : (flat (ss.take k)).length ≤ (flat ss).length := by
 have : flat ss = flat (ss.take k) ++ flat (ss.drop k) := by simp [flat, ← List.flatten_append]
 rw [this]
 simp
def PutS (R : Nat) (ss : List (List Nat)) (l : List Nat) (w : World) (k : Nat) (wr : World) : Prop :=
 Wr R (l ++ flat (ss.take k)) wr ∧ Below R w wr ∧ Lib.OthersKept 5 (some R) w wr
def strRow (ss : List (List Nat)) : Obj := .cells (ss.map fun t => Value.string (strN t)).toArray 9 (0, 0)
theorem strRow_cell {w : World} {g k : Nat} {ss : List (List Nat)} {t : List Nat} (h : w.heap[g]? = some (strRow ss)) (hk : ss[k]? = some t) : w.cell? ⟨g, k, none⟩ = some (.string (strN t)) := by
 rw [Lib.cell_of_heap h]
 simp [hk]
set_option maxHeartbeats 800000 in
theorem put (R g : Nat) (ss : List (List Nat)) (l : List Nat) (w : World) (hW : Wr R l w) (hg : w.heap[g]? = some (strRow ss)) (hgR : g ≠ R) (hlen : (l ++ flat ss).length ≤ 140737488355328) (hn : ss.length ≤ 100) :
  Calls Tryz.prog 96 #[.pointer (some ⟨R, 0, none⟩), .slice (some ⟨g, 0, none⟩) ss.length ss.length] w (Puts R l (flat ss) w) := by
 have HS : Hid (PutS R ss l w 0 w) := ⟨by simpa [flat] using hW, Below.refl _ _, Lib.OthersKept.refl _ _ _⟩
 have HG := Lib.hid hg
 clear hg hW
 go_enter Tryz.func96, Tryz.ntmps96
 go_wp2
 go_loopw [5, 8] (fun _ i wr => ∃ k : Nat, k ≤ ss.length ∧ i = .int .i64 k ∧ PutS R ss l w k wr) (fun _ i _ => ss.length - (intOf i).toNat)
 case atStart => exact ⟨0, Nat.zero_le _, rfl, HS.out⟩
 case round =>
  obtain ⟨k, hk, rfl, hS⟩ := hrel
  by_cases hlt : k < ss.length
  ·have ht : ss[k]? = some ss[k] := List.getElem?_eq_getElem hlt
   generalize ss[k] = t at ht
   have hgk : wr.heap[g]? = some (strRow ss) := hS.2.2 g _ HG.out (by simpa using hgR) (by intro c fz e; cases e)
   have hc := strRow_cell hgk ht
   have hf := flat_take ss k t ht
   have hle := flat_le ss (k + 1)
   have K := Lib.hid (write R (l ++ flat (ss.take k)) t wr hS.1 (by rw [List.append_assoc, ← hf]; simp at hlen ⊢; omega))
   have HS1 := Lib.hid hS
   have HF := Lib.hid hf
   clear hS hgk ht hf hle
   go_wp2_with fail
   refine K.out.mono ?_
   clear K
   rintro e' w1 ⟨⟨n, rfl⟩, h1, h2, h3⟩
   have H1 : Hid (PutS R ss l w (k + 1) w1) := ⟨by rw [HF.out, ← List.append_assoc]; exact h1, HS1.out.2.1.trans h2, HS1.out.2.2.trans h3⟩
   clear h1 h2 h3
   go_wp2
   go_roundw
   case rel => exact ⟨k + 1, by omega, by go_num, H1.out⟩
   case measure => simp [intOf]; omega
  ·have hks : k = ss.length := by omega
   have H1 : Hid (PutS R ss l w ss.length wr) := by subst hks; exact hS
   clear hS hks
   go_wp2
   go_end0
   have h := H1.out
   exact ⟨rfl, by simpa [PutS] using h.1, h.2.1, h.2.2⟩
theorem Wr.alloc {R : Nat} {l : List Nat} {w : World} (h : Wr R l w) (o : Obj) : Wr R l (w.alloc o) := Lib.IsBuilderF.alloc h o
theorem Wr.R_lt {R : Nat} {l : List Nat} {w : World} (h : Wr R l w) : R ≤ w.heap.size := Nat.le_of_lt h.lt
theorem Puts.ahead {R : Nat} {l s : List Nat} {w w1 : World} {e : Ending} {w' : World} (h : Puts R l s w1 e w') (hb : Below R w w1) (hk : Lib.OthersKept 5 (some R) w w1) : Puts R l s w e w' :=
 ⟨h.1, h.2.1, hb.trans h.2.2.1, hk.trans h.2.2.2⟩
theorem kept_alloc {R : Nat} {w : World} (hR : R ≤ w.heap.size) (o : Obj) : Below R w (w.alloc o) ∧ Lib.OthersKept 5 (some R) w (w.alloc o) :=
 ⟨(Below.refl R w).alloc hR o, (Lib.OthersKept.refl _ _ w).alloc o⟩
theorem put1 (R : Nat) (b : ByteArray) (s l : List Nat) (w : World) (hW : Wr R l w) (hb : b = strN s) (hlen : (l ++ s).length ≤ 140737488355328) :
  Calls Tryz.prog 96 #[.pointer (some ⟨R, 0, none⟩), .slice (some ⟨w.heap.size, 0, none⟩) 1 1] (w.alloc (.cells #[.string b] 9)) (Puts R l s w) := by
 subst hb
 have := put R w.heap.size [s] l (w.alloc (.cells #[.string (strN s)] 9)) (hW.alloc _) (by rw [heap_alloc_new]; rfl) (by have := hW.lt; omega) (by simpa [flat] using hlen) (by simp)
 refine this.mono fun e w' h => ?_
 have h' : Puts R l s (w.alloc (.cells #[.string (strN s)] 9)) e w' := by simpa [flat] using h
 exact h'.ahead (kept_alloc hW.R_lt _).1 (kept_alloc hW.R_lt _).2
theorem put2 (R : Nat) (b c : ByteArray) (s t l : List Nat) (w : World) (hW : Wr R l w) (hb : b = strN s) (hc : c = strN t) (hlen : (l ++ (s ++ t)).length ≤ 140737488355328) :
  Calls Tryz.prog 96 #[.pointer (some ⟨R, 0, none⟩), .slice (some ⟨w.heap.size, 0, none⟩) 2 2] (w.alloc (.cells #[.string b, .string c] 9)) (Puts R l (s ++ t) w) := by
 subst hb hc
 have := put R w.heap.size [s, t] l (w.alloc (.cells #[.string (strN s), .string (strN t)] 9)) (hW.alloc _) (by rw [heap_alloc_new]; rfl) (by have := hW.lt; omega) (by simpa [flat] using hlen) (by simp)
 refine this.mono fun e w' h => ?_
 have h' : Puts R l (s ++ t) (w.alloc (.cells #[.string (strN s), .string (strN t)] 9)) e w' := by simpa [flat] using h
 exact h'.ahead (kept_alloc hW.R_lt _).1 (kept_alloc hW.R_lt _).2
theorem put3 (R : Nat) (b c d : ByteArray) (s t u l : List Nat) (w : World) (hW : Wr R l w) (hb : b = strN s) (hc : c = strN t) (hd : d = strN u) (hlen : (l ++ (s ++ t ++ u)).length ≤ 140737488355328) :
  Calls Tryz.prog 96 #[.pointer (some ⟨R, 0, none⟩), .slice (some ⟨w.heap.size, 0, none⟩) 3 3] (w.alloc (.cells #[.string b, .string c, .string d] 9)) (Puts R l (s ++ t ++ u) w) := by
 subst hb hc hd
 have := put R w.heap.size [s, t, u] l (w.alloc (.cells #[.string (strN s), .string (strN t), .string (strN u)] 9)) (hW.alloc _) (by rw [heap_alloc_new]; rfl) (by have := hW.lt; omega) (by simpa [flat] using hlen) (by simp)
 refine this.mono fun e w' h => ?_
 have h' : Puts R l (s ++ t ++ u) (w.alloc (.cells #[.string (strN s), .string (strN t), .string (strN u)] 9)) e w' := by simpa [flat] using h
 exact h'.ahead (kept_alloc hW.R_lt _).1 (kept_alloc hW.R_lt _).2
end
section
open Go.RowKit
set_option maxRecDepth 100000
set_option linter.unusedSimpArgs false
def Stp (R : Nat) (w0 : World) (t : List Nat) (w : World) : Prop := Wr R t w ∧ Below R w0 w ∧ Lib.OthersKept 5 (some R) w0 w
theorem Stp.next {R : Nat} {w0 w w' : World} {l s : List Nat} {e : Ending} (h : Stp R w0 l w) (hp : Puts R l s w e w') : Stp R w0 (l ++ s) w' := ⟨hp.2.1, h.2.1.trans hp.2.2.1, h.2.2.trans hp.2.2.2⟩
theorem Stp.start {R : Nat} {w : World} {l : List Nat} (h : Wr R l w) : Stp R w l w := ⟨h, Below.refl _ _, Lib.OthersKept.refl _ _ _⟩
theorem Stp.puts {R : Nat} {w w' : World} {l s : List Nat} (h : Stp R w (l ++ s) w') : Puts R l s w (.returned (.tuple #[])) w' := ⟨rfl, h.1, h.2.1, h.2.2⟩
theorem Stp.block {R : Nat} {w0 w : World} {t : List Nat} (h : Stp R w0 t w) {b : Nat} {cs : Array Value} {ty : TypeId} (hb : w0.heap[b]? = some (.cells cs ty (0, 0))) (hR : b ≠ R) (hy : ty ≠ 5) : w.heap[b]? = some (.cells cs ty (0, 0)) :=
 h.2.2 b _ hb (by simpa using hR) (by intro c fz e; injection e with e1 e2 e3; exact hy e2)
theorem Stp.alloc {R : Nat} {w : World} {l : List Nat} (h : Wr R l w) (o : Obj) : Stp R w l (w.alloc o) := ⟨h.alloc o, (kept_alloc h.R_lt o).1, (kept_alloc h.R_lt o).2⟩
theorem Stp.trans {R : Nat} {w0 w w' : World} {a b : List Nat} (h : Stp R w0 a w) (k : Stp R w b w') : Stp R w0 b w' := ⟨k.1, h.2.1.trans k.2.1, h.2.2.trans k.2.2⟩
structure PartW (R fn : Nat) (caps : Array Value) (f : Nat → List Nat) (n : Nat) (Inv : World → Prop) : Prop where
 ent : EntC fn
 inv : ∀ w w' l, Inv w → Wr R l w → Below R w w' → Lib.OthersKept 5 (some R) w w' → Inv w'
 call : ∀ i l w, i < n → Inv w → Wr R l w → (l ++ f i).length ≤ 140737488355328 → Calls Tryz.prog fn (#[.int .i64 i] ++ caps) w (Puts R l (f i) w)
def sepT (k : Nat) : List Nat := if k = 0 then [] else [44, 32]
theorem listed_succ (f : Nat → List Nat) (k : Nat) : listed f (k + 1) = listed f k ++ sepT k ++ f k := rfl
theorem listed_ge (f : Nat → List Nat) : ∀ n, n ≤ (listed f n).length + 1
 | 0 => by simp
 | n + 1 => by
  have := listed_ge f n
  simp only [listed, List.length_append]
  split
  ·omega
  ·simp; omega
def LisS (R : Nat) (l : List Nat) (f : Nat → List Nat) (Inv : World → Prop) (w : World) (k : Nat) (wr : World) : Prop := Stp R w (l ++ [40] ++ listed f k) wr ∧ Inv wr
set_option maxHeartbeats 1600000 in
theorem listW (R fn : Nat) (caps : Array Value) (f : Nat → List Nat) (n : Nat) (Inv : World → Prop) (hp : PartW R fn caps f n Inv) (l : List Nat) (w : World) (hW : Wr R l w) (h0 : Inv w) (hlen : (l ++ listT f n).length ≤ 140737488355328) :
  Calls Tryz.prog 97 #[.pointer (some ⟨R, 0, none⟩), .int .i64 n, .func (.func fn) #[] caps] w (Puts R l (listT f n) w) := by
 have he := hp.ent
 unfold EntC at he
 have HP := Lib.hid hp
 have hl2 : l.length + (1 + (listed f n).length + 1) ≤ 140737488355328 := by simp [listT] at hlen; omega
 have K := Lib.hid (put1 R ⟨#[40]⟩ [40] l w hW (by kernel_rfl) (by simp; omega))
 have HI := Lib.hid h0
 have HW := Lib.hid hW
 have HL := Lib.hid hl2
 have hn : n ≤ 140737488355328 := by have := listed_ge f n; omega
 clear hp h0 hW hl2 hlen
 go_enter Tryz.func97, Tryz.ntmps97
 go_wp2_with fail
 refine K.out.mono ?_
 clear K
 rintro e' w1 hp1
 have hr1 := hp1.1
 subst hr1
 have HS : Hid (LisS R l f Inv w 0 w1) := ⟨by simpa [listed] using (Stp.start HW.out).next hp1, HP.out.inv _ _ _ HI.out HW.out hp1.2.2.1 hp1.2.2.2⟩
 clear hp1
 go_wp2
 go_loopw [6, 11] (fun _ i wr => ∃ k : Nat, k ≤ n ∧ i = .int .i64 k ∧ LisS R l f Inv w k wr) (fun _ i _ => n - (intOf i).toNat)
 case atStart => exact ⟨0, Nat.zero_le _, rfl, HS.out⟩
 case round =>
  obtain ⟨k, hk, rfl, hS⟩ := hrel
  by_cases hlt : k < n
  ·have hlk := listed_le f (k + 1) n hlt
   rw [listed_succ] at hlk
   have hLL := HL.out
   have HLk : Hid (l.length + 1 + (listed f k).length + (sepT k).length + (f k).length ≤ 140737488355328) := by
    show _ ≤ _
    simp only [List.length_append] at hlk
    omega
   have HS1 := Lib.hid hS
   clear hS hlk hLL
   by_cases hk0 : 0 < k
   ·have hsep : sepT k = [44, 32] := by unfold sepT; rw [if_neg (by omega)]
    have hlk := HLk.out
    have K := Lib.hid (put1 R ⟨#[44, 32]⟩ [44, 32] (l ++ [40] ++ listed f k) wr HS1.out.1.1 (by kernel_rfl) (by rw [hsep] at hlk; simp at hlk ⊢; omega))
    have HSep := Lib.hid hsep
    clear hlk hsep
    go_wp2_with fail
    refine K.out.mono ?_
    clear K
    rintro e' w2 hp1
    have hr1 := hp1.1
    subst hr1
    have HS2 : Hid (Stp R w (l ++ [40] ++ listed f k ++ [44, 32]) w2 ∧ Inv w2) := ⟨HS1.out.1.next hp1, HP.out.inv _ _ _ HS1.out.2 HS1.out.1.1 hp1.2.2.1 hp1.2.2.2⟩
    clear hp1
    have hlk := HLk.out
    have hsep := HSep.out
    have K := Lib.hid (HP.out.call k _ w2 hlt HS2.out.2 HS2.out.1.1 (by rw [hsep] at hlk; simp at hlk ⊢; omega))
    clear hlk hsep
    go_wp2_with fail
    refine K.out.mono ?_
    clear K
    rintro e' w3 hp1
    have hr1 := hp1.1
    subst hr1
    have HS3 : Hid (LisS R l f Inv w (k + 1) w3) := ⟨by
     have := HS2.out.1.next hp1
     rw [listed_succ, HSep.out]
     simpa using this, HP.out.inv _ _ _ HS2.out.2 HS2.out.1.1 hp1.2.2.1 hp1.2.2.2⟩
    clear hp1
    go_wp2
    go_roundw
    case rel => exact ⟨k + 1, by omega, by go_num, HS3.out⟩
    case measure => simp [intOf]; omega
   ·have hk1 : k = 0 := by omega
    have hsep : sepT k = [] := by unfold sepT; rw [if_pos hk1]
    have HSep := Lib.hid hsep
    have hlk := HLk.out
    have K := Lib.hid (HP.out.call k _ wr hlt HS1.out.2 HS1.out.1.1 (by rw [hsep] at hlk; simp at hlk ⊢; omega))
    clear hlk hsep hk1
    go_wp2_with fail
    refine K.out.mono ?_
    clear K
    rintro e' w3 hp1
    have hr1 := hp1.1
    subst hr1
    have HS3 : Hid (LisS R l f Inv w (k + 1) w3) := ⟨by
     have := HS1.out.1.next hp1
     rw [listed_succ, HSep.out]
     simpa using this, HP.out.inv _ _ _ HS1.out.2 HS1.out.1.1 hp1.2.2.1 hp1.2.2.2⟩
    clear hp1
    go_wp2
    go_roundw
    case rel => exact ⟨k + 1, by omega, by go_num, HS3.out⟩
    case measure => simp [intOf]; omega
  ·have hkn : k = n := by omega
   have HS1 : Hid (Stp R w (l ++ [40] ++ listed f n) wr) := by subst hkn; exact hS.1
   have hLL := HL.out
   have K := Lib.hid (put1 R ⟨#[41]⟩ [41] (l ++ [40] ++ listed f n) wr HS1.out.1 (by kernel_rfl) (by simp; omega))
   clear hS hkn hLL
   go_wp2_with fail
   refine K.out.mono ?_
   clear K
   rintro e' w3 hp1
   have hr1 := hp1.1
   subst hr1
   have HS3 : Hid (Stp R w (l ++ listT f n) w3) := by
    have := HS1.out.next hp1
    show Stp _ _ _ _
    simpa [listT] using this
   clear hp1
   go_wp2
   first | go_end0 | skip
   exact HS3.out.puts
end
section
open Go.RowKit
set_option maxRecDepth 100000
set_option linter.unusedSimpArgs false
theorem put1z (R : Nat) (b : ByteArray) (s l : List Nat) (w : World) (hW : Wr R l w) (hb : b = strN s) (hlen : (l ++ s).length ≤ 140737488355328) (z : Nat) (hz : z = w.heap.size) :
  Calls Tryz.prog 96 #[.pointer (some ⟨R, 0, none⟩), .slice (some ⟨z, 0, none⟩) 1 1] (w.alloc (.cells #[.string b] 9)) (Puts R l s w) := by
 subst hz
 exact put1 R b s l w hW hb hlen
theorem put2z (R : Nat) (b c : ByteArray) (s t l : List Nat) (w : World) (hW : Wr R l w) (hb : b = strN s) (hc : c = strN t) (hlen : (l ++ (s ++ t)).length ≤ 140737488355328) (z : Nat) (hz : z = w.heap.size) :
  Calls Tryz.prog 96 #[.pointer (some ⟨R, 0, none⟩), .slice (some ⟨z, 0, none⟩) 2 2] (w.alloc (.cells #[.string b, .string c] 9)) (Puts R l (s ++ t) w) := by
 subst hz
 exact put2 R b c s t l w hW hb hc hlen
theorem put3z (R : Nat) (b c d : ByteArray) (s t u l : List Nat) (w : World) (hW : Wr R l w) (hb : b = strN s) (hc : c = strN t) (hd : d = strN u) (hlen : (l ++ (s ++ t ++ u)).length ≤ 140737488355328) (z : Nat) (hz : z = w.heap.size) :
  Calls Tryz.prog 96 #[.pointer (some ⟨R, 0, none⟩), .slice (some ⟨z, 0, none⟩) 3 3] (w.alloc (.cells #[.string b, .string c, .string d] 9)) (Puts R l (s ++ t ++ u) w) := by
 subst hz
 exact put3 R b c d s t u l w hW hb hc hd hlen
theorem RowF.plain {w : World} {D : Nat → Prop} {n : Nat} {xs : List Value} {V : Value} (h : RowF w D n xs V) (hx : xs ≠ []) : ∃ b o c, V = .slice (some ⟨b, o, none⟩) n c ∧ n ≤ c ∧ c ≤ maxLen ∧ D b ∧ w.rangeAt b o xs := by
 obtain ⟨A, c, rfl, h2, h3, h4, h5⟩ := h
 cases xs with
 | nil => exact absurd rfl hx
 | cons x r =>
  obtain ⟨ad, rfl, hD, hc⟩ := h5 0 x rfl
  have hs : ad.spot = none := by
   unfold World.cell? at hc
   rw [show ad.add 0 = ad from rfl] at hc
   split at hc
   ·split at hc
    ·cases hc
    ·rename_i hh
     cases hsp : ad.spot with
     | none => rfl
     | some q => rw [hsp] at hh; simp at hh
   ·cases hc
  obtain ⟨b, o, sp⟩ := ad
  simp at hs
  subst hs
  refine ⟨b, o, c, rfl, h2, h3, hD, fun j v hv => ?_⟩
  obtain ⟨ad', e, _, hc'⟩ := h5 j v hv
  injection e with e
  subst e
  rw [Addr.add_lit] at hc'
  exact hc'
theorem zip_get {α β : Type} {f : α → β → List Value} {m : Nat} (hf : ∀ a b, (f a b).length = m) : ∀ (l : List α) (ks : List β) (i j : Nat) (a : α) (b : β), l[i]? = some a → ks[i]? = some b → j < m → ((List.zipWith f l ks).flatten)[i * m + j]? = (f a b)[j]?
 | [], _, i, j, a, b, h, _, _ => by simp at h
 | _ :: _, [], i, j, a, b, _, h, _ => by simp at h
 | x :: l, y :: ks, 0, j, a, b, h, h', hj => by
  simp at h h'
  subst h h'
  simp only [List.zipWith_cons_cons, List.flatten_cons]
  rw [List.getElem?_append_left (by rw [hf]; omega)]
  simp
 | x :: l, y :: ks, i + 1, j, a, b, h, h', hj => by
  have ih := zip_get hf l ks i j a b (by simpa using h) (by simpa using h') hj
  simp only [List.zipWith_cons_cons, List.flatten_cons]
  have e : (i + 1) * m = m + i * m := by rw [Nat.add_mul]; omega
  rw [List.getElem?_append_right (by rw [hf]; omega), hf]
  rw [show (i + 1) * m + j - m = i * m + j by omega]
  exact ih
theorem ExsC.get {w : World} {D : Nat → Prop} {l : List Ex} {V : Value} (h : ExsC w D l V) {i : Nat} {e : Ex} (he : l[i]? = some e) : ∃ b o c k, V = .slice (some ⟨b, o, none⟩) l.length c ∧ l.length ≤ c ∧ c ≤ maxLen ∧ D b ∧ w.rangeAt b (o + i * 5) (exC e k) ∧ ExsC w D e.kids k := by
 cases h with
 | mk _ ks _ hk h1 h2 =>
  have hi := (List.getElem?_eq_some_iff.1 he).1
  have hk' : ks[i]? = some ks[i] := List.getElem?_eq_getElem (by omega)
  generalize ks[i] = k at hk'
  have hg := fun j hj => zip_get (f := exC) (m := 5) (fun _ _ => rfl) l ks i j e k he hk' hj
  obtain ⟨b, o, c, rfl, a1, a2, a3, a4⟩ := h1.plain (by
   intro e0
   have := hg 0 (by omega)
   unfold exsC at e0
   rw [e0] at this
   simp [exC] at this)
  refine ⟨b, o, c, k, rfl, a1, a2, a3, fun j v hv => ?_, h2 i e k he hk'⟩
  have hj : j < 5 := by
   have := (List.getElem?_eq_some_iff.1 hv).1
   simpa [exC] using this
  rw [Nat.add_assoc]
  exact a4 _ v ((hg j hj).trans hv)
mutual
def numsE (p : Nat → Bool) : Ex → Bool
 | .mk _ n _ k _ => p n && numsL p k
def numsL (p : Nat → Bool) : List Ex → Bool
 | [] => true
 | e :: r => numsE p e && numsL p r
end
theorem numsL_mem {p : Nat → Bool} : ∀ {l : List Ex}, numsL p l = true → ∀ e ∈ l, numsE p e = true
 | [], _, e, h => by simp at h
 | x :: r, hl, e, h => by
  simp [numsL] at hl
  rcases List.mem_cons.1 h with rfl | h
  ·exact hl.1
  ·exact numsL_mem hl.2 e h
structure Fm (R : Nat) (p : Nat → Bool) (T : World → Prop) : Prop where
 kept : ∀ w w', T w → Below R w w' → T w'
 call : ∀ (n : Nat) (w : World), p n = true → T w → Calls Tryz.prog 252 #[.int .i64 n, .int .i64 10] w fun e w' => e = .returned (.string (strN (decN n))) ∧ Below w.heap.size w w'
def ExprWr (R : Nat) (T : World → Prop) (e : Ex) : Prop := ∀ (k : Value) (t : List Nat) (w : World), Wr R t w → T w → ExsC w (· < R) e.kids k → (t ++ showE e).length ≤ 140737488355328 →
 Calls Tryz.prog 215 #[.pointer (some ⟨R, 0, none⟩), .agg (exC e k).toArray] w (Puts R t (showE e) w)
theorem below_same {R : Nat} {w w' : World} (h : Below R w w') : Same (· < R) w w' := fun k hk => h.block k hk
theorem atK_some {l : List Ex} {i : Nat} {e : Ex} (h : l[i]? = some e) : atK (showL l) i = showE e := by
 unfold atK
 rw [showL_get, h]
 rfl
theorem atK_none {l : List Ex} {i : Nat} (h : l.length ≤ i) : atK (showL l) i = [] := by
 unfold atK
 rw [showL_get, List.getElem?_eq_none h]
 rfl
set_option maxHeartbeats 800000 in
theorem exprAt (R : Nat) (T : World → Prop) (l : List Ex) (hE : ∀ e ∈ l, ExprWr R T e) (V : Value) (i : Nat) (t : List Nat) (w : World) (hW : Wr R t w) (hT : T w) (hV : ExsC w (· < R) l V) (hlen : (t ++ atK (showL l) i).length ≤ 140737488355328) :
  Calls Tryz.prog 179 #[.pointer (some ⟨R, 0, none⟩), V, .int .i64 i] w (Puts R t (atK (showL l) i) w) := by
 by_cases hlt : i < l.length
 ·have he : l[i]? = some l[i] := List.getElem?_eq_getElem hlt
  generalize l[i] = e at he
  obtain ⟨b, o, c, k, rfl, a1, a2, a3, a4, a5⟩ := hV.get he
  have hat := atK_some he
  rw [hat] at hlen ⊢
  have K := Lib.hid (hE e (List.mem_of_getElem? he) k t w hW hT a5 hlen)
  have HR := Lib.hid a4
  unfold maxLen at a2
  clear hW hT hV hlen he hat a4 a5 hE
  generalize hk : l.length = n at *
  clear hk
  go_enter Tryz.func179, Tryz.ntmps179
  go_wp2_with (refine wpList_load_mid rfl 202 (.tmp 13) rfl b (o + i * 5) rfl (exC e k) _ HR.out Tryz.underlying202 rfl info39s ?_; refine Hid.out ?_)
  refine Lib.hid ?_
  go_wp2_with fail
  refine K.out.mono ?_
  clear K
  rintro e' w3 hp1
  have hr1 := hp1.1
  subst hr1
  have HP := Lib.hid hp1
  clear hp1
  go_wp2
  go_end0
  exact HP.out
 ·have hat := atK_none (l := l) (i := i) (by omega)
  rw [hat] at hlen ⊢
  obtain ⟨A, c, rfl⟩ := exsC_slice hV
  have HS : Hid (Puts R t [] w (.returned (.tuple #[])) w) := ⟨rfl, by simpa using hW, Below.refl _ _, Lib.OthersKept.refl _ _ _⟩
  clear hW hT hV hlen hat hE
  generalize hk : l.length = n at *
  clear hk
  go_enter Tryz.func179, Tryz.ntmps179
  go_wp2
  go_end0
  exact HS.out
def OpI (R b c : Nat) (T : World → Prop) (l : List Ex) (V : Value) (w : World) : Prop :=
 w.heap[b]? = some (.cells #[.pointer (some ⟨R, 0, none⟩)] 123 (0, 0)) ∧ w.heap[c]? = some (.cells #[V] 143 (0, 0)) ∧ T w ∧ ExsC w (· < R) l V
theorem OpI.kept {R b c : Nat} {T : World → Prop} {l : List Ex} {V : Value} {w w' : World} (hT : ∀ w w', T w → Below R w w' → T w') (hb : b ≠ R) (hc : c ≠ R) (h : OpI R b c T l V w) (h1 : Below R w w') (h2 : Lib.OthersKept 5 (some R) w w') : OpI R b c T l V w' :=
 ⟨h2 b _ h.1 (by simpa using hb) (by intro a z e; injection e with e1 e2 e3; cases e2), h2 c _ h.2.1 (by simpa using hc) (by intro a z e; injection e with e1 e2 e3; cases e2), hT _ _ h.2.2.1 h1, h.2.2.2.same (below_same h1)⟩
theorem ent67 : EntC 216 := by intro args w; simp
set_option maxHeartbeats 800000 in
theorem operand (R b c : Nat) (T : World → Prop) (l : List Ex) (hE : ∀ e ∈ l, ExprWr R T e) (V : Value) (i : Nat) (t : List Nat) (w : World) (hW : Wr R t w) (hI : OpI R b c T l V w) (hlen : (t ++ atK (showL l) i).length ≤ 140737488355328) :
  Calls Tryz.prog 216 #[.int .i64 i, .pointer (some ⟨b, 0, none⟩), .pointer (some ⟨c, 0, none⟩)] w (Puts R t (atK (showL l) i) w) := by
 have K := Lib.hid (exprAt R T l hE V i t w hW hI.2.2.1 hI.2.2.2 hlen)
 have c1 : w.cell? ⟨b, 0, none⟩ = some (.pointer (some ⟨R, 0, none⟩)) := by rw [Lib.cell_of_heap hI.1]; rfl
 have c2 : w.cell? ⟨c, 0, none⟩ = some V := by rw [Lib.cell_of_heap hI.2.1]; rfl
 obtain ⟨A, cp, rfl⟩ := exsC_slice hI.2.2.2
 clear hW hI hlen hE
 go_enter Tryz.func216, Tryz.ntmps216
 go_wp2_with fail
 refine K.out.mono ?_
 clear K
 rintro e' w3 hp1
 have hr1 := hp1.1
 subst hr1
 have HP := Lib.hid hp1
 clear hp1
 go_wp2
 go_end0
 exact HP.out
set_option maxHeartbeats 800000 in
theorem operation (R : Nat) (T : World → Prop) (hT0 : ∀ w w', T w → Below R w w' → T w') (l : List Ex) (hE : ∀ e ∈ l, ExprWr R T e) (V : Value) (by' : ByteArray) (word : List Nat) (hb : by' = strN word) (n : Nat) (t : List Nat) (w : World) (hW : Wr R t w) (hT : T w) (hV : ExsC w (· < R) l V) (hlen : (t ++ opT word n (showL l)).length ≤ 140737488355328) :
  Calls Tryz.prog 180 #[.pointer (some ⟨R, 0, none⟩), .string by', .int .i64 n, V] w (Puts R t (opT word n (showL l)) w) := by
 obtain ⟨A, cp, hAV⟩ := exsC_slice hV
 have hlR := hW.lt
 have S0 := (Stp.alloc hW (.cells #[.pointer (some ⟨R, 0, none⟩)] 123)).trans (Stp.alloc (hW.alloc _) (.cells #[V] 143))
 have hI : OpI R w.heap.size (w.heap.size + 1) T l V ((w.alloc (.cells #[.pointer (some ⟨R, 0, none⟩)] 123)).alloc (.cells #[V] 143)) := by
  refine ⟨?_, ?_, hT0 _ _ hT S0.2.1, hV.same (below_same S0.2.1)⟩
  ·rw [Below.heap_alloc _ _ _ (by simp)]
   exact heap_alloc_new w _
  ·have := heap_alloc_new (w.alloc (.cells #[.pointer (some ⟨R, 0, none⟩)] 123)) (.cells #[V] 143)
   simpa using this
 have hl2 : t.length + (word.length + (listT (atK (showL l)) n).length) ≤ 140737488355328 := by simp [opT] at hlen; omega
 have K := Lib.hid (put1z R by' word t _ S0.1 hb (by simp; omega) (w.heap.size + 1 + 1) (by simp))
 have HI := Lib.hid hI
 have HS0 := Lib.hid S0
 have HL := Lib.hid hl2
 have HE := Lib.hid hE
 subst hAV
 clear hI S0 hl2 hlen hV hT hb
 go_enter Tryz.func180, Tryz.ntmps180
 go_wp2_with fail
 generalize (w.alloc (.cells #[.pointer (some ⟨R, 0, none⟩)] 123)).alloc (.cells #[.slice A l.length cp] 143) = w1 at *
 (with_reducible refine K.out.mono ?_)
 clear K
 rintro e' w2 hp1
 have hr1 := hp1.1
 subst hr1
 have hI2 := HI.out.kept hT0 (by omega) (by omega) hp1.2.2.1 hp1.2.2.2
 have c1 : w2.cell? ⟨w.heap.size, 0, none⟩ = some (.pointer (some ⟨R, 0, none⟩)) := by rw [Lib.cell_of_heap hI2.1]; rfl
 have HS1 := Lib.hid (HS0.out.next hp1)
 have hpw : PartW R 216 #[.pointer (some ⟨w.heap.size, 0, none⟩), .pointer (some ⟨w.heap.size + 1, 0, none⟩)] (atK (showL l)) n (OpI R w.heap.size (w.heap.size + 1) T l (.slice A l.length cp)) :=
  ⟨ent67, fun a b _ h1 _ h2 h3 => h1.kept hT0 (by omega) (by omega) h2 h3, fun i l' a _ h1 h2 h3 => operand R _ _ T l HE.out _ i l' a h2 h1 h3⟩
 have hll := HL.out
 have K := Lib.hid (listW R 216 _ _ n _ hpw _ w2 HS1.out.1 hI2 (by simp at hll ⊢; omega))
 clear hp1 hI2 hpw hll
 go_wp2_with fail
 refine K.out.mono ?_
 clear K
 rintro e' w3 hp1
 have hr1 := hp1.1
 subst hr1
 have HS3 : Hid (Stp R w (t ++ opT word n (showL l)) w3) := by
  have := HS1.out.next hp1
  show Stp _ _ _ _
  simpa [opT] using this
 clear hp1
 go_wp2
 go_end0
 exact HS3.out.puts
end
end
end Go.Proofs.YtcilgkdnjgmogaaGreatDoor
