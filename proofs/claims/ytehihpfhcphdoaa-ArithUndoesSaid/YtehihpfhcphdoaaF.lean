/- What 'Text', 'Same', the document's 'Same' and what joins two texts return. Conditions: none beyond what a slice is. -/
import Derived.Test.YtehihpfhcphdoaaE
namespace Go.Proofs.Ytehihpfhcphdoaa
open Go.RowKit

theorem own_from {w : World} {base : Nat} {e : TypeId} {v : Value} {n : Nat} {xs : List Value} (h : w.ownsRow base e 1 v n xs) : ∀ ad k c, v = .slice (some ad) k c → base ≤ ad.block := by
  intro ad k c hv
  rcases h.2 with ⟨rfl, _⟩ | ⟨g, cap, cur, rfl, hb, _⟩
  · cases hv
  · injection hv with h1
    injection h1 with h1
    subst h1
    exact hb
theorem Lies.other {w w' : World} {B g : Nat} {A : Option Addr} {c : Nat} {l : List Value} (h : Lies w B A c l) (hA : ∀ ad, A = some ad → ad.block ≠ g) (hk : ∀ k, k ≠ g → w'.heap[k]? = w.heap[k]?) : Lies w' B A c l :=
  ⟨h.1, fun j u hu => by
    obtain ⟨ad, e, hb, hc⟩ := h.2 j u hu
    exact ⟨ad, e, hb, by rw [World.cell?_of_block (hk _ (by rw [addr_block]; exact hA ad e))]; exact hc⟩⟩
/-- what a call returns that makes a byte string anew -/
def NewBytes (w : World) (l : List Int) (e : Ending) (w' : World) : Prop :=
  ∃ A' c', e = .returned (.slice A' l.length c') ∧ l.length ≤ c' ∧ c' ≤ maxLen ∧ Lies w' w'.heap.size A' c' (cellsOf l) ∧ (∀ ad, A' = some ad → w.heap.size ≤ ad.block) ∧ Below w.heap.size w w'
theorem own_empty (w : World) : (w.alloc (.cells #[] 5)).ownsRow w.heap.size 5 1 (.slice (some ⟨w.heap.size, 0, none⟩) 0 0) 0 [] :=
  World.ownsRow_made w #[] 0 (Nat.le_refl _) (Nat.zero_le _) rfl
/-- a slice against nil -/
theorem eq_nil (w : World) (A : Option Addr) (n c : Nat) : (binOp .eql 24 (.slice A n c) (.slice none 0 0)).run Try.prog w = .ok (.bool A.isNone) w := by
  simp only [binOp]
  simp [run_equal_slice_nil w 24 5 A n c Try.underlying24]

set_option maxHeartbeats 400000 in
theorem clone (A : Option Addr) (l : List Int) (c : Nat) (w : World) (hl : Lies w w.heap.size A c (cellsOf l)) (hlen : l.length ≤ 140737488355328) :
    Calls Try.prog 21 #[.slice A l.length c] w (NewBytes w l) := by
  obtain ⟨i0, hi, hz0, hz1, hz2⟩ := info_parts info5
  cases A with
  | none =>
    obtain ⟨h1, rfl⟩ := hl.none_nil
    have h2 : l = [] := by simpa using h1
    subst h2
    clear h1 hl hlen
    have hnil := eq_nil w none 0 0
    go_enter Try.func21, Try.ntmps21
    go_wp2
    go_ret
    exact ⟨none, 0, rfl, Nat.le_refl _, Nat.zero_le _, Lies.nothing _ _, (fun _ h => by cases h), Below.refl _ _⟩
  | some ad =>
    have ho := own_empty w
    have hb := (Below.refl w.heap.size w).alloc (Nat.le_refl _) (.cells #[] 5)
    have hl1 := hl.below hb
    clear hl
    have hnil := eq_nil w (some ad) l.length c
    go_enter Try.func21, Try.ntmps21
    go_wp2_with (at_builtin; refine wpList_append_lies rfl (.tmp 5) (.tmp 6) 24 rfl w.heap.size 5 i0 (.int .u8 0) 1 Try.underlying24 hi hz0 hz1 hz2 rfl _ 0 [] rfl ho w.heap.size (some ad) l.length c (cellsOf l) rfl (by simp) hl1 (bytes_oneCell l) (by unfold maxLen; omega) (by omega) (by simp) ?_; intro v2 w2 ho2 hg2)
    obtain ⟨A2, c2, rfl, h1, h2, h3⟩ := own_lies ho2
    have h4 := own_from ho2
    have H4 := Lib.hid h4
    clear h4
    go_wp2
    go_ret
    simp only [Nat.zero_add, List.nil_append] at h1 h3 ⊢
    exact ⟨A2, c2, rfl, h1, h2, h3, (fun ad e => H4.out ad _ _ (by rw [e])), hb.grown hg2 (by simp) (fun k hk => (ho.lt k hk).1)⟩
/-- what 'Text' returns -/
def NewText (w : World) (l : List Int) (e : Ending) (w' : World) : Prop :=
  ∃ A' c', e = .returned (VV 3 0 (.slice A' l.length c')) ∧ l.length ≤ c' ∧ c' ≤ maxLen ∧ Lies w' w'.heap.size A' c' (cellsOf l) ∧ (∀ ad, A' = some ad → w.heap.size ≤ ad.block) ∧ Below w.heap.size w w'
set_option maxHeartbeats 400000 in
theorem textC (A : Option Addr) (l : List Int) (n c : Nat) (hn : l.length = n) (w : World) (hl : Lies w w.heap.size A c (cellsOf l)) (hlen : n ≤ 140737488355328) :
    Calls Try.prog 13 #[.slice A n c] w (NewText w l) := by
  subst hn
  have HL := Lib.hid ((hl.below (below_alloc w zO)).more (Nat.le_succ _))
  clear hl
  go_enter Try.func13, Try.ntmps13
  go_wp2_with fail
  refine (clone A l c _ (by simpa using HL.out) hlen).mono ?_
  rintro e w1 ⟨A1, c1, rfl, h1, h2, h3, h4, hb1⟩
  have HT := there_below (there_zO w) hb1 (by simp)
  have H3 := Lib.hid h3
  have H4 := Lib.hid h4
  clear h3 h4
  go_wp2_with (refine wpList_storeN info26s rfl (.tmp 2) (.tmp 5) rfl rfl w.heap.size rfl [_, _, _] rfl rfl HT (by simp [Value.oneCell']) ?_; intro w2 g1 g2 g3 g4 g5)
  refine bodyPost_ret (ret_cell (cs := [_, _, _]) Try.results13 Try.underlying26 rfl info26s _ _ w.heap.size rfl g1) rfl ?_
  refine ⟨A1, c1, rfl, h1, h2, ?_, fun ad e => ?_, ((below_alloc w zO).trans (hb1.mono (by simp))).trans g3⟩
  · rw [g5]
    exact H3.out.other (fun ad e => by have := H4.out ad e; simp at this; omega) g4
  · have := H4.out ad e
    simp at this
    omega

set_option maxHeartbeats 400000 in
theorem equalC (A B : Option Addr) (s : List Int) (n c d : Nat) (hn : s.length = n) (w : World) (hs : Lies w w.heap.size A c (cellsOf s)) (hu : Lies w w.heap.size B d (cellsOf s)) :
    Calls Try.prog 23 #[.slice A n c, .slice B n d] w fun e w' => e = .returned (.bool true) ∧ w = w' := by
  have q1 := run_string_lies (P := Try.prog) w 24 9 5 Try.underlying24 Try.underlying5 Try.underlying9 w.heap.size A n c s hn hs
  have q2 := run_string_lies (P := Try.prog) w 24 9 5 Try.underlying24 Try.underlying5 Try.underlying9 w.heap.size B n d s hn hu
  generalize strOfNums s = S at *
  clear hs hu
  go_enter Try.func23, Try.ntmps23
  go_wp2
  go_ret
  exact ⟨by rfl, rfl⟩
theorem lies_two {w : World} {A : Option Addr} {c : Nat} {l : List Value} (h : Lies w w.heap.size A c l) (a b : Obj) : Lies ((w.alloc a).alloc b) ((w.alloc a).alloc b).heap.size A c l :=
  (h.below (below_two w a b)).more (by simp; omega)
set_option maxHeartbeats 400000 in
theorem sameC (t m : Int) (A B : Option Addr) (s : List Int) (n c d : Nat) (hn : s.length = n) (w : World) (hs : Lies w w.heap.size A c (cellsOf s)) (hu : Lies w w.heap.size B d (cellsOf s)) :
    Calls Try.prog 18 #[VV t m (.slice A n c), VV t m (.slice B n d)] w fun e w' => e = .returned (.bool true) ∧ Below w.heap.size w w' := by
  have K := Lib.hid (equalC A B s n c d hn ((w.alloc (vO t m (.slice A n c))).alloc (vO t m (.slice B n d))) (lies_two hs _ _) (lies_two hu _ _))
  clear hs hu
  go_enter Try.func18, Try.ntmps18
  go_wp2_with fail
  refine K.out.mono ?_
  rintro e w1 ⟨rfl, rfl⟩
  go_wp2
  go_ret
  exact ⟨rfl, below_two _ _ _⟩
set_option maxHeartbeats 400000 in
theorem refSame (t m : Int) (A B : Option Addr) (s : List Int) (n c d : Nat) (hn : s.length = n) (w : World) (hs : Lies w w.heap.size A c (cellsOf s)) (hu : Lies w w.heap.size B d (cellsOf s)) :
    Calls Try.prog 12 #[VV t m (.slice A n c), VV t m (.slice B n d)] w fun e w' => e = .returned (.bool true) ∧ Below w.heap.size w w' := by
  have q1 := run_string_lies (P := Try.prog) _ 24 9 5 Try.underlying24 Try.underlying5 Try.underlying9 _ A n c s hn (lies_two hs (vO t m (.slice A n c)) (vO t m (.slice B n d)))
  have q2 := run_string_lies (P := Try.prog) _ 24 9 5 Try.underlying24 Try.underlying5 Try.underlying9 _ B n d s hn (lies_two hu (vO t m (.slice A n c)) (vO t m (.slice B n d)))
  generalize strOfNums s = S at *
  clear hs hu
  go_enter Try.func12, Try.ntmps12
  go_wp2
  go_ret
  exact ⟨rfl, below_two _ _ _⟩
/-- two values without a text that are one -/
theorem refSame0 (t m : Int) (w : World) : Calls Try.prog 12 #[VV t m nilS, VV t m nilS] w fun e w' => e = .returned (.bool true) ∧ Below w.heap.size w w' :=
  refSame t m none none [] 0 0 0 rfl w (Lies.nothing _ _) (Lies.nothing _ _)
theorem push_modify (a : Array Obj) (x : Obj) (f : Obj → Obj) : (a.push x).modify a.size f = a.push (f x) := by
  apply Array.ext
  · simp
  · intro i h1 h2
    simp only [Array.getElem_modify, Array.getElem_push]
    by_cases h : a.size = i
    · subst h
      simp
    · have hi : i < a.size := by simp at h1; omega
      simp [h, hi]
/-- a constant string's bytes: the block bears the mark behind its last cell -/
theorem run_marked (w : World) (C : Array Value) (n c : Nat) :
    (convert 24 24 (.slice (some ⟨w.heap.size, 0, none⟩) n c)).run Try.prog (w.alloc (.cells C 5)) = .ok (.slice (some ⟨w.heap.size, 0, none⟩) n c) (w.alloc (.cells C 5 (C.size, C.size + 1))) := by
  have hsh : (w.alloc (.cells C 5)).shape? w.heap.size = some (5, C.size) := by
    have : (w.alloc (.cells C 5)).heap[w.heap.size]? = some (.cells C 5) := heap_alloc_new w _
    unfold World.shape?
    rw [this]
  have hfr : (w.alloc (.cells C 5)).freeze ⟨w.heap.size, C.size, none⟩ 1 = w.alloc (.cells C 5 (C.size, C.size + 1)) := by
    unfold World.freeze
    rw [if_neg (by decide)]
    show ({ w.alloc (.cells C 5) with heap := (w.heap.push (.cells C 5)).modify w.heap.size _ } : World) = _
    rw [push_modify]
    rfl
  simp [convert, run_underlying Try.underlying24, run_underlying Try.underlying5, markStringish, hsh]
  exact hfr
/-- a block just made, as a slice that lies -/
theorem lies_new (w : World) (l : List Int) (c : Nat) (fr : Nat × Nat) : Lies (w.alloc (.cells (cellsOf l).toArray 5 fr)) (w.heap.size + 1) (some ⟨w.heap.size, 0, none⟩) c (cellsOf l) := by
  refine ⟨(fun e => by cases e), fun j u hu => ⟨_, rfl, by simp, ?_⟩⟩
  have hb : (w.alloc (.cells (cellsOf l).toArray 5 fr)).heap[w.heap.size]? = some (.cells (cellsOf l).toArray 5 fr) := heap_alloc_new w _
  rw [Addr.add_lit, cell_of_row _ _ _ _ _ _ hb]
  simpa using hu
end Go.Proofs.Ytehihpfhcphdoaa
