/- TypesScope: its walk, for any name. Conditions: the tables lie as the program lays them. -/
import Derived.Test.YtfcpabhkconjmaaGreatDoorMN
namespace Go.Proofs.YtfcpabhkconjmaaGreatDoor
open Go.RowKit
set_option maxRecDepth 100000
set_option linter.unusedSimpArgs false
set_option linter.unusedVariables false

theorem cell_allocz {w : World} {a : Addr} {v : Value} (h : w.cell? a = some v) (o : Obj) : (w.alloc o).cell? a = some v := cell_below h (below_alloc w o)
theorem range_belowz {w w' : World} {g : Nat} {cs : List Value} (h : w.rangeAt g 0 cs) (hb : Below w.heap.size w w') : w'.rangeAt g 0 cs := fun j u hu => cell_below (h j u hu) hb
theorem range_newz (w : World) (cs : List Value) (t : TypeId) : (w.alloc (.cells cs.toArray t)).rangeAt w.heap.size 0 cs := range_of (heap_alloc_new w _)
theorem XesC.none (w : World) (D : Nat → Prop) : XesC w D [] (.slice none 0 0) := .mk [] [] _ rfl (RowF.nothing _ _) (fun e h => by cases h) (fun i e k h => by simp at h)
theorem XssC.none (w : World) (D : Nat → Prop) : XssC w D [] (.slice none 0 0) := .mk [] [] _ rfl (RowF.nothing _ _) (fun e h => by cases h) (fun i e k h => by simp at h) (fun i e k h => by simp at h) (fun i e k h => by simp at h)
theorem XesC.morez {w : World} {D D' : Nat → Prop} {l : List Xe} {V : Value} (h : XesC w D l V) (g1 : ∀ k, D k → D' k) : XesC w D' l V := by
  induction h with
  | mk l ks V hk h1 ht _ ih => exact .mk l ks V hk (h1.more g1) ht ih
theorem XssC.morez {w : World} {D D' : Nat → Prop} {l : List Xs} {V : Value} (h : XssC w D l V) (g1 : ∀ k, D k → D' k) : XssC w D' l V := by
  induction h with
  | mk l ks V hk h1 ht he _ _ ib iF => exact .mk l ks V hk (h1.more g1) ht (fun i s k a b => (he i s k a b).morez g1) ib iF
theorem row_newz {w : World} {g n : Nat} {cs : List Value} (h : w.rangeAt g 0 cs) (hg : g < w.heap.size) (hn : n ≤ maxLen) : RowF w (Lo w.heap.size) n cs (.slice (some ⟨g, 0, none⟩) n n) := by
  refine ⟨_, _, rfl, Nat.le_refl _, hn, (fun e => by cases e), fun j u hu => ⟨_, rfl, hg, ?_⟩⟩
  have := h j u hu
  rw [Nat.zero_add] at this
  rw [Addr.add_lit, Nat.zero_add]
  exact this
/-- one expression without kids, in a block of its own -/
theorem xes_one {w : World} {g : Nat} {e : Xe} (h : w.rangeAt g 0 (xeC e (.slice none 0 0))) (hg : g < w.heap.size) (hk : e.kids = []) (ht : Byn e.text) : XesC w (Lo w.heap.size) [e] (.slice (some ⟨g, 0, none⟩) 1 1) := by
  refine .mk [e] [.slice none 0 0] _ rfl (row_newz (by simpa [xesC] using h) hg (by unfold maxLen; simp)) (fun x hx => by rw [List.mem_singleton.1 hx]; exact ht) ?_
  intro i x k h1 h2
  have hi : i = 0 := by have := (List.getElem?_eq_some_iff.1 h1).1; simpa using this
  subst hi
  simp at h1 h2
  subst h1 h2
  rw [hk]
  exact XesC.none _ _
/-- statements of which each lies, in a block of their own -/
theorem xss_new {w : World} {g : Nat} {l : List Xs} {ks : List Three} (hl : ks.length = l.length) (h : w.rangeAt g 0 (xssC l ks)) (hg : g < w.heap.size) (hn : l.length ≤ 100) (hv : ∀ (i : Nat) (s : Xs) (k : Three), l[i]? = some s → ks[i]? = some k → XsV w (Lo w.heap.size) s (.agg (xsC s k.e k.b k.f).toArray)) : XssC w (Lo w.heap.size) l (.slice (some ⟨g, 0, none⟩) l.length l.length) := by
  have hx : ∀ (i : Nat) (s : Xs) (k : Three), l[i]? = some s → ks[i]? = some k → Byn s.text ∧ XesC w (Lo w.heap.size) s.exprs k.e ∧ XssC w (Lo w.heap.size) s.body k.b ∧ XssC w (Lo w.heap.size) s.els k.f := by
    intro i s k h1 h2
    obtain ⟨k', e, a, b, c, d⟩ := hv i s k h1 h2
    simp [xsC] at e
    obtain ⟨e1, e2, e3⟩ := e
    rw [e1, e2, e3]
    exact ⟨a, b, c, d⟩
  refine .mk l ks _ hl (row_newz h hg (by unfold maxLen; omega)) ?_ (fun i s k a b => (hx i s k a b).2.1) (fun i s k a b => (hx i s k a b).2.2.1) (fun i s k a b => (hx i s k a b).2.2.2)
  intro s hs
  obtain ⟨i, hi, rfl⟩ := List.getElem_of_mem hs
  exact (hx i l[i] (ks[i]'(by omega)) (List.getElem?_eq_getElem hi) (List.getElem?_eq_getElem (by omega))).1
/-- a statement in a block of its own -/
structure Kept (w : World) (g : Nat) (x : Xs) (k : Three) : Prop where
  lt : g < w.heap.size
  cells : w.rangeAt g 0 (xsC x k.e k.b k.f)
  val : XsV w (Lo w.heap.size) x (.agg (xsC x k.e k.b k.f).toArray)
theorem XsV.belowz {w w' : World} {x : Xs} {v : Value} (h : XsV w (Lo w.heap.size) x v) (hb : Below w.heap.size w w') : XsV w' (Lo w'.heap.size) x v := by
  obtain ⟨k, h1, h2, h3, h4, h5⟩ := h.same (same_below hb (Nat.le_refl _))
  have := hb.size
  have hm : ∀ k, Lo w.heap.size k → Lo w'.heap.size k := fun k hk => Nat.lt_of_lt_of_le hk this
  exact ⟨k, h1, h2, h3.morez hm, h4.morez hm, h5.morez hm⟩
theorem Kept.below {w w' : World} {g : Nat} {x : Xs} {k : Three} (h : Kept w g x k) (hb : Below w.heap.size w w') : Kept w' g x k :=
  ⟨Nat.lt_of_lt_of_le h.lt hb.size, range_belowz h.cells hb, h.val.belowz hb⟩
theorem Kept.alloc {w : World} {g : Nat} {x : Xs} {k : Three} (h : Kept w g x k) (o : Obj) : Kept (w.alloc o) g x k := h.below (below_alloc w o)
theorem Kept.new {w : World} {x : Xs} {k : Three} (h : XsV w (Lo w.heap.size) x (.agg (xsC x k.e k.b k.f).toArray)) (t : TypeId) : Kept (w.alloc (.cells (xsC x k.e k.b k.f).toArray t)) w.heap.size x k :=
  ⟨by simp, range_newz _ _ _, h.belowz (below_alloc w _)⟩
theorem Kept.at {w : World} {g : Nat} {x : Xs} {k : Three} (h : Kept w g x k) : w.cell? ⟨g, 0, none⟩ = some (.int .i64 x.op) ∧ w.cell? ⟨g, 1, none⟩ = some (.string (strN x.text)) ∧ w.cell? ⟨g, 2, none⟩ = some k.e ∧ w.cell? ⟨g, 3, none⟩ = some k.b ∧ w.cell? ⟨g, 4, none⟩ = some k.f ∧ w.cell? ⟨g, 5, none⟩ = some (.int .i64 x.place) :=
  ⟨h.cells 0 _ rfl, h.cells 1 _ rfl, h.cells 2 _ rfl, h.cells 3 _ rfl, h.cells 4 _ rfl, h.cells 5 _ rfl⟩
theorem xsv_mk {w : World} {x : Xs} {e b : Value} (ht : Byn x.text) (he : XesC w (Lo w.heap.size) x.exprs e) (hb : XssC w (Lo w.heap.size) x.body b) (hf : x.els = []) : XsV w (Lo w.heap.size) x (.agg (xsC x e b (.slice none 0 0)).toArray) :=
  ⟨⟨e, b, .slice none 0 0⟩, rfl, ht, he, hb, by rw [hf]; exact XssC.none _ _⟩
theorem XesC.allocz {w : World} {l : List Xe} {V : Value} (h : XesC w (Lo w.heap.size) l V) (o : Obj) : XesC (w.alloc o) (Lo (w.alloc o).heap.size) l V :=
  (h.same (same_below (below_alloc w o) (Nat.le_refl _))).morez fun k hk => by unfold Lo at *; simp; omega
theorem XssC.allocz {w : World} {l : List Xs} {V : Value} (h : XssC w (Lo w.heap.size) l V) (o : Obj) : XssC (w.alloc o) (Lo (w.alloc o).heap.size) l V :=
  (h.same (same_below (below_alloc w o) (Nat.le_refl _))).morez fun k hk => by unfold Lo at *; simp; omega
theorem all1 {α β : Type} {P : α → β → Prop} {x : α} {k : β} (h : P x k) : ∀ (i : Nat) (s : α) (k' : β), [x][i]? = some s → [k][i]? = some k' → P s k' := by
  intro i s k' h1 h2
  match i, h1, h2 with
  | 0, h1, h2 => simp at h1 h2; subst h1 h2; exact h
theorem all2 {α β : Type} {P : α → β → Prop} {x y : α} {k l : β} (h : P x k) (h' : P y l) : ∀ (i : Nat) (s : α) (k' : β), [x, y][i]? = some s → [k, l][i]? = some k' → P s k' := by
  intro i s k' h1 h2
  match i, h1, h2 with
  | 0, h1, h2 => simp at h1 h2; subst h1 h2; exact h
  | 1, h1, h2 => simp at h1 h2; subst h1 h2; exact h'
theorem all3 {α β : Type} {P : α → β → Prop} {x y z : α} {k l m : β} (h : P x k) (h' : P y l) (h'' : P z m) : ∀ (i : Nat) (s : α) (k' : β), [x, y, z][i]? = some s → [k, l, m][i]? = some k' → P s k' := by
  intro i s k' h1 h2
  match i, h1, h2 with
  | 0, h1, h2 => simp at h1 h2; subst h1 h2; exact h
  | 1, h1, h2 => simp at h1 h2; subst h1 h2; exact h'
  | 2, h1, h2 => simp at h1 h2; subst h1 h2; exact h''
/-- a program of one function, in two blocks of its own: its statements, and itself -/
theorem prog_new {w : World} {g : Nat} {l : List Xs} {ks : List Three} (hl : ks.length = l.length) (h : w.rangeAt g 0 (xssC l ks)) (hg : g < w.heap.size) (hn : l.length ≤ 100) (hv : ∀ (i : Nat) (s : Xs) (k : Three), l[i]? = some s → ks[i]? = some k → XsV w (Lo w.heap.size) s (.agg (xsC s k.e k.b k.f).toArray)) (t : TypeId) :
    XfsC (w.alloc (.cells #[.string ⟨#[]⟩, .slice none 0 0, .int .i64 0, .slice (some ⟨g, 0, none⟩) l.length l.length, .int .i64 0] t)) (Lo (w.heap.size + 1)) [funX l] [⟨.slice none 0 0, .slice (some ⟨g, 0, none⟩) l.length l.length⟩] (.slice (some ⟨w.heap.size, 0, none⟩) 1 1) := by
  have R := range_newz w [.string ⟨#[]⟩, .slice none 0 0, .int .i64 0, .slice (some ⟨g, 0, none⟩) l.length l.length, .int .i64 0] t
  have hz : (w.alloc (.cells #[.string ⟨#[]⟩, .slice none 0 0, .int .i64 0, .slice (some ⟨g, 0, none⟩) l.length l.length, .int .i64 0] t)).heap.size = w.heap.size + 1 := by simp
  have X := (xss_new hl h hg hn hv).allocz (.cells #[.string ⟨#[]⟩, .slice none 0 0, .int .i64 0, .slice (some ⟨g, 0, none⟩) l.length l.length, .int .i64 0] t)
  have R2 := row_newz (n := 1) R (by rw [hz]; omega) (by unfold maxLen; omega)
  rw [hz] at X R2
  refine ⟨rfl, R2, fun i f k hf hk => ?_⟩
  have hi : i = 0 := by have := (List.getElem?_eq_some_iff.1 hf).1; simpa using this
  subst hi
  simp at hf hk
  subst hf hk
  exact ⟨(by intro b hb; cases hb), RowF.nothing _ _, (fun p hp => by cases hp), X⟩
set_option maxHeartbeats 1600000 in
theorem scope_no (s : List Nat) (w : World) (hs : Byn s) (ht : Tab w) : Calls Tryz.prog 7 #[.string (strN s), .bool false] w fun e w' => e = .returned (.bool true) ∧ Below w.heap.size w w' := by
  have K := Lib.hid (head5_true w ht)
  clear ht
  go_enter Tryz.func7, Tryz.ntmps7
  go_wp2_with fail
  with_reducible refine K.out.mono ?_
  clear K
  rintro e w1 ⟨rfl, b1⟩
  have HB1 := Lib.hid b1
  clear b1
  go_upto_region 3 with fail
  have R6 := Lib.hid (range_newz w1 [.int .i64 1, .int .i64 1, .string ⟨#[]⟩, .slice none 0 0, .int .i64 0] 46)
  have B2 := Lib.hid (bthen5 HB1.out (below_alloc w1 (.cells #[.int .i64 1, .int .i64 1, .string ⟨#[]⟩, .slice none 0 0, .int .i64 0] 46)) HB1.out.size)
  clear HB1
  generalize w1.alloc (.cells #[.int .i64 1, .int .i64 1, .string ⟨#[]⟩, .slice none 0 0, .int .i64 0] 46) = w2 at *
  generalize w1.heap.size = b6 at *
  have x0 : w2.cell? ⟨b6, 0, none⟩ = some (.int .i64 1) := R6.out 0 _ rfl
  have x1 : w2.cell? ⟨b6, 1, none⟩ = some (.int .i64 1) := R6.out 1 _ rfl
  have x2 : w2.cell? ⟨b6, 2, none⟩ = some (.string ⟨#[]⟩) := R6.out 2 _ rfl
  have x3 : w2.cell? ⟨b6, 3, none⟩ = some (.slice none 0 0) := R6.out 3 _ rfl
  have x4 : w2.cell? ⟨b6, 4, none⟩ = some (.int .i64 0) := R6.out 4 _ rfl
  go_upto_region 4 with fail
  clear x0 x1 x2 x3 x4
  have V1 : XesC (w2.alloc (.cells #[.int .i64 1, .int .i64 1, .string ⟨#[]⟩, .slice none 0 0, .int .i64 0] 46)) (Lo (w2.alloc (.cells #[.int .i64 1, .int .i64 1, .string ⟨#[]⟩, .slice none 0 0, .int .i64 0] 46)).heap.size) [oneX] (.slice (some ⟨w2.heap.size, 0, none⟩) 1 1) := xes_one (e := oneX) (range_newz w2 [.int .i64 1, .int .i64 1, .string ⟨#[]⟩, .slice none 0 0, .int .i64 0] 46) (by simp) rfl (by intro b hb; cases hb)
  have K7 := Kept.new (w := (w2.alloc (.cells #[.int .i64 1, .int .i64 1, .string ⟨#[]⟩, .slice none 0 0, .int .i64 0] 46))) (x := letX s) (k := ⟨.slice (some ⟨w2.heap.size, 0, none⟩) 1 1, .slice none 0 0, .slice none 0 0⟩) (xsv_mk hs V1 (XssC.none _ _) rfl) 48
  have hz2 : (w2.alloc (.cells #[.int .i64 1, .int .i64 1, .string ⟨#[]⟩, .slice none 0 0, .int .i64 0] 46)).heap.size = w2.heap.size + 1 := by simp
  rw [hz2] at K7
  have HK7 : Hid (Kept ((w2.alloc (.cells #[.int .i64 1, .int .i64 1, .string ⟨#[]⟩, .slice none 0 0, .int .i64 0] 46)).alloc (.cells #[.int .i64 1, .string (strN s), .slice (some ⟨w2.heap.size, 0, none⟩) 1 1, .slice none 0 0, .slice none 0 0, .int .i64 0] 48)) (w2.heap.size + 1) (letX s) ⟨.slice (some ⟨w2.heap.size, 0, none⟩) 1 1, .slice none 0 0, .slice none 0 0⟩) := K7
  have R63 : Hid (((w2.alloc (.cells #[.int .i64 1, .int .i64 1, .string ⟨#[]⟩, .slice none 0 0, .int .i64 0] 46)).alloc (.cells #[.int .i64 1, .string (strN s), .slice (some ⟨w2.heap.size, 0, none⟩) 1 1, .slice none 0 0, .slice none 0 0, .int .i64 0] 48)).rangeAt b6 0 [.int .i64 1, .int .i64 1, .string ⟨#[]⟩, .slice none 0 0, .int .i64 0]) := range_belowz (range_belowz R6.out (below_alloc w2 _)) (below_alloc _ _)
  have B3 : Hid (Below w.heap.size w ((w2.alloc (.cells #[.int .i64 1, .int .i64 1, .string ⟨#[]⟩, .slice none 0 0, .int .i64 0] 46)).alloc (.cells #[.int .i64 1, .string (strN s), .slice (some ⟨w2.heap.size, 0, none⟩) 1 1, .slice none 0 0, .slice none 0 0, .int .i64 0] 48))) := bthen5 (bthen5 B2.out (below_alloc w2 _) B2.out.size) (below_alloc _ _) (Nat.le_trans B2.out.size (below_alloc w2 _).size)
  clear K7 V1 R6 B2 hz2
  generalize (w2.alloc (.cells #[.int .i64 1, .int .i64 1, .string ⟨#[]⟩, .slice none 0 0, .int .i64 0] 46)).alloc (.cells #[.int .i64 1, .string (strN s), .slice (some ⟨w2.heap.size, 0, none⟩) 1 1, .slice none 0 0, .slice none 0 0, .int .i64 0] 48) = w3 at *
  generalize w2.heap.size + 1 = b7 at *
  generalize w2.heap.size = e7 at *
  have z0 : (w3.alloc (.cells #[.int .i64 2, .int .i64 0, .string ⟨#[]⟩, .slice none 0 0, .int .i64 0] 46)).cell? ⟨b7, 0, none⟩ = some (.int .i64 1) := (Kept.at (HK7.out.alloc _)).1
  have z1 : (w3.alloc (.cells #[.int .i64 2, .int .i64 0, .string ⟨#[]⟩, .slice none 0 0, .int .i64 0] 46)).cell? ⟨b7, 1, none⟩ = some (.string (strN s)) := (Kept.at (HK7.out.alloc _)).2.1
  have z2 : (w3.alloc (.cells #[.int .i64 2, .int .i64 0, .string ⟨#[]⟩, .slice none 0 0, .int .i64 0] 46)).cell? ⟨b7, 2, none⟩ = some (.slice (some ⟨e7, 0, none⟩) 1 1) := (Kept.at (HK7.out.alloc _)).2.2.1
  have z3 : (w3.alloc (.cells #[.int .i64 2, .int .i64 0, .string ⟨#[]⟩, .slice none 0 0, .int .i64 0] 46)).cell? ⟨b7, 3, none⟩ = some (.slice none 0 0) := (Kept.at (HK7.out.alloc _)).2.2.2.1
  have z4 : (w3.alloc (.cells #[.int .i64 2, .int .i64 0, .string ⟨#[]⟩, .slice none 0 0, .int .i64 0] 46)).cell? ⟨b7, 4, none⟩ = some (.slice none 0 0) := (Kept.at (HK7.out.alloc _)).2.2.2.2.1
  have z5 : (w3.alloc (.cells #[.int .i64 2, .int .i64 0, .string ⟨#[]⟩, .slice none 0 0, .int .i64 0] 46)).cell? ⟨b7, 5, none⟩ = some (.int .i64 0) := (Kept.at (HK7.out.alloc _)).2.2.2.2.2
  go_upto_region 5 with fail
  clear z0 z1 z2 z3 z4 z5
  have V2 : XesC (w3.alloc (.cells #[.int .i64 2, .int .i64 0, .string ⟨#[]⟩, .slice none 0 0, .int .i64 0] 46)) (Lo (w3.alloc (.cells #[.int .i64 2, .int .i64 0, .string ⟨#[]⟩, .slice none 0 0, .int .i64 0] 46)).heap.size) [yesX] (.slice (some ⟨w3.heap.size, 0, none⟩) 1 1) := xes_one (e := yesX) (range_newz w3 [.int .i64 2, .int .i64 0, .string ⟨#[]⟩, .slice none 0 0, .int .i64 0] 46) (by simp) rfl (by intro b hb; cases hb)
  have hz3 : (w3.alloc (.cells #[.int .i64 2, .int .i64 0, .string ⟨#[]⟩, .slice none 0 0, .int .i64 0] 46)).heap.size = w3.heap.size + 1 := by simp
  have hz4 : ((w3.alloc (.cells #[.int .i64 2, .int .i64 0, .string ⟨#[]⟩, .slice none 0 0, .int .i64 0] 46)).alloc (.cells #[.int .i64 1, .string (strN s), .slice (some ⟨e7, 0, none⟩) 1 1, .slice none 0 0, .slice none 0 0, .int .i64 0] 48)).heap.size = w3.heap.size + 2 := by simp
  have V3 := xss_new (w := ((w3.alloc (.cells #[.int .i64 2, .int .i64 0, .string ⟨#[]⟩, .slice none 0 0, .int .i64 0] 46)).alloc (.cells #[.int .i64 1, .string (strN s), .slice (some ⟨e7, 0, none⟩) 1 1, .slice none 0 0, .slice none 0 0, .int .i64 0] 48))) (g := (w3.alloc (.cells #[.int .i64 2, .int .i64 0, .string ⟨#[]⟩, .slice none 0 0, .int .i64 0] 46)).heap.size) (l := [letX s]) (ks := [⟨.slice (some ⟨e7, 0, none⟩) 1 1, .slice none 0 0, .slice none 0 0⟩]) rfl (range_newz (w3.alloc (.cells #[.int .i64 2, .int .i64 0, .string ⟨#[]⟩, .slice none 0 0, .int .i64 0] 46)) [.int .i64 1, .string (strN s), .slice (some ⟨e7, 0, none⟩) 1 1, .slice none 0 0, .slice none 0 0, .int .i64 0] 48) (by simp) (by simp) (all1 ((HK7.out.alloc _).alloc _).val)
  have K8 := Kept.new (w := ((w3.alloc (.cells #[.int .i64 2, .int .i64 0, .string ⟨#[]⟩, .slice none 0 0, .int .i64 0] 46)).alloc (.cells #[.int .i64 1, .string (strN s), .slice (some ⟨e7, 0, none⟩) 1 1, .slice none 0 0, .slice none 0 0, .int .i64 0] 48))) (x := ifX [letX s]) (k := ⟨.slice (some ⟨w3.heap.size, 0, none⟩) 1 1, .slice (some ⟨(w3.alloc (.cells #[.int .i64 2, .int .i64 0, .string ⟨#[]⟩, .slice none 0 0, .int .i64 0] 46)).heap.size, 0, none⟩) 1 1, .slice none 0 0⟩) (xsv_mk (by intro b hb; cases hb) (V2.allocz _) V3 rfl) 48
  rw [hz4, hz3] at K8
  have HK8 : Hid (Kept (((w3.alloc (.cells #[.int .i64 2, .int .i64 0, .string ⟨#[]⟩, .slice none 0 0, .int .i64 0] 46)).alloc (.cells #[.int .i64 1, .string (strN s), .slice (some ⟨e7, 0, none⟩) 1 1, .slice none 0 0, .slice none 0 0, .int .i64 0] 48)).alloc (.cells #[.int .i64 3, .string ⟨#[]⟩, .slice (some ⟨w3.heap.size, 0, none⟩) 1 1, .slice (some ⟨w3.heap.size + 1, 0, none⟩) 1 1, .slice none 0 0, .int .i64 0] 48)) (w3.heap.size + 2) (ifX [letX s]) ⟨.slice (some ⟨w3.heap.size, 0, none⟩) 1 1, .slice (some ⟨w3.heap.size + 1, 0, none⟩) 1 1, .slice none 0 0⟩) := K8
  have HK74 : Hid (Kept (((w3.alloc (.cells #[.int .i64 2, .int .i64 0, .string ⟨#[]⟩, .slice none 0 0, .int .i64 0] 46)).alloc (.cells #[.int .i64 1, .string (strN s), .slice (some ⟨e7, 0, none⟩) 1 1, .slice none 0 0, .slice none 0 0, .int .i64 0] 48)).alloc (.cells #[.int .i64 3, .string ⟨#[]⟩, .slice (some ⟨w3.heap.size, 0, none⟩) 1 1, .slice (some ⟨w3.heap.size + 1, 0, none⟩) 1 1, .slice none 0 0, .int .i64 0] 48)) b7 (letX s) ⟨.slice (some ⟨e7, 0, none⟩) 1 1, .slice none 0 0, .slice none 0 0⟩) := ((HK7.out.alloc _).alloc _).alloc _
  have R64 : Hid ((((w3.alloc (.cells #[.int .i64 2, .int .i64 0, .string ⟨#[]⟩, .slice none 0 0, .int .i64 0] 46)).alloc (.cells #[.int .i64 1, .string (strN s), .slice (some ⟨e7, 0, none⟩) 1 1, .slice none 0 0, .slice none 0 0, .int .i64 0] 48)).alloc (.cells #[.int .i64 3, .string ⟨#[]⟩, .slice (some ⟨w3.heap.size, 0, none⟩) 1 1, .slice (some ⟨w3.heap.size + 1, 0, none⟩) 1 1, .slice none 0 0, .int .i64 0] 48)).rangeAt b6 0 [.int .i64 1, .int .i64 1, .string ⟨#[]⟩, .slice none 0 0, .int .i64 0]) := range_belowz (range_belowz (range_belowz R63.out (below_alloc w3 _)) (below_alloc _ _)) (below_alloc _ _)
  have B4 : Hid (Below w.heap.size w (((w3.alloc (.cells #[.int .i64 2, .int .i64 0, .string ⟨#[]⟩, .slice none 0 0, .int .i64 0] 46)).alloc (.cells #[.int .i64 1, .string (strN s), .slice (some ⟨e7, 0, none⟩) 1 1, .slice none 0 0, .slice none 0 0, .int .i64 0] 48)).alloc (.cells #[.int .i64 3, .string ⟨#[]⟩, .slice (some ⟨w3.heap.size, 0, none⟩) 1 1, .slice (some ⟨w3.heap.size + 1, 0, none⟩) 1 1, .slice none 0 0, .int .i64 0] 48))) := B3.out.trans ((((below_alloc w3 _).trans ((below_alloc _ _).mono (by simp))).trans ((below_alloc _ _).mono (by simp; omega))).mono B3.out.size)
  clear K8 V2 V3 HK7 R63 B3 hz3 hz4
  generalize ((w3.alloc (.cells #[.int .i64 2, .int .i64 0, .string ⟨#[]⟩, .slice none 0 0, .int .i64 0] 46)).alloc (.cells #[.int .i64 1, .string (strN s), .slice (some ⟨e7, 0, none⟩) 1 1, .slice none 0 0, .slice none 0 0, .int .i64 0] 48)).alloc (.cells #[.int .i64 3, .string ⟨#[]⟩, .slice (some ⟨w3.heap.size, 0, none⟩) 1 1, .slice (some ⟨w3.heap.size + 1, 0, none⟩) 1 1, .slice none 0 0, .int .i64 0] 48) = w4 at *
  generalize w3.heap.size + 2 = b8 at *
  generalize w3.heap.size + 1 = f8 at *
  generalize w3.heap.size = e8 at *
  go_upto_region 8 with fail
  have x0 : w4.cell? ⟨b6, 0, none⟩ = some (.int .i64 1) := R64.out 0 _ rfl
  have x1 : w4.cell? ⟨b6, 1, none⟩ = some (.int .i64 1) := R64.out 1 _ rfl
  have x2 : w4.cell? ⟨b6, 2, none⟩ = some (.string ⟨#[]⟩) := R64.out 2 _ rfl
  have x3 : w4.cell? ⟨b6, 3, none⟩ = some (.slice none 0 0) := R64.out 3 _ rfl
  have x4 : w4.cell? ⟨b6, 4, none⟩ = some (.int .i64 0) := R64.out 4 _ rfl
  go_upto_region 9 with fail
  clear x0 x1 x2 x3 x4
  have V1 : XesC (w4.alloc (.cells #[.int .i64 1, .int .i64 1, .string ⟨#[]⟩, .slice none 0 0, .int .i64 0] 46)) (Lo (w4.alloc (.cells #[.int .i64 1, .int .i64 1, .string ⟨#[]⟩, .slice none 0 0, .int .i64 0] 46)).heap.size) [oneX] (.slice (some ⟨w4.heap.size, 0, none⟩) 1 1) := xes_one (e := oneX) (range_newz w4 [.int .i64 1, .int .i64 1, .string ⟨#[]⟩, .slice none 0 0, .int .i64 0] 46) (by simp) rfl (by intro b hb; cases hb)
  have K10 := Kept.new (w := (w4.alloc (.cells #[.int .i64 1, .int .i64 1, .string ⟨#[]⟩, .slice none 0 0, .int .i64 0] 46))) (x := setX s) (k := ⟨.slice (some ⟨w4.heap.size, 0, none⟩) 1 1, .slice none 0 0, .slice none 0 0⟩) (xsv_mk hs V1 (XssC.none _ _) rfl) 48
  have hz2 : (w4.alloc (.cells #[.int .i64 1, .int .i64 1, .string ⟨#[]⟩, .slice none 0 0, .int .i64 0] 46)).heap.size = w4.heap.size + 1 := by simp
  rw [hz2] at K10
  have HK105 : Hid (Kept ((w4.alloc (.cells #[.int .i64 1, .int .i64 1, .string ⟨#[]⟩, .slice none 0 0, .int .i64 0] 46)).alloc (.cells #[.int .i64 2, .string (strN s), .slice (some ⟨w4.heap.size, 0, none⟩) 1 1, .slice none 0 0, .slice none 0 0, .int .i64 9] 48)) (w4.heap.size + 1) (setX s) ⟨.slice (some ⟨w4.heap.size, 0, none⟩) 1 1, .slice none 0 0, .slice none 0 0⟩) := K10
  have HK75 : Hid (Kept ((w4.alloc (.cells #[.int .i64 1, .int .i64 1, .string ⟨#[]⟩, .slice none 0 0, .int .i64 0] 46)).alloc (.cells #[.int .i64 2, .string (strN s), .slice (some ⟨w4.heap.size, 0, none⟩) 1 1, .slice none 0 0, .slice none 0 0, .int .i64 9] 48)) b7 (letX s) ⟨.slice (some ⟨e7, 0, none⟩) 1 1, .slice none 0 0, .slice none 0 0⟩) := (HK74.out.alloc _).alloc _
  have HK85 : Hid (Kept ((w4.alloc (.cells #[.int .i64 1, .int .i64 1, .string ⟨#[]⟩, .slice none 0 0, .int .i64 0] 46)).alloc (.cells #[.int .i64 2, .string (strN s), .slice (some ⟨w4.heap.size, 0, none⟩) 1 1, .slice none 0 0, .slice none 0 0, .int .i64 9] 48)) b8 (ifX [letX s]) ⟨.slice (some ⟨e8, 0, none⟩) 1 1, .slice (some ⟨f8, 0, none⟩) 1 1, .slice none 0 0⟩) := (HK8.out.alloc _).alloc _
  have B5 : Hid (Below w.heap.size w ((w4.alloc (.cells #[.int .i64 1, .int .i64 1, .string ⟨#[]⟩, .slice none 0 0, .int .i64 0] 46)).alloc (.cells #[.int .i64 2, .string (strN s), .slice (some ⟨w4.heap.size, 0, none⟩) 1 1, .slice none 0 0, .slice none 0 0, .int .i64 9] 48))) := B4.out.trans (((below_alloc w4 _).trans ((below_alloc _ _).mono (by simp))).mono B4.out.size)
  clear K10 V1 R64 B4 hz2 HK74 HK8
  generalize (w4.alloc (.cells #[.int .i64 1, .int .i64 1, .string ⟨#[]⟩, .slice none 0 0, .int .i64 0] 46)).alloc (.cells #[.int .i64 2, .string (strN s), .slice (some ⟨w4.heap.size, 0, none⟩) 1 1, .slice none 0 0, .slice none 0 0, .int .i64 9] 48) = w5 at *
  generalize w4.heap.size + 1 = b10 at *
  generalize w4.heap.size = e10 at *
  have zI0 : w5.cell? ⟨b8, 0, none⟩ = some (.int .i64 3) := (Kept.at (HK85.out)).1
  have zI1 : w5.cell? ⟨b8, 1, none⟩ = some (.string ⟨#[]⟩) := (Kept.at (HK85.out)).2.1
  have zI2 : w5.cell? ⟨b8, 2, none⟩ = some (.slice (some ⟨e8, 0, none⟩) 1 1) := (Kept.at (HK85.out)).2.2.1
  have zI3 : w5.cell? ⟨b8, 3, none⟩ = some (.slice (some ⟨f8, 0, none⟩) 1 1) := (Kept.at (HK85.out)).2.2.2.1
  have zI4 : w5.cell? ⟨b8, 4, none⟩ = some (.slice none 0 0) := (Kept.at (HK85.out)).2.2.2.2.1
  have zI5 : w5.cell? ⟨b8, 5, none⟩ = some (.int .i64 0) := (Kept.at (HK85.out)).2.2.2.2.2
  have X := prog_new (w := (w5.alloc (.cells #[.int .i64 3, .string ⟨#[]⟩, .slice (some ⟨e8, 0, none⟩) 1 1, .slice (some ⟨f8, 0, none⟩) 1 1, .slice none 0 0, .int .i64 0, .int .i64 3, .string ⟨#[]⟩, .slice (some ⟨e8, 0, none⟩) 1 1, .slice (some ⟨f8, 0, none⟩) 1 1, .slice none 0 0, .int .i64 0] 48))) (g := w5.heap.size) (l := [ifX [letX s], ifX [letX s]]) (ks := [⟨.slice (some ⟨e8, 0, none⟩) 1 1, .slice (some ⟨f8, 0, none⟩) 1 1, .slice none 0 0⟩, ⟨.slice (some ⟨e8, 0, none⟩) 1 1, .slice (some ⟨f8, 0, none⟩) 1 1, .slice none 0 0⟩]) rfl (range_newz w5 [.int .i64 3, .string ⟨#[]⟩, .slice (some ⟨e8, 0, none⟩) 1 1, .slice (some ⟨f8, 0, none⟩) 1 1, .slice none 0 0, .int .i64 0, .int .i64 3, .string ⟨#[]⟩, .slice (some ⟨e8, 0, none⟩) 1 1, .slice (some ⟨f8, 0, none⟩) 1 1, .slice none 0 0, .int .i64 0] 48) (by simp) (by simp) (all2 (HK85.out.alloc _).val (HK85.out.alloc _).val) 36
  have hz : (w5.alloc (.cells #[.int .i64 3, .string ⟨#[]⟩, .slice (some ⟨e8, 0, none⟩) 1 1, .slice (some ⟨f8, 0, none⟩) 1 1, .slice none 0 0, .int .i64 0, .int .i64 3, .string ⟨#[]⟩, .slice (some ⟨e8, 0, none⟩) 1 1, .slice (some ⟨f8, 0, none⟩) 1 1, .slice none 0 0, .int .i64 0] 48)).heap.size = w5.heap.size + 1 := by simp
  rw [hz] at X
  have KC := checkC _ _ _ _ _ (w5.heap.size + 1 + 1) (by simp) X
  rw [show checkM [funX [ifX [letX s], ifX [letX s]]] = (0, 0) from scopeA s false] at KC
  have HKC : Hid (Calls Tryz.prog 15 #[.agg #[.slice (some ⟨w5.heap.size + 1, 0, none⟩) 1 1]] ((w5.alloc (.cells #[.int .i64 3, .string ⟨#[]⟩, .slice (some ⟨e8, 0, none⟩) 1 1, .slice (some ⟨f8, 0, none⟩) 1 1, .slice none 0 0, .int .i64 0, .int .i64 3, .string ⟨#[]⟩, .slice (some ⟨e8, 0, none⟩) 1 1, .slice (some ⟨f8, 0, none⟩) 1 1, .slice none 0 0, .int .i64 0] 48)).alloc (.cells #[.string ⟨#[]⟩, .slice none 0 0, .int .i64 0, .slice (some ⟨w5.heap.size, 0, none⟩) 2 2, .int .i64 0] 36)) _) := KC
  have HB : Hid (Below w5.heap.size w5 ((w5.alloc (.cells #[.int .i64 3, .string ⟨#[]⟩, .slice (some ⟨e8, 0, none⟩) 1 1, .slice (some ⟨f8, 0, none⟩) 1 1, .slice none 0 0, .int .i64 0, .int .i64 3, .string ⟨#[]⟩, .slice (some ⟨e8, 0, none⟩) 1 1, .slice (some ⟨f8, 0, none⟩) 1 1, .slice none 0 0, .int .i64 0] 48)).alloc (.cells #[.string ⟨#[]⟩, .slice none 0 0, .int .i64 0, .slice (some ⟨w5.heap.size, 0, none⟩) 2 2, .int .i64 0] 36))) := (below_alloc _ _).trans ((below_alloc _ _).mono (by simp))
  clear X KC hz
  go_wp2_with fail
  clear zI0 zI1 zI2 zI3 zI4 zI5
  generalize (w5.alloc (.cells #[.int .i64 3, .string ⟨#[]⟩, .slice (some ⟨e8, 0, none⟩) 1 1, .slice (some ⟨f8, 0, none⟩) 1 1, .slice none 0 0, .int .i64 0, .int .i64 3, .string ⟨#[]⟩, .slice (some ⟨e8, 0, none⟩) 1 1, .slice (some ⟨f8, 0, none⟩) 1 1, .slice none 0 0, .int .i64 0] 48)).alloc (.cells #[.string ⟨#[]⟩, .slice none 0 0, .int .i64 0, .slice (some ⟨w5.heap.size, 0, none⟩) 2 2, .int .i64 0] 36) = v5 at *
  with_reducible refine HKC.out.mono ?_
  clear HKC
  rintro e w6 ⟨rfl, bb⟩
  have HB2 := HB.out.trans (bb.mono HB.out.size)
  have HK76 := Lib.hid (HK75.out.below HB2)
  have HK86 := Lib.hid (HK85.out.below HB2)
  have HK106 := Lib.hid (HK105.out.below HB2)
  have B6 := Lib.hid (B5.out.trans (HB2.mono B5.out.size))
  clear HB bb HB2 B5 HK75 HK85 HK105
  go_upto_region 10 with fail
  have zI0 : w6.cell? ⟨b8, 0, none⟩ = some (.int .i64 3) := (Kept.at (HK86.out)).1
  have zI1 : w6.cell? ⟨b8, 1, none⟩ = some (.string ⟨#[]⟩) := (Kept.at (HK86.out)).2.1
  have zI2 : w6.cell? ⟨b8, 2, none⟩ = some (.slice (some ⟨e8, 0, none⟩) 1 1) := (Kept.at (HK86.out)).2.2.1
  have zI3 : w6.cell? ⟨b8, 3, none⟩ = some (.slice (some ⟨f8, 0, none⟩) 1 1) := (Kept.at (HK86.out)).2.2.2.1
  have zI4 : w6.cell? ⟨b8, 4, none⟩ = some (.slice none 0 0) := (Kept.at (HK86.out)).2.2.2.2.1
  have zI5 : w6.cell? ⟨b8, 5, none⟩ = some (.int .i64 0) := (Kept.at (HK86.out)).2.2.2.2.2
  have zS0 : w6.cell? ⟨b10, 0, none⟩ = some (.int .i64 2) := (Kept.at (HK106.out)).1
  have zS1 : w6.cell? ⟨b10, 1, none⟩ = some (.string (strN s)) := (Kept.at (HK106.out)).2.1
  have zS2 : w6.cell? ⟨b10, 2, none⟩ = some (.slice (some ⟨e10, 0, none⟩) 1 1) := (Kept.at (HK106.out)).2.2.1
  have zS3 : w6.cell? ⟨b10, 3, none⟩ = some (.slice none 0 0) := (Kept.at (HK106.out)).2.2.2.1
  have zS4 : w6.cell? ⟨b10, 4, none⟩ = some (.slice none 0 0) := (Kept.at (HK106.out)).2.2.2.2.1
  have zS5 : w6.cell? ⟨b10, 5, none⟩ = some (.int .i64 9) := (Kept.at (HK106.out)).2.2.2.2.2
  have X := prog_new (w := (w6.alloc (.cells #[.int .i64 3, .string ⟨#[]⟩, .slice (some ⟨e8, 0, none⟩) 1 1, .slice (some ⟨f8, 0, none⟩) 1 1, .slice none 0 0, .int .i64 0, .int .i64 2, .string (strN s), .slice (some ⟨e10, 0, none⟩) 1 1, .slice none 0 0, .slice none 0 0, .int .i64 9] 48))) (g := w6.heap.size) (l := [ifX [letX s], setX s]) (ks := [⟨.slice (some ⟨e8, 0, none⟩) 1 1, .slice (some ⟨f8, 0, none⟩) 1 1, .slice none 0 0⟩, ⟨.slice (some ⟨e10, 0, none⟩) 1 1, .slice none 0 0, .slice none 0 0⟩]) rfl (range_newz w6 [.int .i64 3, .string ⟨#[]⟩, .slice (some ⟨e8, 0, none⟩) 1 1, .slice (some ⟨f8, 0, none⟩) 1 1, .slice none 0 0, .int .i64 0, .int .i64 2, .string (strN s), .slice (some ⟨e10, 0, none⟩) 1 1, .slice none 0 0, .slice none 0 0, .int .i64 9] 48) (by simp) (by simp) (all2 (HK86.out.alloc _).val (HK106.out.alloc _).val) 36
  have hz : (w6.alloc (.cells #[.int .i64 3, .string ⟨#[]⟩, .slice (some ⟨e8, 0, none⟩) 1 1, .slice (some ⟨f8, 0, none⟩) 1 1, .slice none 0 0, .int .i64 0, .int .i64 2, .string (strN s), .slice (some ⟨e10, 0, none⟩) 1 1, .slice none 0 0, .slice none 0 0, .int .i64 9] 48)).heap.size = w6.heap.size + 1 := by simp
  rw [hz] at X
  have KC := checkC _ _ _ _ _ (w6.heap.size + 1 + 1) (by simp) X
  rw [show checkM [funX [ifX [letX s], setX s]] = (52, 9) from scopeB s false] at KC
  have HKC : Hid (Calls Tryz.prog 15 #[.agg #[.slice (some ⟨w6.heap.size + 1, 0, none⟩) 1 1]] ((w6.alloc (.cells #[.int .i64 3, .string ⟨#[]⟩, .slice (some ⟨e8, 0, none⟩) 1 1, .slice (some ⟨f8, 0, none⟩) 1 1, .slice none 0 0, .int .i64 0, .int .i64 2, .string (strN s), .slice (some ⟨e10, 0, none⟩) 1 1, .slice none 0 0, .slice none 0 0, .int .i64 9] 48)).alloc (.cells #[.string ⟨#[]⟩, .slice none 0 0, .int .i64 0, .slice (some ⟨w6.heap.size, 0, none⟩) 2 2, .int .i64 0] 36)) _) := KC
  have HB : Hid (Below w6.heap.size w6 ((w6.alloc (.cells #[.int .i64 3, .string ⟨#[]⟩, .slice (some ⟨e8, 0, none⟩) 1 1, .slice (some ⟨f8, 0, none⟩) 1 1, .slice none 0 0, .int .i64 0, .int .i64 2, .string (strN s), .slice (some ⟨e10, 0, none⟩) 1 1, .slice none 0 0, .slice none 0 0, .int .i64 9] 48)).alloc (.cells #[.string ⟨#[]⟩, .slice none 0 0, .int .i64 0, .slice (some ⟨w6.heap.size, 0, none⟩) 2 2, .int .i64 0] 36))) := (below_alloc _ _).trans ((below_alloc _ _).mono (by simp))
  clear X KC hz
  go_wp2_with fail
  clear zI0 zI1 zI2 zI3 zI4 zI5
  clear zS0 zS1 zS2 zS3 zS4 zS5
  generalize (w6.alloc (.cells #[.int .i64 3, .string ⟨#[]⟩, .slice (some ⟨e8, 0, none⟩) 1 1, .slice (some ⟨f8, 0, none⟩) 1 1, .slice none 0 0, .int .i64 0, .int .i64 2, .string (strN s), .slice (some ⟨e10, 0, none⟩) 1 1, .slice none 0 0, .slice none 0 0, .int .i64 9] 48)).alloc (.cells #[.string ⟨#[]⟩, .slice none 0 0, .int .i64 0, .slice (some ⟨w6.heap.size, 0, none⟩) 2 2, .int .i64 0] 36) = v6 at *
  with_reducible refine HKC.out.mono ?_
  clear HKC
  rintro e w7 ⟨rfl, bb⟩
  have HB2 := HB.out.trans (bb.mono HB.out.size)
  have HK77 := Lib.hid (HK76.out.below HB2)
  have HK87 := Lib.hid (HK86.out.below HB2)
  have HK107 := Lib.hid (HK106.out.below HB2)
  have B7 := Lib.hid (B6.out.trans (HB2.mono B6.out.size))
  clear HB bb HB2 B6 HK76 HK86 HK106
  go_upto_region 11 with fail
  have zL0 : w7.cell? ⟨b7, 0, none⟩ = some (.int .i64 1) := (Kept.at (HK77.out)).1
  have zL1 : w7.cell? ⟨b7, 1, none⟩ = some (.string (strN s)) := (Kept.at (HK77.out)).2.1
  have zL2 : w7.cell? ⟨b7, 2, none⟩ = some (.slice (some ⟨e7, 0, none⟩) 1 1) := (Kept.at (HK77.out)).2.2.1
  have zL3 : w7.cell? ⟨b7, 3, none⟩ = some (.slice none 0 0) := (Kept.at (HK77.out)).2.2.2.1
  have zL4 : w7.cell? ⟨b7, 4, none⟩ = some (.slice none 0 0) := (Kept.at (HK77.out)).2.2.2.2.1
  have zL5 : w7.cell? ⟨b7, 5, none⟩ = some (.int .i64 0) := (Kept.at (HK77.out)).2.2.2.2.2
  have zS0 : w7.cell? ⟨b10, 0, none⟩ = some (.int .i64 2) := (Kept.at (HK107.out)).1
  have zS1 : w7.cell? ⟨b10, 1, none⟩ = some (.string (strN s)) := (Kept.at (HK107.out)).2.1
  have zS2 : w7.cell? ⟨b10, 2, none⟩ = some (.slice (some ⟨e10, 0, none⟩) 1 1) := (Kept.at (HK107.out)).2.2.1
  have zS3 : w7.cell? ⟨b10, 3, none⟩ = some (.slice none 0 0) := (Kept.at (HK107.out)).2.2.2.1
  have zS4 : w7.cell? ⟨b10, 4, none⟩ = some (.slice none 0 0) := (Kept.at (HK107.out)).2.2.2.2.1
  have zS5 : w7.cell? ⟨b10, 5, none⟩ = some (.int .i64 9) := (Kept.at (HK107.out)).2.2.2.2.2
  have zI0 : w7.cell? ⟨b8, 0, none⟩ = some (.int .i64 3) := (Kept.at (HK87.out)).1
  have zI1 : w7.cell? ⟨b8, 1, none⟩ = some (.string ⟨#[]⟩) := (Kept.at (HK87.out)).2.1
  have zI2 : w7.cell? ⟨b8, 2, none⟩ = some (.slice (some ⟨e8, 0, none⟩) 1 1) := (Kept.at (HK87.out)).2.2.1
  have zI3 : w7.cell? ⟨b8, 3, none⟩ = some (.slice (some ⟨f8, 0, none⟩) 1 1) := (Kept.at (HK87.out)).2.2.2.1
  have zI4 : w7.cell? ⟨b8, 4, none⟩ = some (.slice none 0 0) := (Kept.at (HK87.out)).2.2.2.2.1
  have zI5 : w7.cell? ⟨b8, 5, none⟩ = some (.int .i64 0) := (Kept.at (HK87.out)).2.2.2.2.2
  have X := prog_new (w := (w7.alloc (.cells #[.int .i64 1, .string (strN s), .slice (some ⟨e7, 0, none⟩) 1 1, .slice none 0 0, .slice none 0 0, .int .i64 0, .int .i64 2, .string (strN s), .slice (some ⟨e10, 0, none⟩) 1 1, .slice none 0 0, .slice none 0 0, .int .i64 9, .int .i64 3, .string ⟨#[]⟩, .slice (some ⟨e8, 0, none⟩) 1 1, .slice (some ⟨f8, 0, none⟩) 1 1, .slice none 0 0, .int .i64 0] 48))) (g := w7.heap.size) (l := [letX s, setX s, ifX [letX s]]) (ks := [⟨.slice (some ⟨e7, 0, none⟩) 1 1, .slice none 0 0, .slice none 0 0⟩, ⟨.slice (some ⟨e10, 0, none⟩) 1 1, .slice none 0 0, .slice none 0 0⟩, ⟨.slice (some ⟨e8, 0, none⟩) 1 1, .slice (some ⟨f8, 0, none⟩) 1 1, .slice none 0 0⟩]) rfl (range_newz w7 [.int .i64 1, .string (strN s), .slice (some ⟨e7, 0, none⟩) 1 1, .slice none 0 0, .slice none 0 0, .int .i64 0, .int .i64 2, .string (strN s), .slice (some ⟨e10, 0, none⟩) 1 1, .slice none 0 0, .slice none 0 0, .int .i64 9, .int .i64 3, .string ⟨#[]⟩, .slice (some ⟨e8, 0, none⟩) 1 1, .slice (some ⟨f8, 0, none⟩) 1 1, .slice none 0 0, .int .i64 0] 48) (by simp) (by simp) (all3 (HK77.out.alloc _).val (HK107.out.alloc _).val (HK87.out.alloc _).val) 36
  have hz : (w7.alloc (.cells #[.int .i64 1, .string (strN s), .slice (some ⟨e7, 0, none⟩) 1 1, .slice none 0 0, .slice none 0 0, .int .i64 0, .int .i64 2, .string (strN s), .slice (some ⟨e10, 0, none⟩) 1 1, .slice none 0 0, .slice none 0 0, .int .i64 9, .int .i64 3, .string ⟨#[]⟩, .slice (some ⟨e8, 0, none⟩) 1 1, .slice (some ⟨f8, 0, none⟩) 1 1, .slice none 0 0, .int .i64 0] 48)).heap.size = w7.heap.size + 1 := by simp
  rw [hz] at X
  have KC := checkC _ _ _ _ _ (w7.heap.size + 1 + 1) (by simp) X
  rw [show checkM [funX [letX s, setX s, ifX [letX s]]] = (53, 0) from scopeC s false] at KC
  have HKC : Hid (Calls Tryz.prog 15 #[.agg #[.slice (some ⟨w7.heap.size + 1, 0, none⟩) 1 1]] ((w7.alloc (.cells #[.int .i64 1, .string (strN s), .slice (some ⟨e7, 0, none⟩) 1 1, .slice none 0 0, .slice none 0 0, .int .i64 0, .int .i64 2, .string (strN s), .slice (some ⟨e10, 0, none⟩) 1 1, .slice none 0 0, .slice none 0 0, .int .i64 9, .int .i64 3, .string ⟨#[]⟩, .slice (some ⟨e8, 0, none⟩) 1 1, .slice (some ⟨f8, 0, none⟩) 1 1, .slice none 0 0, .int .i64 0] 48)).alloc (.cells #[.string ⟨#[]⟩, .slice none 0 0, .int .i64 0, .slice (some ⟨w7.heap.size, 0, none⟩) 3 3, .int .i64 0] 36)) _) := KC
  have HB : Hid (Below w7.heap.size w7 ((w7.alloc (.cells #[.int .i64 1, .string (strN s), .slice (some ⟨e7, 0, none⟩) 1 1, .slice none 0 0, .slice none 0 0, .int .i64 0, .int .i64 2, .string (strN s), .slice (some ⟨e10, 0, none⟩) 1 1, .slice none 0 0, .slice none 0 0, .int .i64 9, .int .i64 3, .string ⟨#[]⟩, .slice (some ⟨e8, 0, none⟩) 1 1, .slice (some ⟨f8, 0, none⟩) 1 1, .slice none 0 0, .int .i64 0] 48)).alloc (.cells #[.string ⟨#[]⟩, .slice none 0 0, .int .i64 0, .slice (some ⟨w7.heap.size, 0, none⟩) 3 3, .int .i64 0] 36))) := (below_alloc _ _).trans ((below_alloc _ _).mono (by simp))
  clear X KC hz
  go_wp2_with fail
  clear zL0 zL1 zL2 zL3 zL4 zL5
  clear zS0 zS1 zS2 zS3 zS4 zS5
  clear zI0 zI1 zI2 zI3 zI4 zI5
  generalize (w7.alloc (.cells #[.int .i64 1, .string (strN s), .slice (some ⟨e7, 0, none⟩) 1 1, .slice none 0 0, .slice none 0 0, .int .i64 0, .int .i64 2, .string (strN s), .slice (some ⟨e10, 0, none⟩) 1 1, .slice none 0 0, .slice none 0 0, .int .i64 9, .int .i64 3, .string ⟨#[]⟩, .slice (some ⟨e8, 0, none⟩) 1 1, .slice (some ⟨f8, 0, none⟩) 1 1, .slice none 0 0, .int .i64 0] 48)).alloc (.cells #[.string ⟨#[]⟩, .slice none 0 0, .int .i64 0, .slice (some ⟨w7.heap.size, 0, none⟩) 3 3, .int .i64 0] 36) = v7 at *
  with_reducible refine HKC.out.mono ?_
  clear HKC
  rintro e w8 ⟨rfl, bb⟩
  have HB2 := HB.out.trans (bb.mono HB.out.size)
  have HK78 := Lib.hid (HK77.out.below HB2)
  have HK88 := Lib.hid (HK87.out.below HB2)
  have HK108 := Lib.hid (HK107.out.below HB2)
  have B8 := Lib.hid (B7.out.trans (HB2.mono B7.out.size))
  clear HB bb HB2 B7 HK77 HK87 HK107
  go_upto_region 12 with fail
  go_wp2
  go_ret
  exact ⟨rfl, B8.out⟩
end Go.Proofs.YtfcpabhkconjmaaGreatDoor
