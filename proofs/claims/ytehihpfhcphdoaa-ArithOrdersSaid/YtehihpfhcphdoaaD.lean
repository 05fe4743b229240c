/- What 'Two' returns for two ints, and for two bools, by the sign's row. Conditions: ints are of 64 bits; the sign's row is as said. -/
import Derived.Test.YtehihpfhcphdoaaC
namespace Go.Proofs.Ytehihpfhcphdoaa
open Go.RowKit

abbrev vO (t n : Int) (k : Value) : Obj := .cells #[.int .i64 t, .int .i64 n, k] 26
/-- three blocks that 'Two' makes first -/
structure Three (w : World) (t n t' n' : Int) (k k' : Value) (w' : World) : Prop where
  x : At w' w.heap.size t n k
  y : At w' (w.heap.size + 1) t' n' k'
  z : At w' (w.heap.size + 1 + 1) 0 0 nilS
  sz : w.heap.size + 3 ≤ w'.heap.size
  bl : Below w.heap.size w w'
theorem three_new (w : World) (t n t' n' : Int) (k k' : Value) : Three w t n t' n' k k' (((w.alloc (vO t n k)).alloc (vO t' n' k')).alloc zO) where
  x := ((at_new w t n k).below (below_alloc _ (vO t' n' k')) (by simp)).below (below_alloc _ zO) (by simp; omega)
  y := by have := (at_new (w.alloc (vO t n k)) t' n' k').below (below_alloc _ zO) (by simp); simpa using this
  z := by have := at_new ((w.alloc (vO t n k)).alloc (vO t' n' k')) 0 0 nilS; simpa using this
  sz := by simp
  bl := (below_two w _ _).alloc (by simp; omega) _
theorem Three.below {w w' w'' : World} {t n t' n' : Int} {k k' : Value} (h : Three w t n t' n' k k' w') (hb : Below w'.heap.size w' w'') : Three w t n t' n' k k' w'' where
  x := h.x.below hb (by have := h.sz; omega)
  y := h.y.below hb (by have := h.sz; omega)
  z := h.z.below hb (by have := h.sz; omega)
  sz := Nat.le_trans h.sz hb.size
  bl := h.bl.trans (hb.mono (by have := h.sz; omega))
theorem equalIn_fn (q : Nat) (t : TypeId) {d : TypeDesc} (h : Try.prog.underlying t = some d) (hd : ∃ a b c, d = .func a b c) (fn : Nat) (caps : Array Value) (w : World) : (Op.equalIn (q + 1) t (.func (.func fn) #[] caps) .nilFunc).run Try.prog w = .ok false w := by
  obtain ⟨a, b, c, rfl⟩ := hd
  simp [Op.equalIn, run_underlying h]
theorem equal_fn (t : TypeId) {d : TypeDesc} (h : Try.prog.underlying t = some d) (hd : ∃ a b c, d = .func a b c) (fn : Nat) (caps : Array Value) (w : World) : (Op.equal t (.func (.func fn) #[] caps) .nilFunc).run Try.prog w = .ok false w := equalIn_fn 9999 t h hd fn caps w
theorem neq_fn (t : TypeId) {d : TypeDesc} (h : Try.prog.underlying t = some d) (hd : ∃ a b c, d = .func a b c) (fn : Nat) (caps : Array Value) (w : World) : (binOp .neq t (.func (.func fn) #[] caps) .nilFunc).run Try.prog w = .ok (.bool true) w := by
  simp only [binOp]
  simp [equal_fn t h hd fn caps w]
/-- a row in a block of its own -/
theorem row_cells {w : World} {b : Nat} {v1 v2 v3 : Value} (h : w.rangeAt b 0 [v1, v2, v3]) : w.cell? ⟨b, 0, none⟩ = some v1 ∧ w.cell? ⟨b, 1, none⟩ = some v2 ∧ w.cell? ⟨b, 2, none⟩ = some v3 := ⟨h 0 _ rfl, h 1 _ rfl, h 2 _ rfl⟩
set_option maxHeartbeats 1600000 in
theorem twoI (S : ByteArray) (f : Int → Int → Ans) (hrow : ∀ w, Calls Try.prog 19 #[.string S] w (RowI f w)) (a b : Int) (k k' : Value) (w : World) (ha : fits a) (hb : fits b) :
    Calls Try.prog 10 #[.string S, VV 1 a k, VV 1 b k'] w fun e w' => e = .returned (AV (f a b)) ∧ Below w.heap.size w w' := by
  have H0 := Lib.hid (three_new w 1 a 1 b k k')
  have HR := Lib.hid hrow
  have HA := Lib.hid ha
  have HB := Lib.hid hb
  clear hrow ha hb
  have hq := fun fn caps w => neq_fn 43 Try.underlying43 ⟨_, _, _, rfl⟩ fn caps w
  go_enter Try.func10, Try.ntmps10
  go_wp2_with fail
  refine (HR.out _).mono ?_
  rintro e w1 ⟨D, v1, v2, v3, rfl, hD, h1, h2, h3, hb1⟩
  have H1 := Lib.hid (H0.out.below hb1)
  have o3 := h3.one
  have o2 := h2.one
  have HI := Lib.hid h1
  obtain ⟨fn, caps, rfl, hent, hcall⟩ := h1
  unfold Ent at hent
  have HC := Lib.hid hcall
  have HD := Lib.hid hD
  clear hcall hD h2 h3 hb1 H0
  go_wp2_with (refine wpList_storeN info47s rfl (.tmp 8) (.tmp 16) rfl rfl w1.heap.size rfl [_, _, _] rfl rfl (there_rO w1) (by simp [o2, o3]; rfl) ?_; intro w2 g1 g2 g3 g4 g5; have hb2 : Below w1.heap.size w1 w2 := (below_alloc w1 rO).trans g3; obtain ⟨x0, x1, x2⟩ := (H1.out.below hb2).x.cells; obtain ⟨y0, y1, y2⟩ := (H1.out.below hb2).y.cells; obtain ⟨r0, r1, r2⟩ := row_cells g1; have HG := Lib.hid (And.intro g1 g5); clear g1 g2 g3 g4 g5)
  refine (HC.out a b w2 HA.out HB.out (fun k hk => ⟨HD.out k hk, hb2.block k (HD.out k hk)⟩)).mono ?_
  rintro e w3 ⟨rfl, hb3⟩
  have H3 := Lib.hid ((H1.out.below hb2).below hb3)
  clear x0 x1 x2 y0 y1 y2 r0 r1 r2 hb2 hb3
  go_wp2_with (refine wpList_storeN info26s rfl (.tmp 6) (.tmp 33) rfl rfl (w.heap.size + 1 + 1) rfl [_, _, _] rfl rfl H3.out.z.2 (by simp [Value.oneCell']) ?_; intro w4 g1 g2 g3 g4 g5)
  refine bodyPost_ret (ret_cell2 (cs := [_, _, _]) Try.results10 Try.underlying26 rfl info26s _ _ (w.heap.size + 1 + 1) rfl g1) rfl ?_
  exact ⟨rfl, H3.out.bl.trans (g3.mono (by omega))⟩
end Go.Proofs.Ytehihpfhcphdoaa
