/- What the program's deferred function does when the reader has panicked, and when it has not. Conditions: the results' variables lie in memory. -/
import Derived.Test.YtoicncfpoklanaaDoorPy
import Derived.Test.YtoicncfpoklanaaDoorWo
import Derived.Defers
import Derived.Recover
namespace Go.Proofs.YtoicncfpoklanaaDoor
open Go.RowKit
set_option maxRecDepth 100000
set_option linter.unusedSimpArgs false

theorem eql_nil (w : World) : (binOp .eql 20 .nilIface .nilIface).run Tryd.prog w = .ok (.bool true) w := by
  have h : ∀ d : Nat, (Op.equalIn (d + 1) 20 .nilIface .nilIface).run Tryd.prog w = .ok true w := fun d => by simp [Op.equalIn, run_underlying Tryd.underlying20]
  simp only [binOp]
  simp [Op.equal, Op.maxDepth, h 9999]
theorem eql_some (w : World) (u : TypeId) (v : Value) : (binOp .eql 20 (.iface u v) .nilIface).run Tryd.prog w = .ok (.bool false) w := by
  have h : ∀ d : Nat, (Op.equalIn (d + 1) 20 (.iface u v) .nilIface).run Tryd.prog w = .ok false w := fun d => by simp [Op.equalIn, run_underlying Tryd.underlying20]
  simp only [binOp]
  simp [Op.equal, Op.maxDepth, h 9999]
theorem assert55 (w : World) (v : Value) : (Instr.typeAssert (.iface 55 v) 20 55 true).run Tryd.prog w = .ok (.tuple #[v, .bool true]) w := by
  simp [Instr.typeAssert, run_underlying Tryd.underlying55]
theorem slots14 (a b c v : Value) : #[a, b, c] ++ ((Array.replicate 19 undef).setIfInBounds 3 v).setIfInBounds 0 v = #[a, b, c, v, undef, undef, v, undef, undef, undef, undef, undef, undef, undef, undef, undef, undef, undef, undef, undef, undef, undef] := by kernel_rfl
theorem post_ret {P : Program} {fn : Func} {c₀ : Frame} {cs : List Frame} {R : Ending → FrameMode → World → Prop} {a : Act} {v : Value} {c : Frame} {w : World} (hc : c = { c₀ with mode := c.mode }) (hv : (results fn a.tmps).run P w = .ok v w) (hd : a.defers = []) (hR : R (.returned v) c.mode w) :
    bodyPostS P fn c₀ cs R Exit.ret a (c :: cs) w := by
  exact ⟨hd, c.mode, by rw [← hc], v, hv, hR⟩
theorem post_norm {P : Program} {fn : Func} {c₀ : Frame} {cs : List Frame} {R : Ending → FrameMode → World → Prop} {a : Act} {v : Value} {c : Frame} {w : World} (hc : c = { c₀ with mode := c.mode }) (hv : (results fn a.tmps).run P w = .ok v w) (hd : a.defers = []) (hR : R (.returned v) c.mode w) :
    bodyPostS P fn c₀ cs R Exit.normal a (c :: cs) w := by
  exact ⟨hd, c.mode, by rw [← hc], v, hv, hR⟩
set_option maxHeartbeats 400000 in
theorem catch_idle (a b c : Addr) (w : World) :
    CallsD Tryd.prog 14 #[.pointer (some a), .pointer (some b), .pointer (some c)] .returning w fun e u' w' => e = .returned (.tuple #[]) ∧ u' = .returning ∧ w' = w := by
  have hen := eql_nil
  refine callsD_of_wpS Tryd.func14 rfl fun c₀ cs hu => ?_
  apply wpS_seq
  apply wpS_region
  generalize hQ : Exit.thenS _ _ = Q'
  simp only [Tryd.ntmps14]
  simp [wpOpsS, go_sem, recoverD, hu]
  rw [← hQ]
  simp only [Exit.thenS]
  clear hQ
  refine wpS_of_wp ?_
  rw [slots14]
  go_wp2
  refine post_ret (v := .tuple #[]) rfl ?_ rfl ?_
  · simp [results, Tryd.results14]
  · exact ⟨rfl, hu, rfl⟩
set_option maxHeartbeats 800000 in
theorem catch_panicking (a b c : Nat) (code place : Nat) (older : List PanicEntry) (w : World) (u0 : Value) (x0 y0 : Int) (ha : VarAt w a [u0]) (hb : VarAt w b [.int .i64 x0]) (hc : VarAt w c [.int .i64 y0]) (hab : a ≠ b) (hac : a ≠ c) (hbc : b ≠ c) :
    CallsD Tryd.prog 14 #[.pointer (some ⟨a, 0, none⟩), .pointer (some ⟨b, 0, none⟩), .pointer (some ⟨c, 0, none⟩)] (.panicking ({ v := .iface 55 (.agg #[.int .i64 code, .int .i64 place]), recovered := false } :: older)) w fun e u' w' =>
      e = .returned (.tuple #[]) ∧ u' = .panicking ({ v := .iface 55 (.agg #[.int .i64 code, .int .i64 place]), recovered := true } :: older) ∧ VarAt w' a [.slice none 0 0] ∧ VarAt w' b [.int .i64 code] ∧ VarAt w' c [.int .i64 place] ∧ ∀ B, B ≤ a → B ≤ b → B ≤ c → Below B w w' := by
  have hes := eql_some
  have has := assert55
  have la := ha.lt (by simp)
  have lb := hb.lt (by simp)
  have lc := hc.lt (by simp)
  obtain ⟨a1, a2⟩ := ha.cell 0 _ rfl
  obtain ⟨b1, b2⟩ := hb.cell 0 _ rfl
  obtain ⟨c1, c2⟩ := hc.cell 0 _ rfl
  have HA := Lib.hid ha
  have HB := Lib.hid hb
  have HC := Lib.hid hc
  clear ha hb hc
  refine callsD_of_wpS Tryd.func14 rfl fun c₀ cs hu => ?_
  apply wpS_seq
  apply wpS_region
  generalize hQ : Exit.thenS _ _ = Q'
  simp only [Tryd.ntmps14]
  simp [wpOpsS, go_sem, recoverD, hu]
  rw [← hQ]
  simp only [Exit.thenS]
  clear hQ
  refine wpS_of_wp ?_
  rw [slots14]
  go_wp2_with fail
  go_region
  have va := ((HA.out.set 0 (.slice none 0 0)).of (set_other (b := b) (i := 0) (u := .int .i64 code) a hab)).of (set_other (b := c) (i := 0) (u := .int .i64 place) a hac)
  have vb := ((HB.out.of (set_other (b := a) (i := 0) (u := .slice none 0 0) b (Ne.symm hab))).set 0 (.int .i64 code)).of (set_other (b := c) (i := 0) (u := .int .i64 place) b hbc)
  have vc := ((HC.out.of (set_other (b := a) (i := 0) (u := .slice none 0 0) c (Ne.symm hac))).of (set_other (b := b) (i := 0) (u := .int .i64 code) c (Ne.symm hbc))).set 0 (.int .i64 place)
  have hsz : (((w.setCell ⟨a, 0, none⟩ (.slice none 0 0)).setCell ⟨b, 0, none⟩ (.int .i64 code)).setCell ⟨c, 0, none⟩ (.int .i64 place)).heap.size = w.heap.size := by rw [set_size, set_size, set_size]
  have hbel : ∀ B, B ≤ a → B ≤ b → B ≤ c → Below B w (((w.setCell ⟨a, 0, none⟩ (.slice none 0 0)).setCell ⟨b, 0, none⟩ (.int .i64 code)).setCell ⟨c, 0, none⟩ (.int .i64 place)) := fun B h1 h2 h3 =>
    (((Below.refl B w).setCell (p := ⟨a, 0, none⟩) h1 _).setCell (p := ⟨b, 0, none⟩) h2 _).setCell (p := ⟨c, 0, none⟩) h3 _
  generalize ((w.setCell ⟨a, 0, none⟩ (.slice none 0 0)).setCell ⟨b, 0, none⟩ (.int .i64 code)).setCell ⟨c, 0, none⟩ (.int .i64 place) = w3 at *
  have hblk : ∀ k, k < w3.heap.size → (w3.alloc (.cells #[.int .i64 code, .int .i64 place] 55)).drew.heap[k]? = w3.heap[k]? := fun k hk => Below.heap_alloc _ _ _ hk
  refine post_norm (v := .tuple #[]) (c := { c₀ with mode := .panicking ({ v := .iface 55 (.agg #[.int .i64 code, .int .i64 place]), recovered := true } :: older) }) rfl ?_ rfl ?_
  · simp [results, Tryd.results14]
  · exact ⟨rfl, rfl, va.of (hblk a (by omega)), vb.of (hblk b (by omega)), vc.of (hblk c (by omega)), fun B h1 h2 h3 => ((hbel B h1 h2 h3).alloc (by omega) _).drew⟩
end Go.Proofs.YtoicncfpoklanaaDoor
