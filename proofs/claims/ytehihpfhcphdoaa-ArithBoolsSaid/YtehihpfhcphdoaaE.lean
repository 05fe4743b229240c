/- What 'Two' returns for two bools, and what 'One' returns. Conditions: the sign's row is as said. -/
import Derived.Test.YtehihpfhcphdoaaD
namespace Go.Proofs.Ytehihpfhcphdoaa
open Go.RowKit

theorem Kept.of {D : Nat → Prop} {w w' : World} (hb : Below w.heap.size w w') (hD : ∀ k, D k → k < w.heap.size) : Kept D w w' := fun k hk => ⟨hD k hk, hb.block k (hD k hk)⟩
theorem Kept.cells {D : Nat → Prop} {w w' : World} (h : Kept D w w') {g o : Nat} (hg : ¬D g) (cs : List Value) : Kept D w (w'.setCells g o cs) := fun k hk => ⟨(h k hk).1, by rw [(below_cells g o cs w').2.1 k (fun e => hg (e ▸ hk))]; exact (h k hk).2⟩
theorem Kept.cell' {D : Nat → Prop} {w w' : World} (h : Kept D w w') {a : Addr} (hc : D a.block) {v : Value} (hv : w.cell? a = some v) : w'.cell? a = some v := by
  rw [World.cell?_of_block (h _ hc).2]; exact hv
theorem At.keptc {D : Nat → Prop} {w w' : World} (hk : Kept D w w') {b : Nat} (hc : D b) {t n : Int} {k : Value} (h : At w b t n k) : w'.cell? ⟨b, 0, none⟩ = some (.int .i64 t) ∧ w'.cell? ⟨b, 1, none⟩ = some (.int .i64 n) ∧ w'.cell? ⟨b, 2, none⟩ = some k :=
  ⟨hk.cell' hc h.cells.1, hk.cell' hc h.cells.2.1, hk.cell' hc h.cells.2.2⟩

set_option maxHeartbeats 1600000 in
theorem twoB (S : ByteArray) (f : Bool → Bool → Bool) (hrow : ∀ w, Calls Try.prog 19 #[.string S] w (RowB f w)) (a b : Int) (w : World) :
    Calls Try.prog 10 #[.string S, VV 2 a nilS, VV 2 b nilS] w fun e w' => e = .returned (AV ⟨2, b2i (f (a == 1) (b == 1)), 0⟩) ∧ Below w.heap.size w w' := by
  have H0 := Lib.hid (three_new w 2 a 2 b nilS nilS)
  have HR := Lib.hid hrow
  clear hrow
  have hq := fun fn caps w => neq_fn 44 Try.underlying44 ⟨_, _, _, rfl⟩ fn caps w
  go_enter Try.func10, Try.ntmps10
  go_wp2_with fail
  refine (HR.out _).mono ?_
  rintro e w1 ⟨D, v1, v2, v3, rfl, hD, h1, h2, h3, hb1⟩
  have H1 := Lib.hid (H0.out.below hb1)
  have o3 := h3.one
  have o1 := h1.one
  obtain ⟨fn, caps, rfl, hent, hcall⟩ := h2
  unfold Ent at hent
  have HC := Lib.hid hcall
  have HD := Lib.hid hD
  clear hcall hD h1 h3 hb1 H0
  go_wp2_with (refine wpList_storeN info47s rfl (.tmp 8) (.tmp 16) rfl rfl w1.heap.size rfl [_, _, _] rfl rfl (there_rO w1) (by simp [o1, o3]; rfl) ?_; intro w2 g1 g2 g3 g4 g5; have hb2 : Below w1.heap.size w1 w2 := (below_alloc w1 rO).trans g3; obtain ⟨x0, x1, x2⟩ := (H1.out.below hb2).x.cells; obtain ⟨y0, y1, y2⟩ := (H1.out.below hb2).y.cells; obtain ⟨r0, r1, r2⟩ := row_cells g1; have HG := Lib.hid (And.intro g1 g5); clear g1 g2 g3 g4 g5)
  have H2 := Lib.hid (H1.out.below hb2)
  have hs1 := H1.out.sz
  have hs2 : w2.heap.size = w1.heap.size + 1 := by have := HG.out.2; simpa using this
  have hbl : Below w2.heap.size w2 w2.drew := (Below.refl _ _).drew
  have HD0 : Hid (∀ k, (k < w2.heap.size ∧ k ≠ w.heap.size + 1 + 1) → k < w2.heap.size) := fun k hk => hk.1
  have HS : Hid (∀ w', Kept (fun k => k < w2.heap.size ∧ k ≠ w.heap.size + 1 + 1) w2 w' → (w'.cell? ⟨w1.heap.size, 1, none⟩ = some (.func (.func fn) #[] caps) ∧ (w'.cell? ⟨w.heap.size, 0, none⟩ = some (.int .i64 2) ∧ w'.cell? ⟨w.heap.size, 1, none⟩ = some (.int .i64 a) ∧ w'.cell? ⟨w.heap.size, 2, none⟩ = some nilS) ∧ (w'.cell? ⟨w.heap.size + 1, 0, none⟩ = some (.int .i64 2) ∧ w'.cell? ⟨w.heap.size + 1, 1, none⟩ = some (.int .i64 b) ∧ w'.cell? ⟨w.heap.size + 1, 2, none⟩ = some nilS))) :=
    fun w' hk => ⟨hk.cell' (a := ⟨w1.heap.size, 1, none⟩) ⟨by show w1.heap.size < _; omega, by show w1.heap.size ≠ _; omega⟩ r1, At.keptc hk ⟨by omega, by omega⟩ H2.out.x, At.keptc hk ⟨by omega, by omega⟩ H2.out.y⟩
  have HK : Hid (∀ w', Below w2.heap.size w2 w' → Kept D w1 w') := fun w' hb k hk => ⟨HD.out k hk, by rw [hb.block k (by have := HD.out k hk; omega), hb2.block k (HD.out k hk)]⟩
  have HZ : Hid (w.heap.size + 1 + 1 < w2.heap.size) := by show _ < _; omega
  clear x0 x1 x2 y0 y1 y2 r0 r1 r2 hs1 hs2
  go_region_held3 (fun w' => w'.cell? ⟨w1.heap.size, 1, none⟩ = some (.func (.func fn) #[] caps) ∧ (w'.cell? ⟨w.heap.size, 0, none⟩ = some (.int .i64 2) ∧ w'.cell? ⟨w.heap.size, 1, none⟩ = some (.int .i64 a) ∧ w'.cell? ⟨w.heap.size, 2, none⟩ = some nilS) ∧ (w'.cell? ⟨w.heap.size + 1, 0, none⟩ = some (.int .i64 2) ∧ w'.cell? ⟨w.heap.size + 1, 1, none⟩ = some (.int .i64 b) ∧ w'.cell? ⟨w.heap.size + 1, 2, none⟩ = some nilS))
    (first | exact HS.out _ (Kept.of hbl HD0.out) | exact HS.out _ ((Kept.of hbl HD0.out).cells (g := w.heap.size + 1 + 1) (o := 0) (fun h => h.2 rfl) [_, _, _]))
    (first | (go_at_call 20; refine (isTrueC _ _ _ _).mono ?_; rintro e wn ⟨rfl, hbn⟩; replace hbl := hbl.trans (hbn.mono hbl.size)) | (go_at_call 17; refine (boolC _ _).mono ?_; rintro e wn ⟨rfl, hbn⟩; replace hbl := hbl.trans (hbn.mono hbl.size); obtain ⟨u0, u1, u2, v0, v1, v2⟩ := (H2.out.z.below hbl HZ.out).facts) | (refine (HC.out _ _ _ (HK.out _ hbl)).mono ?_; rintro e wn ⟨rfl, hbn⟩; replace hbl := hbl.trans (hbn.mono hbl.size)))
  have HT2 := (H2.out.z.below hbl HZ.out).2
  have HB : Hid (Below w.heap.size w wn) := H2.out.bl.trans (hbl.mono (by have := HZ.out; omega))
  go_wp2
  refine bodyPost_ret (ret_cell2 (cs := [_, _, _]) Try.results10 Try.underlying26 rfl info26s _ _ (w.heap.size + 1 + 1) rfl (World.rangeAt_setCells_same wn (w.heap.size + 1 + 1) 0 [_, _, _] HT2)) rfl ?_
  exact ⟨rfl, HB.out.trans ((below_cells (w.heap.size + 1 + 1) 0 [_, _, _] wn).1.mono (by omega))⟩

theorem two_cells (w : World) (t n : Int) (k : Value) : At ((w.alloc (vO t n k)).alloc zO) w.heap.size t n k ∧ At ((w.alloc (vO t n k)).alloc zO) (w.heap.size + 1) 0 0 nilS ∧ Below w.heap.size w ((w.alloc (vO t n k)).alloc zO) :=
  ⟨(at_new w t n k).below (below_alloc _ zO) (by simp), by have := at_new (w.alloc (vO t n k)) 0 0 nilS; simpa using this, below_two w _ _⟩
set_option maxHeartbeats 800000 in
theorem oneNeg (a : Int) (k : Value) (w : World) (ha : fits a) :
    Calls Try.prog 15 #[.string ⟨#[45]⟩, VV 1 a k] w fun e w' => e = .returned (AV (ansOf (-a))) ∧ Below w.heap.size w w' := by
  have H0 := Lib.hid (two_cells w 1 a k)
  have K := Lib.hid (fun w => by have h := diffC 0 a w (by unfold fits; omega) ha; rw [Int.zero_sub] at h; exact h)
  clear ha
  go_enter Try.func15, Try.ntmps15
  go_wp2_with fail
  refine (K.out _).mono ?_
  rintro e w1 ⟨rfl, hb1⟩
  have HZ := H0.out.2.1.below hb1 (by simp)
  go_wp2_with (refine wpList_storeN info26s rfl (.tmp 4) (.tmp 17) rfl rfl (w.heap.size + 1) rfl [_, _, _] rfl rfl HZ.2 (by simp [Value.oneCell']) ?_; intro w4 g1 g2 g3 g4 g5)
  refine bodyPost_ret (ret_cell2 (cs := [_, _, _]) Try.results15 Try.underlying26 rfl info26s _ _ (w.heap.size + 1) rfl g1) rfl ?_
  exact ⟨rfl, (H0.out.2.2.trans (hb1.mono (by simp; omega))).trans (g3.mono (by omega))⟩
set_option maxHeartbeats 800000 in
theorem oneNot (a : Int) (k : Value) (w : World) :
    Calls Try.prog 15 #[.string ⟨#[33]⟩, VV 2 a k] w fun e w' => e = .returned (AV ⟨2, b2i (!(a == 1)), 0⟩) ∧ Below w.heap.size w w' := by
  have H0 := Lib.hid (two_cells w 2 a k)
  go_enter Try.func15, Try.ntmps15
  go_wp2_with fail
  refine (isTrueC _ _ _ _).mono ?_
  rintro e w1 ⟨rfl, hb1⟩
  go_wp2_with fail
  refine (boolC _ _).mono ?_
  rintro e w2 ⟨rfl, hb2⟩
  have s1 := hb1.size
  simp only [World.size_alloc] at s1
  have HZ := (H0.out.2.1.below hb1 (by simp)).below hb2 (by omega)
  go_wp2_with (refine wpList_storeN info26s rfl (.tmp 4) (.tmp 30) rfl rfl (w.heap.size + 1) rfl [_, _, _] rfl rfl HZ.2 (by simp [Value.oneCell']) ?_; intro w4 g1 g2 g3 g4 g5)
  refine bodyPost_ret (ret_cell2 (cs := [_, _, _]) Try.results15 Try.underlying26 rfl info26s _ _ (w.heap.size + 1) rfl g1) rfl ?_
  exact ⟨rfl, ((H0.out.2.2.trans (hb1.mono (by simp; omega))).trans (hb2.mono (by omega))).trans (g3.mono (by omega))⟩
end Go.Proofs.Ytehihpfhcphdoaa
