/- TypesCalls' closure: what it answers of any arguments. Conditions: the function's variable lies, its parameters' row, and the arguments' row. -/
import Derived.Test.YtfcpabhkconjmaaGreatDoorZl
import Derived.Test.YtfcpabhkconjmaaGreatDoorZm
namespace Go.Proofs.YtfcpabhkconjmaaGreatDoor
open Go.RowKit
set_option maxRecDepth 100000
set_option linter.unusedSimpArgs false
set_option linter.unusedVariables false

/-- one expression in a block of its own -/
theorem xes_oneK {w : World} {g : Nat} {e : Xe} {k : Value} (h : w.rangeAt g 0 (xeC e k)) (hg : g < w.heap.size) (ht : Byn e.text) (hk : XesC w (Lo w.heap.size) e.kids k) : XesC w (Lo w.heap.size) [e] (.slice (some ⟨g, 0, none⟩) 1 1) := by
  refine .mk [e] [k] _ rfl (row_newz (by simpa [xesC] using h) hg (by unfold maxLen; simp)) (fun x hx => by rw [List.mem_singleton.1 hx]; exact ht) ?_
  intro i x k' h1 h2
  have hi : i = 0 := by have := (List.getElem?_eq_some_iff.1 h1).1; simpa using this
  subst hi
  simp at h1 h2
  subst h1 h2
  exact hk
theorem rowf_allocz {w : World} {n : Nat} {xs : List Value} {V : Value} (h : RowF w (Lo w.heap.size) n xs V) (o : Obj) : RowF (w.alloc o) (Lo (w.alloc o).heap.size) n xs V :=
  (h.same (same_below (below_alloc w o) (Nat.le_refl _))).more fun k hk => by unfold Lo at *; simp; omega
abbrev c1 (V : Value) : Obj := .cells #[.int .i64 5, .int .i64 0, .string ⟨#[102]⟩, V, .int .i64 0] 46
abbrev c2 (a : Nat) : Obj := .cells #[.int .i64 8, .string ⟨#[]⟩, .slice (some ⟨a, 0, none⟩) 1 1, .slice none 0 0, .slice none 0 0, .int .i64 0] 48
abbrev c3 (a : Nat) : Obj := .cells #[.string ⟨#[103]⟩, .slice none 0 0, .int .i64 0, .slice (some ⟨a, 0, none⟩) 1 1, .int .i64 0] 36
abbrev c4 (a : Nat) (Vp : Value) : Obj := .cells #[.string ⟨#[103]⟩, .slice none 0 0, .int .i64 0, .slice (some ⟨a, 0, none⟩) 1 1, .int .i64 0, .string ⟨#[102]⟩, Vp, .int .i64 0, .slice none 0 0, .int .i64 0] 36
theorem byn_parsAt : ∀ (l : List Int) (i : Nat), i + l.length ≤ 100 → ∀ p ∈ parsAt i l, Byn p.1
  | [], i, h, p, hp => by cases hp
  | t :: l, i, h, p, hp => by
    simp at h
    rcases List.mem_cons.1 hp with rfl | hp
    · intro b hb
      have : b = 97 + i := by simpa using hb
      omega
    · exact byn_parsAt l (i + 1) (by omega) p hp
theorem two_new (w : World) (V Vp : Value) (os ts : List Int) (hn : ts.length ≤ 15) (hk : XesC w (Lo w.heap.size) (os.map kidX) V) (hp : RowF w (Lo w.heap.size) ts.length (xpsC (parsAt 0 ts)) Vp) :
    XfsC ((((w.alloc (c1 V)).alloc (c2 w.heap.size)).alloc (c3 (w.heap.size + 1))).alloc (c4 (w.heap.size + 1) Vp)) (Lo (w.heap.size + 4)) [calX os, defX ts] [⟨.slice none 0 0, .slice (some ⟨w.heap.size + 1, 0, none⟩) 1 1⟩, ⟨Vp, .slice none 0 0⟩] (.slice (some ⟨w.heap.size + 3, 0, none⟩) 2 2) := by
  have h1 := xes_oneK (w := w.alloc (c1 V)) (g := w.heap.size) (e := callX os) (k := V) (range_newz w [.int .i64 5, .int .i64 0, .string ⟨#[102]⟩, V, .int .i64 0] 46) (by simp) (bynB_iff.1 (by kernel_rfl)) (hk.allocz _)
  have h2 := xss_new (w := (w.alloc (c1 V)).alloc (c2 w.heap.size)) (g := (w.alloc (c1 V)).heap.size) (l := [doX os]) (ks := [⟨.slice (some ⟨w.heap.size, 0, none⟩) 1 1, .slice none 0 0, .slice none 0 0⟩]) rfl (range_newz (w.alloc (c1 V)) [.int .i64 8, .string ⟨#[]⟩, .slice (some ⟨w.heap.size, 0, none⟩) 1 1, .slice none 0 0, .slice none 0 0, .int .i64 0] 48) (by simp) (by simp) (all1 (xsv_mk (bynB_iff.1 (by kernel_rfl)) (h1.allocz _) (XssC.none _ _) rfl))
  have h3 := (h2.allocz (c3 (w.heap.size + 1))).allocz (c4 (w.heap.size + 1) Vp)
  have h4 := (((rowf_allocz hp (c1 V) |> fun h => rowf_allocz h (c2 w.heap.size)) |> fun h => rowf_allocz h (c3 (w.heap.size + 1))) |> fun h => rowf_allocz h (c4 (w.heap.size + 1) Vp))
  have R := range_newz (((w.alloc (c1 V)).alloc (c2 w.heap.size)).alloc (c3 (w.heap.size + 1))) [.string ⟨#[103]⟩, .slice none 0 0, .int .i64 0, .slice (some ⟨w.heap.size + 1, 0, none⟩) 1 1, .int .i64 0, .string ⟨#[102]⟩, Vp, .int .i64 0, .slice none 0 0, .int .i64 0] 36
  have hz : ((((w.alloc (c1 V)).alloc (c2 w.heap.size)).alloc (c3 (w.heap.size + 1))).alloc (c4 (w.heap.size + 1) Vp)).heap.size = w.heap.size + 4 := by simp
  have hz3 : (((w.alloc (c1 V)).alloc (c2 w.heap.size)).alloc (c3 (w.heap.size + 1))).heap.size = w.heap.size + 3 := by simp
  have hz1 : (w.alloc (c1 V)).heap.size = w.heap.size + 1 := by simp
  rw [hz3] at R
  rw [hz, hz1] at h3
  rw [hz] at h4
  refine ⟨rfl, range_row R (by unfold Lo; omega) (Nat.le_refl _) (by unfold maxLen; simp), ?_⟩
  intro i f k hf hk'
  match i, hf, hk' with
  | 0, hf, hk' =>
    simp at hf hk'
    subst hf hk'
    exact ⟨bynB_iff.1 (by kernel_rfl), RowF.nothing _ _, (fun p hp => by cases hp), h3⟩
  | 1, hf, hk' =>
    simp at hf hk'
    subst hf hk'
    exact ⟨bynB_iff.1 (by kernel_rfl), by show RowF _ _ (parsAt 0 ts).length _ _; rw [parsAt_len]; exact h4, byn_parsAt ts 0 (by omega), XssC.none _ _⟩
set_option maxHeartbeats 800000 in
theorem callOne (V Vp : Value) (os ts : List Int) (fb : Nat) (w : World) (ho : Good3 os) (ht : Good3 ts) (hn : ts.length ≤ 15) (hk : XesC w (Lo w.heap.size) (os.map kidX) V) (hp : RowF w (Lo w.heap.size) ts.length (xpsC (parsAt 0 ts)) Vp)
    (hv : VarAt w fb [.string ⟨#[102]⟩, Vp, .int .i64 0, .slice none 0 0, .int .i64 0]) :
    Calls Tryz.prog 18 #[V, .pointer (some ⟨fb, 0, none⟩)] w fun e w' => e = .returned (.int .i64 (if os = ts then 0 else 51)) ∧ Below w.heap.size w w' := by
  obtain ⟨A, c, rfl⟩ := xesC_slice hk
  obtain ⟨A2, cp, rfl⟩ := hp.slice5
  have X := two_new w (.slice A (os.map kidX).length c) (.slice A2 ts.length cp) os ts hn hk hp
  have KC := checkC _ _ _ _ _ (w.heap.size + 4) (by simp) X
  rw [calls_check os ts ho ht hn] at KC
  generalize (checkM [calX os, defX ts]).2 = pl at KC
  generalize (if os = ts then (0 : Int) else 51) = cd at *
  have HKC : Hid (Calls Tryz.prog 15 #[.agg #[.slice (some ⟨w.heap.size + 1 + 1 + 1, 0, none⟩) 2 2]] ((((w.alloc (c1 (.slice A (os.map kidX).length c))).alloc (c2 w.heap.size)).alloc (c3 (w.heap.size + 1))).alloc (c4 (w.heap.size + 1) (.slice A2 ts.length cp))) _) := KC
  have hb : Below w.heap.size w (((w.alloc (c1 (.slice A (os.map kidX).length c))).alloc (c2 w.heap.size)).alloc (c3 (w.heap.size + 1))) := ((below_alloc w _).trans ((below_alloc _ _).mono (by simp))).trans ((below_alloc _ _).mono (by simp; omega))
  have z0 := cell_below (hv.cell 0 _ rfl).1 hb
  have z1 := cell_below (hv.cell 1 _ rfl).1 hb
  have z2 := cell_below (hv.cell 2 _ rfl).1 hb
  have z3 := cell_below (hv.cell 3 _ rfl).1 hb
  have z4 := cell_below (hv.cell 4 _ rfl).1 hb
  have HB : Hid (Below w.heap.size w ((((w.alloc (c1 (.slice A (os.map kidX).length c))).alloc (c2 w.heap.size)).alloc (c3 (w.heap.size + 1))).alloc (c4 (w.heap.size + 1) (.slice A2 ts.length cp)))) := hb.trans ((below_alloc _ _).mono (by simp; omega))
  unfold c1 c2 c3 c4 at *
  clear X KC hb hk hp hv
  generalize (os.map kidX).length = nk at *
  go_enter Tryz.func18, Tryz.ntmps18
  go_wp2_with fail
  with_reducible refine HKC.out.mono ?_
  rintro e w5 ⟨rfl, b5⟩
  have HB5 := Lib.hid (HB.out.trans (b5.mono HB.out.size))
  go_wp2
  go_ret
  exact ⟨rfl, HB5.out⟩
end Go.Proofs.YtfcpabhkconjmaaGreatDoor
