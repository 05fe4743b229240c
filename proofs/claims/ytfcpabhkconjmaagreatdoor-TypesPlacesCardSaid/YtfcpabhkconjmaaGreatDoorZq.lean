/- A program that is handed in as an argument lies in memory as a tree. Conditions: those in each theorem. -/
import Derived.Test.YtfcpabhkconjmaaGreatDoorZb
import Derived.Test.YtfcpabhkconjmaaGreatDoorBas
import Derived.SizedLaws
import Derived.Deep.Slices
import Derived.Lib.SmallJoins
namespace Go.Proofs.YtfcpabhkconjmaaGreatDoor
open Go.ChangeShapes Go.WideShapes Go.ChangeAt Go.RowKit
set_option maxRecDepth 100000
set_option linter.unusedSimpArgs false
set_option linter.unusedVariables false

theorem xcells46 : Tryz.prog.cellsOf 46 = 5 := by kernel_rfl
theorem xcells48 : Tryz.prog.cellsOf 48 = 6 := by kernel_rfl
theorem xcells36 : Tryz.prog.cellsOf 36 = 5 := by kernel_rfl
theorem xcells52 : Tryz.prog.cellsOf 52 = 2 := by kernel_rfl
theorem xcells26 : Tryz.prog.cellsOf 26 = 1 := by kernel_rfl
theorem xcells44 : Tryz.prog.cellsOf 44 = 1 := by kernel_rfl
theorem xcells34 : Tryz.prog.cellsOf 34 = 1 := by kernel_rfl
theorem xcells32 : Tryz.prog.cellsOf 32 = 1 := by kernel_rfl
theorem xcells24 : Tryz.prog.cellsOf 24 = 1 := by kernel_rfl
theorem xcells43 : Tryz.prog.cellsOf 43 = 1 := by kernel_rfl
theorem xcells42 : Tryz.prog.cellsOf 42 = 1 := by kernel_rfl
theorem xcells33 : Tryz.prog.cellsOf 33 = 1 := by kernel_rfl
theorem xcells2 : Tryz.prog.cellsOf 2 = 1 := by kernel_rfl
theorem xcells3 : Tryz.prog.cellsOf 3 = 1 := by kernel_rfl
theorem xcells9 : Tryz.prog.cellsOf 9 = 1 := by kernel_rfl
/-- one list of things, and one of what belongs to them, of what is there at each place -/
theorem lists_of {α β : Type} : ∀ (n : Nat) (p : Nat → α → β → Prop), (∀ i, i < n → ∃ a b, p i a b) → ∃ (l : List α) (ks : List β), l.length = n ∧ ks.length = n ∧ ∀ i a b, l[i]? = some a → ks[i]? = some b → p i a b
  | 0, _, _ => ⟨[], [], rfl, rfl, fun i a b h => by simp at h⟩
  | n + 1, p, h => by
    obtain ⟨a, b, hab⟩ := h 0 (by omega)
    obtain ⟨l, ks, h1, h2, h3⟩ := lists_of n (fun i => p (i + 1)) fun i hi => h (i + 1) (by omega)
    refine ⟨a :: l, b :: ks, by simp [h1], by simp [h2], fun i x y hx hy => ?_⟩
    cases i with
    | zero =>
      simp at hx hy
      subst hx hy
      exact hab
    | succ i => exact h3 i x y (by simpa using hx) (by simpa using hy)
theorem xbytes46 : Tryz.prog.bytesOf 46 = 64 := by kernel_rfl
theorem xbytes48 : Tryz.prog.bytesOf 48 = 104 := by kernel_rfl
theorem xbytes36 : Tryz.prog.bytesOf 36 = 80 := by kernel_rfl
theorem xbytes52 : Tryz.prog.bytesOf 52 = 24 := by kernel_rfl
mutual
/-- no row within is longer than memory bears -/
def smE (M : Nat) : Xe → Prop
  | .mk _ _ _ kids _ => kids.length * 64 ≤ M ∧ smEs M kids
def smEs (M : Nat) : List Xe → Prop
  | [] => True
  | e :: l => smE M e ∧ smEs M l
end
mutual
def smS (M : Nat) : Xs → Prop
  | .mk _ _ exprs body els _ => (exprs.length * 64 ≤ M ∧ smEs M exprs) ∧ (body.length * 104 ≤ M ∧ smSs M body) ∧ (els.length * 104 ≤ M ∧ smSs M els)
def smSs (M : Nat) : List Xs → Prop
  | [] => True
  | e :: l => smS M e ∧ smSs M l
end
theorem smEs_of {M : Nat} : ∀ {l : List Xe}, (∀ e ∈ l, smE M e) → smEs M l
  | [], _ => by unfold smEs; trivial
  | e :: l, h => by unfold smEs; exact ⟨h e (by simp), smEs_of fun x hx => h x (by simp [hx])⟩
theorem smSs_of {M : Nat} : ∀ {l : List Xs}, (∀ e ∈ l, smS M e) → smSs M l
  | [], _ => by unfold smSs; trivial
  | e :: l, h => by unfold smSs; exact ⟨h e (by simp), smSs_of fun x hx => h x (by simp [hx])⟩
theorem smEs_mem {M : Nat} : ∀ {l : List Xe}, smEs M l → ∀ e ∈ l, smE M e
  | x :: l, h, e, he => by
    unfold smEs at h
    rcases List.mem_cons.1 he with rfl | he
    · exact h.1
    · exact smEs_mem h.2 e he
theorem smSs_mem {M : Nat} : ∀ {l : List Xs}, smSs M l → ∀ e ∈ l, smS M e
  | x :: l, h, e, he => by
    unfold smSs at h
    rcases List.mem_cons.1 he with rfl | he
    · exact h.1
    · exact smSs_mem h.2 e he
theorem smE_kids {M : Nat} {e : Xe} (h : smE M e) : e.kids.length * 64 ≤ M ∧ smEs M e.kids := by
  cases e
  unfold smE at h
  exact h
theorem smS_parts {M : Nat} {s : Xs} (h : smS M s) : (s.exprs.length * 64 ≤ M ∧ smEs M s.exprs) ∧ (s.body.length * 104 ≤ M ∧ smSs M s.body) ∧ (s.els.length * 104 ≤ M ∧ smSs M s.els) := by
  cases s
  unfold smS at h
  exact h
theorem weightsAll_mem {H : Type} {e : TypeId} {wt : Nat} : ∀ {ds : List (DataW H)} {i : Nat} {d : DataW H}, ds[i]? = some d → wt ∈ d.weights Tryz.prog e → wt ∈ DataW.weightsAll Tryz.prog e ds
  | [], i, d, h, _ => by simp at h
  | x :: r, 0, d, h, hw => by
    simp at h
    subst h
    unfold DataW.weightsAll
    exact List.mem_append_left _ hw
  | x :: r, i + 1, d, h, hw => by
    unfold DataW.weightsAll
    exact List.mem_append_right _ (weightsAll_mem (i := i) (by simpa using h) hw)
theorem weightsEach_mem {H : Type} {wt : Nat} : ∀ {ts : List TypeId} {ds : List (DataW H)} {i : Nat} {t : TypeId} {d : DataW H}, ts[i]? = some t → ds[i]? = some d → wt ∈ d.weights Tryz.prog t → wt ∈ DataW.weightsEach Tryz.prog ts ds
  | [], _, i, t, d, h, _, _ => by simp at h
  | _ :: _, [], i, t, d, _, h, _ => by simp at h
  | t0 :: ts, d0 :: ds, 0, t, d, h, h', hw => by
    simp at h h'
    subst h h'
    unfold DataW.weightsEach
    exact List.mem_append_left _ hw
  | t0 :: ts, d0 :: ds, i + 1, t, d, h, h', hw => by
    unfold DataW.weightsEach
    exact List.mem_append_right _ (weightsEach_mem (i := i) (by simpa using h) (by simpa using h') hw)
section
variable {H : Type} {enc : TypeId × Value → H} {w : World} {sp : Nat → Bool} {hd : Bool} {M : Nat}
/-- a struct's part is within it -/
theorem weights_part {t : TypeId} {fs : Array Field} (ht : Tryz.prog.underlying t = some (.struct fs)) {xs : List (DataW H × List MemPlace)} (hM : ∀ wt ∈ (DataW.agg (xs.map (·.1))).weights Tryz.prog t, wt ≤ M) {i : Nat} {f : Field} {y : DataW H × List MemPlace} (hf : fs[i]? = some f) (hy : xs[i]? = some y) :
    ∀ wt ∈ y.1.weights Tryz.prog f.type, wt ≤ M := by
  intro wt hw
  refine hM wt ?_
  unfold DataW.weights
  rw [ht]
  exact weightsEach_mem (i := i) (t := f.type) (d := y.1) (by simp [hf]) (by simp [hy]) hw
/-- a slice's elements, each with its cells -/
theorem open_row {t e m fuel : Nat} {cs : List Value} {x : DataW H × List MemPlace} (ht : Tryz.prog.underlying t = some (.slice e)) (hm : Tryz.prog.cellsOf e = m) (hpos : 0 < m) (hM : ∀ wt ∈ x.1.weights Tryz.prog t, wt ≤ M) (h : DataW.trod enc Tryz.prog w 0 sp hd fuel t cs = some x) :
    cs = [.slice none 0 0] ∨ ∃ (a : Addr) (len cap n : Nat), fuel = n + 1 ∧ cs = [.slice (some a) len cap] ∧ len ≤ cap ∧ cap ≤ maxLen ∧ len * Tryz.prog.bytesOf e ≤ M ∧ ∀ i, i < len → ∃ (cs' : List Value) (y : DataW H × List MemPlace), cs'.length = m ∧ (∀ wt ∈ y.1.weights Tryz.prog e, wt ≤ M) ∧ DataW.trod enc Tryz.prog w 0 sp hd n e cs' = some y ∧ ∀ r, r < m → a.block < w.heap.size ∧ ∃ v, cs'[r]? = some v ∧ w.cell? (a.add (i * m + r)) = some v := by
  subst hm
  rcases DataW.trod_slice ht h with ⟨h0, _⟩ | ⟨a, len, cap, elems, rest, n, hf, hcs, hx, _, hl, hc, hlen, hel, _, _⟩
  · exact .inl h0
  · have hM1 : ∀ wt ∈ (elems.length + rest.length) * Tryz.prog.bytesOf e :: (DataW.weightsAll Tryz.prog e (elems.map (·.1)) ++ DataW.weightsAll Tryz.prog e (rest.map (·.1))), wt ≤ M := by
      intro wt hw
      refine hM wt ?_
      rw [hx]
      unfold DataW.weights
      rw [ht]
      simpa using hw
    refine .inr ⟨a, len, cap, n, hf, hcs, hl, hc, Nat.le_trans (Nat.mul_le_mul_right _ (by omega)) (hM1 _ (List.mem_cons_self ..)), fun i hi => ?_⟩
    have h1 := hel i hi
    have h2 : elems[i]? = some (elems[i]'(by omega)) := List.getElem?_eq_getElem (by omega)
    rw [h2] at h1
    cases hcc : w.cells? 0 (a.add (i * Tryz.prog.cellsOf e)) (Tryz.prog.cellsOf e) with
    | none => rw [hcc] at h1; cases h1
    | some cs' =>
      rw [hcc] at h1
      obtain ⟨_, g2, g3⟩ := World.cells?_some hcc
      refine ⟨cs', _, g2, fun wt hw => hM1 wt (List.mem_cons_of_mem _ (List.mem_append_left _ (weightsAll_mem (i := i) (by rw [List.getElem?_map, h2]; rfl) hw))), h1, fun r hr => ?_⟩
      have g4 := g3 r hr
      have g5 : cs'[r]? = some (cs'[r]'(by omega)) := List.getElem?_eq_getElem (by omega)
      rw [g5, Go.Deep.add_add] at g4
      exact ⟨by have := World.block_lt_of_cell? w _ g4; rwa [addr_block] at this, _, g5, g4⟩
/-- rows whose elements have m cells each -/
theorem rowF_zip {α β : Type} {f : α → β → List Value} {m : Nat} (hpos : 0 < m) (hf : ∀ a b, (f a b).length = m) {a : Addr} {len cap : Nat} (hl : len ≤ cap) (hc : cap ≤ maxLen) (l : List α) (ks : List β) (h1 : l.length = len) (h2 : ks.length = len)
    (hp : ∀ i x k, l[i]? = some x → ks[i]? = some k → ∀ r v, (f x k)[r]? = some v → a.block < w.heap.size ∧ w.cell? (a.add (i * m + r)) = some v) : RowF w (Lo w.heap.size) len (List.zipWith f l ks).flatten (.slice (some a) len cap) := by
  refine ⟨_, _, rfl, hl, hc, (fun e => by cases e), fun j u hu => ⟨a, rfl, ?_⟩⟩
  have hlen : (List.zipWith f l ks).flatten.length = len * m := by
    rw [List.length_flatten, List.map_zipWith]
    have : (List.zipWith (fun a b => (f a b).length) l ks) = List.replicate len m := by
      apply List.ext_getElem?
      intro i
      rw [List.getElem?_zipWith, List.getElem?_replicate]
      by_cases hi : i < len
      · rw [if_pos hi, List.getElem?_eq_getElem (by omega), List.getElem?_eq_getElem (by omega)]
        simp [hf]
      · rw [if_neg hi, List.getElem?_eq_none (by omega)]
    rw [this]
    simp
  have hj : j < len * m := by
    have := (List.getElem?_eq_some_iff.1 hu).1
    omega
  have hi : j / m < len := Nat.div_lt_of_lt_mul (by rw [Nat.mul_comm]; exact hj)
  have hr : j % m < m := Nat.mod_lt _ hpos
  have he : j = j / m * m + j % m := by rw [Nat.mul_comm]; exact (Nat.div_add_mod j m).symm
  obtain ⟨x, hx⟩ : ∃ x, l[j / m]? = some x := ⟨_, List.getElem?_eq_getElem (by omega)⟩
  obtain ⟨k, hk⟩ : ∃ k, ks[j / m]? = some k := ⟨_, List.getElem?_eq_getElem (by omega)⟩
  have hz := zip_get hf l ks (j / m) (j % m) x k hx hk hr
  rw [← he, hu] at hz
  have := hp _ x k hx hk _ u hz.symm
  rw [← he] at this
  exact this
theorem list2 {cs : List Value} (h : cs.length = 2) : ∃ a b, cs = [a, b] := by
  match cs, h with
  | [a, b], _ => exact ⟨a, b, rfl⟩
theorem list5 {cs : List Value} (h : cs.length = 5) : ∃ a b c d e, cs = [a, b, c, d, e] := by
  match cs, h with
  | [a, b, c, d, e], _ => exact ⟨a, b, c, d, e, rfl⟩
theorem list6 {cs : List Value} (h : cs.length = 6) : ∃ a b c d e f, cs = [a, b, c, d, e, f] := by
  match cs, h with
  | [a, b, c, d, e, f], _ => exact ⟨a, b, c, d, e, f, rfl⟩
theorem read_text {n : Nat} {v : Value} {y : DataW H × List MemPlace} (h : DataW.trod enc Tryz.prog w 0 sp hd n 9 [v] = some y) : ∃ s, v = .string (strN s) ∧ Byn s := by
  obtain ⟨s, e, _, _⟩ := DataW.trod_string Tryz.underlying9 h
  simp at e
  obtain ⟨l, h1, rfl⟩ := strN_of s
  exact ⟨l, e, h1⟩
theorem read_int {t n : Nat} {v : Value} {y : DataW H × List MemPlace} (ht : Tryz.prog.underlying t = some (.int .i64)) (h : DataW.trod enc Tryz.prog w 0 sp hd n t [v] = some y) : ∃ k, v = .int .i64 k := by
  obtain ⟨k, e, _, _⟩ := DataW.trod_int ht h
  simp at e
  exact ⟨k, e⟩
theorem some_at {α : Type} {l : List α} {n i : Nat} (h : l.length = n) (hi : i < n) : ∃ a, l[i]? = some a := ⟨_, List.getElem?_eq_getElem (by omega)⟩
theorem open_exprs : ∀ (fuel : Nat) (cs : List Value) (x : DataW H × List MemPlace), (∀ wt ∈ x.1.weights Tryz.prog 44, wt ≤ M) → DataW.trod enc Tryz.prog w 0 sp hd fuel 44 cs = some x → ∃ l V, cs = [V] ∧ XesC w (Lo w.heap.size) l V ∧ l.length * 64 ≤ M ∧ smEs M l := by
  intro fuel
  induction fuel using Nat.strongRecOn with
  | ind fuel ih =>
    intro cs x hM h
    rcases open_row Tryz.underlying44 xcells46 (by omega) hM h with rfl | ⟨a, len, cap, n, rfl, rfl, hl, hc, hby, hel⟩
    · exact ⟨[], _, rfl, XesC.none _ _, by simp, by unfold smEs; trivial⟩
    · obtain ⟨l, ks, h1, h2, h3⟩ := lists_of len (fun i (e : Xe) (k : Value) => smE M e ∧ Byn e.text ∧ XesC w (Lo w.heap.size) e.kids k ∧ ∀ r v, (xeC e k)[r]? = some v → a.block < w.heap.size ∧ w.cell? (a.add (i * 5 + r)) = some v) (by
        intro i hi
        obtain ⟨cs', y, g1, gM, g2, g3⟩ := hel i hi
        obtain ⟨c0, c1, c2, c3, c4, rfl⟩ := list5 g1
        obtain ⟨ys, n', hn', hyx, _, hys, hfs⟩ := DataW.trod_struct Tryz.underlying46 g2
        rw [hyx] at gM
        obtain ⟨y0, e0⟩ := some_at hys (i := 0) (by decide)
        obtain ⟨y1, e1⟩ := some_at hys (i := 1) (by decide)
        obtain ⟨y2, e2⟩ := some_at hys (i := 2) (by decide)
        obtain ⟨y3, e3⟩ := some_at hys (i := 3) (by decide)
        obtain ⟨y4, e4⟩ := some_at hys (i := 4) (by decide)
        have f0 := hfs 0 _ rfl
        have f1 := hfs 1 _ rfl
        have f2 := hfs 2 _ rfl
        have f3 := hfs 3 _ rfl
        have f4 := hfs 4 _ rfl
        simp [xcells43, xcells2, xcells9, xcells44, xcells3, e0, e1, e2, e3, e4] at f0 f1 f2 f3 f4
        obtain ⟨op, rfl⟩ := read_int Tryz.underlying43 f0
        obtain ⟨num, rfl⟩ := read_int Tryz.underlying2 f1
        obtain ⟨s, rfl, hs⟩ := read_text f2
        obtain ⟨kids, V, eV, hk, hk2, hk3⟩ := ih n' (by omega) _ _ (weights_part Tryz.underlying46 gM (i := 3) rfl e3) f3
        injection eV with eV _
        subst eV
        obtain ⟨at', rfl⟩ := read_int Tryz.underlying3 f4
        refine ⟨.mk op num s kids at', c3, by unfold smE; exact ⟨hk2, hk3⟩, hs, hk, fun r v hv => ?_⟩
        have hr : r < 5 := by have := (List.getElem?_eq_some_iff.1 hv).1; simpa [xeC] using this
        obtain ⟨q1, v', q2, q3⟩ := g3 r hr
        have : v' = v := Option.some.inj (q2.symm.trans hv)
        subst this
        exact ⟨q1, q3⟩)
      rw [xbytes46] at hby
      subst h1
      refine ⟨l, _, rfl, ?_, hby, smEs_of ?_⟩
      · refine .mk l ks _ h2 (rowF_zip (f := xeC) (m := 5) (by omega) (fun _ _ => rfl) hl hc l ks rfl h2 fun i x k hx hk r v hv => (h3 i x k hx hk).2.2.2 r v hv) ?_ fun i e k he hk => (h3 i e k he hk).2.2.1
        intro e he
        obtain ⟨i, hi, rfl⟩ := List.getElem_of_mem he
        exact (h3 i l[i] (ks[i]'(by omega)) (List.getElem?_eq_getElem hi) (List.getElem?_eq_getElem (by omega))).2.1
      intro e he
      obtain ⟨i, hi, rfl⟩ := List.getElem_of_mem he
      exact (h3 i l[i] (ks[i]'(by omega)) (List.getElem?_eq_getElem hi) (List.getElem?_eq_getElem (by omega))).1
theorem open_stmts : ∀ (fuel : Nat) (cs : List Value) (x : DataW H × List MemPlace), (∀ wt ∈ x.1.weights Tryz.prog 34, wt ≤ M) → DataW.trod enc Tryz.prog w 0 sp hd fuel 34 cs = some x → ∃ l V, cs = [V] ∧ XssC w (Lo w.heap.size) l V ∧ l.length * 104 ≤ M ∧ smSs M l := by
  intro fuel
  induction fuel using Nat.strongRecOn with
  | ind fuel ih =>
    intro cs x hM h
    rcases open_row Tryz.underlying34 xcells48 (by omega) hM h with rfl | ⟨a, len, cap, n, rfl, rfl, hl, hc, hby, hel⟩
    · exact ⟨[], _, rfl, XssC.none _ _, by simp, by unfold smSs; trivial⟩
    · obtain ⟨l, ks, h1, h2, h3⟩ := lists_of len (fun i (s : Xs) (k : Three) => smS M s ∧ Byn s.text ∧ XesC w (Lo w.heap.size) s.exprs k.e ∧ XssC w (Lo w.heap.size) s.body k.b ∧ XssC w (Lo w.heap.size) s.els k.f ∧ ∀ r v, (xsC s k.e k.b k.f)[r]? = some v → a.block < w.heap.size ∧ w.cell? (a.add (i * 6 + r)) = some v) (by
        intro i hi
        obtain ⟨cs', y, g1, gM, g2, g3⟩ := hel i hi
        obtain ⟨c0, c1, c2, c3, c4, c5, rfl⟩ := list6 g1
        obtain ⟨ys, n', hn', hyx, _, hys, hfs⟩ := DataW.trod_struct Tryz.underlying48 g2
        rw [hyx] at gM
        obtain ⟨y0, e0⟩ := some_at hys (i := 0) (by decide)
        obtain ⟨y1, e1⟩ := some_at hys (i := 1) (by decide)
        obtain ⟨y2, e2⟩ := some_at hys (i := 2) (by decide)
        obtain ⟨y3, e3⟩ := some_at hys (i := 3) (by decide)
        obtain ⟨y4, e4⟩ := some_at hys (i := 4) (by decide)
        obtain ⟨y5, e5⟩ := some_at hys (i := 5) (by decide)
        have f0 := hfs 0 _ rfl
        have f1 := hfs 1 _ rfl
        have f2 := hfs 2 _ rfl
        have f3 := hfs 3 _ rfl
        have f4 := hfs 4 _ rfl
        have f5 := hfs 5 _ rfl
        simp [xcells42, xcells34, xcells9, xcells44, xcells3, e0, e1, e2, e3, e4, e5] at f0 f1 f2 f3 f4 f5
        obtain ⟨op, rfl⟩ := read_int Tryz.underlying42 f0
        obtain ⟨s, rfl, hs⟩ := read_text f1
        obtain ⟨ex, V2, eV, hex, hex2, hex3⟩ := open_exprs n' _ _ (weights_part Tryz.underlying48 gM (i := 2) rfl e2) f2
        injection eV with eV _
        subst eV
        obtain ⟨bo, V3, eV, hbo, hbo2, hbo3⟩ := ih n' (by omega) _ _ (weights_part Tryz.underlying48 gM (i := 3) rfl e3) f3
        injection eV with eV _
        subst eV
        obtain ⟨el, V4, eV, hel', hel2, hel3⟩ := ih n' (by omega) _ _ (weights_part Tryz.underlying48 gM (i := 4) rfl e4) f4
        injection eV with eV _
        subst eV
        obtain ⟨at', rfl⟩ := read_int Tryz.underlying3 f5
        refine ⟨.mk op s ex bo el at', ⟨c2, c3, c4⟩, by unfold smS; exact ⟨⟨hex2, hex3⟩, ⟨hbo2, hbo3⟩, hel2, hel3⟩, hs, hex, hbo, hel', fun r v hv => ?_⟩
        have hr : r < 6 := by have := (List.getElem?_eq_some_iff.1 hv).1; simpa [xsC] using this
        obtain ⟨q1, v', q2, q3⟩ := g3 r hr
        have : v' = v := Option.some.inj (q2.symm.trans hv)
        subst this
        exact ⟨q1, q3⟩)
      rw [xbytes48] at hby
      subst h1
      refine ⟨l, _, rfl, ?_, hby, smSs_of ?_⟩
      · refine .mk l ks _ h2 (rowF_zip (f := fun (s : Xs) (k : Three) => xsC s k.e k.b k.f) (by omega) (fun _ _ => rfl) hl hc l ks rfl h2 fun i x k hx hk r v hv => (h3 i x k hx hk).2.2.2.2.2 r v hv) ?_ (fun i e k he hk => (h3 i e k he hk).2.2.1) (fun i e k he hk => (h3 i e k he hk).2.2.2.1) (fun i e k he hk => (h3 i e k he hk).2.2.2.2.1)
        intro e he
        obtain ⟨i, hi, rfl⟩ := List.getElem_of_mem he
        exact (h3 i l[i] (ks[i]'(by omega)) (List.getElem?_eq_getElem hi) (List.getElem?_eq_getElem (by omega))).2.1
      intro e he
      obtain ⟨i, hi, rfl⟩ := List.getElem_of_mem he
      exact (h3 i l[i] (ks[i]'(by omega)) (List.getElem?_eq_getElem hi) (List.getElem?_eq_getElem (by omega))).1
theorem open_params (fuel : Nat) (cs : List Value) (x : DataW H × List MemPlace) (hM : ∀ wt ∈ x.1.weights Tryz.prog 32, wt ≤ M) (h : DataW.trod enc Tryz.prog w 0 sp hd fuel 32 cs = some x) : ∃ l V, cs = [V] ∧ RowF w (Lo w.heap.size) l.length (xpsC l) V ∧ ∀ p ∈ l, Byn p.1 := by
  rcases open_row Tryz.underlying32 xcells52 (by omega) hM h with rfl | ⟨a, len, cap, n, rfl, rfl, hl, hc, hby, hel⟩
  · exact ⟨[], _, rfl, RowF.nothing _ _, fun p hp => by cases hp⟩
  · obtain ⟨l, ks, h1, h2, h3⟩ := lists_of len (fun i (p : List Nat × Int) (k : Unit) => Byn p.1 ∧ ∀ r v, (xpC p)[r]? = some v → a.block < w.heap.size ∧ w.cell? (a.add (i * 2 + r)) = some v) (by
      intro i hi
      obtain ⟨cs', y, g1, gM, g2, g3⟩ := hel i hi
      obtain ⟨c0, c1, rfl⟩ := list2 g1
      obtain ⟨ys, n', hn', _, _, hys, hfs⟩ := DataW.trod_struct Tryz.underlying52 g2
      obtain ⟨y0, e0⟩ := some_at hys (i := 0) (by decide)
      obtain ⟨y1, e1⟩ := some_at hys (i := 1) (by decide)
      have f0 := hfs 0 _ rfl
      have f1 := hfs 1 _ rfl
      simp [xcells9, xcells33, e0, e1] at f0 f1
      obtain ⟨s, rfl, hs⟩ := read_text f0
      obtain ⟨ty, rfl⟩ := read_int Tryz.underlying33 f1
      refine ⟨(s, ty), (), hs, fun r v hv => ?_⟩
      have hr : r < 2 := by have := (List.getElem?_eq_some_iff.1 hv).1; simpa [xpC] using this
      obtain ⟨q1, v', q2, q3⟩ := g3 r hr
      have : v' = v := Option.some.inj (q2.symm.trans hv)
      subst this
      exact ⟨q1, q3⟩)
    refine ⟨l, _, rfl, ?_, ?_⟩
    · subst h1
      have hz : (List.zipWith (fun p (_ : Unit) => xpC p) l ks).flatten = xpsC l := by
        unfold xpsC
        rw [List.flatMap_def]
        congr 1
        apply List.ext_getElem?
        intro i
        rw [List.getElem?_zipWith, List.getElem?_map]
        by_cases hi : i < l.length
        · rw [List.getElem?_eq_getElem hi, List.getElem?_eq_getElem (by omega)]
          rfl
        · rw [List.getElem?_eq_none (by omega)]
          rfl
      rw [← hz]
      exact rowF_zip (f := fun (p : List Nat × Int) (_ : Unit) => xpC p) (by omega) (fun _ _ => rfl) hl hc l ks rfl h2 fun i x k hx hk r v hv => (h3 i x k hx hk).2 r v hv
    · intro e he
      obtain ⟨i, hi, rfl⟩ := List.getElem_of_mem he
      exact (h3 i l[i] (ks[i]'(by omega)) (List.getElem?_eq_getElem hi) (List.getElem?_eq_getElem (by omega))).1
theorem open_funcs (fuel : Nat) (cs : List Value) (x : DataW H × List MemPlace) (hM : ∀ wt ∈ x.1.weights Tryz.prog 24, wt ≤ M) (h : DataW.trod enc Tryz.prog w 0 sp hd fuel 24 cs = some x) : ∃ l ks V, cs = [V] ∧ XfsC w (Lo w.heap.size) l ks V ∧ l.length * 80 ≤ M ∧ ∀ f ∈ l, f.body.length * 104 ≤ M ∧ smSs M f.body := by
  rcases open_row Tryz.underlying24 xcells36 (by omega) hM h with rfl | ⟨a, len, cap, n, rfl, rfl, hl, hc, hby, hel⟩
  · exact ⟨[], [], _, rfl, XfsC.none _ _, by simp, fun f hf => by cases hf⟩
  · obtain ⟨l, ks, h1, h2, h3⟩ := lists_of len (fun i (f : Xf) (k : Two) => (f.body.length * 104 ≤ M ∧ smSs M f.body) ∧ XfK w (Lo w.heap.size) f k ∧ ∀ r v, (xfC f k.p k.b)[r]? = some v → a.block < w.heap.size ∧ w.cell? (a.add (i * 5 + r)) = some v) (by
      intro i hi
      obtain ⟨cs', y, g1, gM, g2, g3⟩ := hel i hi
      obtain ⟨c0, c1, c2, c3, c4, rfl⟩ := list5 g1
      obtain ⟨ys, n', hn', hyx, _, hys, hfs⟩ := DataW.trod_struct Tryz.underlying36 g2
      rw [hyx] at gM
      obtain ⟨y0, e0⟩ := some_at hys (i := 0) (by decide)
      obtain ⟨y1, e1⟩ := some_at hys (i := 1) (by decide)
      obtain ⟨y2, e2⟩ := some_at hys (i := 2) (by decide)
      obtain ⟨y3, e3⟩ := some_at hys (i := 3) (by decide)
      obtain ⟨y4, e4⟩ := some_at hys (i := 4) (by decide)
      have f0 := hfs 0 _ rfl
      have f1 := hfs 1 _ rfl
      have f2 := hfs 2 _ rfl
      have f3 := hfs 3 _ rfl
      have f4 := hfs 4 _ rfl
      simp [xcells9, xcells32, xcells33, xcells34, xcells3, e0, e1, e2, e3, e4] at f0 f1 f2 f3 f4
      obtain ⟨s, rfl, hs⟩ := read_text f0
      obtain ⟨ps, V1, eV, hps, hpn⟩ := open_params n' _ _ (weights_part Tryz.underlying36 gM (i := 1) rfl e1) f1
      injection eV with eV _
      subst eV
      obtain ⟨res, rfl⟩ := read_int Tryz.underlying33 f2
      obtain ⟨bo, V3, eV, hbo, hbo2, hbo3⟩ := open_stmts n' _ _ (weights_part Tryz.underlying36 gM (i := 3) rfl e3) f3
      injection eV with eV _
      subst eV
      obtain ⟨at', rfl⟩ := read_int Tryz.underlying3 f4
      refine ⟨⟨s, ps, res, bo, at'⟩, ⟨c1, c3⟩, ⟨hbo2, hbo3⟩, ⟨hs, hps, hpn, hbo⟩, fun r v hv => ?_⟩
      have hr : r < 5 := by have := (List.getElem?_eq_some_iff.1 hv).1; simpa [xfC] using this
      obtain ⟨q1, v', q2, q3⟩ := g3 r hr
      have : v' = v := Option.some.inj (q2.symm.trans hv)
      subst this
      exact ⟨q1, q3⟩)
    rw [xbytes36] at hby
    subst h1
    refine ⟨l, ks, _, rfl, ⟨h2, rowF_zip (f := fun (f : Xf) (k : Two) => xfC f k.p k.b) (by omega) (fun _ _ => rfl) hl hc l ks rfl h2 fun i x k hx hk r v hv => (h3 i x k hx hk).2.2 r v hv, fun i e k he hk => (h3 i e k he hk).2.1⟩, hby, fun f hf => ?_⟩
    obtain ⟨i, hi, rfl⟩ := List.getElem_of_mem hf
    exact (h3 i l[i] (ks[i]'(by omega)) (List.getElem?_eq_getElem hi) (List.getElem?_eq_getElem (by omega))).1
/-- a program -/
theorem view_prog {r : Reach} {b0 : Nat} {v : Value} {d : DataW H} {ps : List MemPlace} (hv : Value.okWide Tryz.prog w r b0 26 v) (hM : ∀ wt ∈ d.weights Tryz.prog 26, wt ≤ M) (h : DataW.Trod enc Tryz.prog w 0 sp hd 26 v d ps) : ∃ (fs : List Xf) (ks : List Two) (A : Option Addr) (c : Nat), v = .agg #[.slice A fs.length c] ∧ XfsC w (Lo w.heap.size) fs ks (.slice A fs.length c) ∧ fs.length * 80 ≤ M ∧ ∀ f ∈ fs, f.body.length * 104 ≤ M ∧ smSs M f.body := by
  obtain ⟨cs, rfl, hsz⟩ := okWide_struct Tryz.underlying26 hv
  obtain ⟨l⟩ := cs
  have hl : l.length = 1 := by have := hsz.trans xcells26; simpa using this
  obtain ⟨V, rfl⟩ : ∃ V, l = [V] := by
    match l, hl with
    | [V], _ => exact ⟨V, rfl⟩
  obtain ⟨fuel, hf⟩ := h
  obtain ⟨ys, n', hn', hyx, _, hys, hfs⟩ := DataW.trod_struct Tryz.underlying26 hf
  injection hyx with hyx _
  rw [hyx] at hM
  obtain ⟨y0, e0⟩ := some_at hys (i := 0) (by decide)
  have f0 := hfs 0 _ rfl
  simp [xcells24, e0, Value.cells] at f0
  obtain ⟨fs, ks, V', eV, hX, hX2, hX3⟩ := open_funcs n' _ _ (weights_part Tryz.underlying26 hM (i := 0) rfl e0) f0
  injection eV with eV _
  subst eV
  obtain ⟨A, c, rfl⟩ := hX.2.1.slice5
  exact ⟨fs, ks, A, c, rfl, hX, hX2, hX3⟩
end
end Go.Proofs.YtfcpabhkconjmaaGreatDoor
