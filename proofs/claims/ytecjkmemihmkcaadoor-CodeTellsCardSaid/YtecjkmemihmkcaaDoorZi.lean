/- The makers of readers, and the readers of a type and of an instruction. Conditions: the place lies where they say. -/
import Derived.Test.YtecjkmemihmkcaaDoorZh
namespace Go.Proofs.YtecjkmemihmkcaaDoor
set_option maxRecDepth 100000
open Go.RowKit
set_option linter.unusedSimpArgs false
set_option linter.unusedVariables false

theorem below_cells (g o : Nat) : ∀ (cs : List Value) (w : World), Below g w (w.setCells g o cs) ∧ (∀ k, k ≠ g → (w.setCells g o cs).heap[k]? = w.heap[k]?) ∧ (w.setCells g o cs).heap.size = w.heap.size := by
  intro cs
  induction cs generalizing o with
  | nil => exact fun w => ⟨Below.refl _ _, fun _ _ => rfl, rfl⟩
  | cons c cs ih =>
    intro w
    have h := ih (o + 1) (w.setCell ⟨g, o, none⟩ c)
    refine ⟨((Below.refl g w).setCell (p := ⟨g, o, none⟩) (Nat.le_refl _) c).trans h.1, fun k hk => ?_, h.2.2.trans (by simp [World.setCell])⟩
    have h2 := h.2.1 k hk
    rw [Below.heap_setCell _ _ _ _ hk] at h2
    exact h2
/-- a struct is stored in a variable of its own -/
theorem wpList_storeN {ops : Array Oper} {rest : List Oper} {o : Oper} {a : Act} {w : World} {Q : Exit → Act → World → Prop} {T n : Nat} (hi : (Tryd.prog.info? T).map (·.size) = some n) (hgd : o.guard = none) (x y : Operand) (ho : o.op = .store T x y) (hd : o.dst = none)
    (g : Nat) (hx : a.eval x = .pointer (some ⟨g, 0, none⟩)) (cs : List Value) (hl : cs.length = n) (hy : a.eval y = .agg cs.toArray) (ht : w.there g 0 n) (h1 : ∀ u ∈ cs, u.oneCell' = true)
    (h : ∀ w', w'.rangeAt g 0 cs → w'.there g 0 n → Below g w w' → (∀ k, k ≠ g → w'.heap[k]? = w.heap[k]?) → w'.heap.size = w.heap.size → wpList Tryd.prog ops Q rest a w') : wpList Tryd.prog ops Q (o :: rest) a w := by
  subst hl
  refine wpList_store_mid hgd T x y ho g 0 cs.toArray hx hy (by simpa using ht) (by simpa using hi) (by simpa using h1) ?_
  have hb := below_cells g 0 cs w
  have := h (w.setCells g 0 cs) (World.rangeAt_setCells_same w g 0 _ (by simpa using ht)) (World.there_setCells ht _ _ _) hb.1 hb.2.1 hb.2.2
  rw [hd]
  exact this
/-- a struct in the block where a function's result lies -/
theorem ret_cell {fn : Func} {s T : Nat} {d : TypeDesc} {cs : List Value} (h : fn.results = #[.cell s T]) (hu : Tryd.prog.underlying T = some d) (hd : d.isRow = true) (hi : (Tryd.prog.info? T).map (·.size) = some cs.length) (tmps : Array Value) (w : World) (g : Nat) (hp : tmps.getD s undef = .pointer (some ⟨g, 0, none⟩)) (hr : w.rangeAt g 0 cs) :
    (results fn tmps).run Tryd.prog w = .ok (.agg cs.toArray) w := by
  have hp' : tmps[s]?.getD undef = .pointer (some ⟨g, 0, none⟩) := by simpa using hp
  have h1 := run_loadVar_mid (P := Tryd.prog) w g 0 T cs _ hr hu hd hi
  simp [results, h, hp', asAddr, h1]
/-- a block of cells, as a range -/
theorem range_of {w : World} {g : Nat} {cs : List Value} {T : TypeId} (h : w.heap[g]? = some (.cells cs.toArray T (0, 0))) : w.rangeAt g 0 cs := by
  intro j v hv
  rw [cell_of_row _ _ _ _ _ _ h]
  simpa using hv
theorem there_cells {w : World} {g n : Nat} {cs : List Value} {T : TypeId} (h : w.heap[g]? = some (.cells cs.toArray T (0, 0))) (hn : cs.length = n) : w.there g 0 n := by
  intro j hj
  constructor
  · rw [cell_of_row _ _ _ _ _ _ h]
    simp
    omega
  · simp [World.frozen?, h]

/-- a function that can be called by its number -/
def EntC (fn : Nat) : Prop := ∀ (args : Array Value) (w : World), (callFunc fn args).run Tryd.prog w = .ok (.enter fn args) w
/-- F reads what f reads, in w0 and in every later world -/
def Part {α : Type} (R : Nat) (S : Sc) (F : Value) (f : Int → Rd α) (V : World → α → Value → Prop) (Z : World → Value → Prop) (w0 : World) : Prop :=
  ∃ fn caps, F = .func (.func fn) #[] caps ∧ EntC fn ∧ ∀ w σ, Moves R w0 w → PlS w R 57 S σ → Calls Tryd.prog fn caps w (Got R 57 S w (σ.bind fun _ p => f p) V Z)
theorem Part.on {α : Type} {R : Nat} {S : Sc} {F : Value} {f : Int → Rd α} {V : World → α → Value → Prop} {Z : World → Value → Prop} {w0 w1 : World} (h : Part R S F f V Z w0) (hm : Moves R w0 w1) : Part R S F f V Z w1 := by
  obtain ⟨fn, caps, h1, h2, h3⟩ := h
  exact ⟨fn, caps, h1, h2, fun w σ hw hp => h3 w σ (hm.trans hw) hp⟩
theorem Rd.both {α β γ : Type} (r : Rd α) (g : Int → Rd β) (h : α → β → γ) :
    (r.bind fun a q => (g q).bind fun b s => .ok (h a b) s).st = (r.st.bind fun _ q => g q).st ∧ ∀ x q, (r.bind fun a q => (g q).bind fun b s => .ok (h a b) s) = .ok x q → ∃ a p b, r = .ok a p ∧ (r.st.bind fun _ q => g q) = .ok b q ∧ x = h a b := by
  cases r with
  | bad e => exact ⟨rfl, fun x q h => by cases h⟩
  | ok a p =>
    simp only [Rd.st_ok, Rd.bind_ok]
    cases hg : g p with
    | bad e => exact ⟨rfl, fun x q h => by cases h⟩
    | ok b s =>
      refine ⟨rfl, fun x q h => ?_⟩
      injection h with h1 h2
      exact ⟨a, p, b, rfl, by rw [h2], h1.symm⟩

set_option maxHeartbeats 400000 in
theorem makeNumX (R : Nat) (w : World) :
    Calls Tryd.prog 50 #[.pointer (some ⟨R, 0, none⟩), .func (.func 51) #[] #[]] w fun e w' => ∃ b1 b2, e = .returned (.func (.func 72) #[] #[.pointer (some ⟨b1, 0, none⟩), .pointer (some ⟨b2, 0, none⟩)]) ∧ Below w.heap.size w w' ∧ w.heap.size ≤ b1 ∧ w.heap.size ≤ b2 ∧ One w' b1 55 (.pointer (some ⟨R, 0, none⟩)) ∧ One w' b2 82 (.func (.func 51) #[] #[]) := by
  have B1 : Below w.heap.size w (w.alloc (.cells #[.pointer (some ⟨R, 0, none⟩)] 55)) := (Below.refl _ _).alloc (Nat.le_refl _) _
  have B2 : Below w.heap.size w ((w.alloc (.cells #[.pointer (some ⟨R, 0, none⟩)] 55)).alloc (.cells #[.func (.func 51) #[] #[]] 82)) := B1.alloc B1.size _
  have O1 : One ((w.alloc (.cells #[.pointer (some ⟨R, 0, none⟩)] 55)).alloc (.cells #[.func (.func 51) #[] #[]] 82)) w.heap.size 55 (.pointer (some ⟨R, 0, none⟩)) := by
    show _ = _
    rw [Below.heap_alloc _ _ _ (by simp)]
    exact heap_alloc_new w _
  have O2 : One ((w.alloc (.cells #[.pointer (some ⟨R, 0, none⟩)] 55)).alloc (.cells #[.func (.func 51) #[] #[]] 82)) (w.heap.size + 1) 82 (.func (.func 51) #[] #[]) := by
    have := heap_alloc_new (w.alloc (.cells #[.pointer (some ⟨R, 0, none⟩)] 55)) (.cells #[.func (.func 51) #[] #[]] 82)
    rw [World.size_alloc] at this
    exact this
  have HB := Lib.hid B2
  have H1 := Lib.hid O1
  have H2 := Lib.hid O2
  clear O1 O2 B1 B2
  go_enter Tryd.func50, Tryd.ntmps50
  go_wp2
  go_ret
  exact ⟨_, _, rfl, HB.out, Nat.le_refl _, Nat.le_succ _, H1.out, H2.out⟩
theorem makeNumP (R : Nat) (S : Sc) (b1 b2 : Nat) (w0 : World) (n1 : b1 ≠ R) (n2 : b2 ≠ R) (O1 : One w0 b1 55 (.pointer (some ⟨R, 0, none⟩))) (O2 : One w0 b2 82 (.func (.func 51) #[] #[])) :
    Part R S (.func (.func 72) #[] #[.pointer (some ⟨b1, 0, none⟩), .pointer (some ⟨b2, 0, none⟩)]) (numR S.l) (fun _ n v => v = .int .i64 n) (fun _ v => ∃ n, v = .int .i64 n) w0 :=
  ⟨72, _, rfl, by intro args w; simp, fun w' σ hm hp => readNum R S σ _ _ w' (O1.moves hm n1) (O2.moves hm n2) hp⟩
theorem makeNum (R : Nat) (S : Sc) (w : World) (hR : R < w.heap.size) :
    Calls Tryd.prog 50 #[.pointer (some ⟨R, 0, none⟩), .func (.func 51) #[] #[]] w fun e w' => ∃ F, e = .returned F ∧ Below w.heap.size w w' ∧ Part R S F (numR S.l) (fun _ n v => v = .int .i64 n) (fun _ v => ∃ n, v = .int .i64 n) w' :=
  (makeNumX R w).mono fun e w' h => by
    obtain ⟨b1, b2, h1, h2, h3, h4, h5, h6⟩ := h
    exact ⟨_, h1, h2, makeNumP R S b1 b2 w' (by omega) (by omega) h5 h6⟩

set_option maxHeartbeats 400000 in
theorem makeBytesX (R : Nat) (w : World) :
    Calls Tryd.prog 52 #[.pointer (some ⟨R, 0, none⟩), .func (.func 53) #[] #[]] w fun e w' => ∃ b1 b2, e = .returned (.func (.func 74) #[] #[.pointer (some ⟨b1, 0, none⟩), .pointer (some ⟨b2, 0, none⟩)]) ∧ Below w.heap.size w w' ∧ w.heap.size ≤ b1 ∧ w.heap.size ≤ b2 ∧ One w' b1 55 (.pointer (some ⟨R, 0, none⟩)) ∧ One w' b2 85 (.func (.func 53) #[] #[]) := by
  have B1 : Below w.heap.size w (w.alloc (.cells #[.pointer (some ⟨R, 0, none⟩)] 55)) := (Below.refl _ _).alloc (Nat.le_refl _) _
  have B2 : Below w.heap.size w ((w.alloc (.cells #[.pointer (some ⟨R, 0, none⟩)] 55)).alloc (.cells #[.func (.func 53) #[] #[]] 85)) := B1.alloc B1.size _
  have O1 : One ((w.alloc (.cells #[.pointer (some ⟨R, 0, none⟩)] 55)).alloc (.cells #[.func (.func 53) #[] #[]] 85)) w.heap.size 55 (.pointer (some ⟨R, 0, none⟩)) := by
    show _ = _
    rw [Below.heap_alloc _ _ _ (by simp)]
    exact heap_alloc_new w _
  have O2 : One ((w.alloc (.cells #[.pointer (some ⟨R, 0, none⟩)] 55)).alloc (.cells #[.func (.func 53) #[] #[]] 85)) (w.heap.size + 1) 85 (.func (.func 53) #[] #[]) := by
    have := heap_alloc_new (w.alloc (.cells #[.pointer (some ⟨R, 0, none⟩)] 55)) (.cells #[.func (.func 53) #[] #[]] 85)
    rw [World.size_alloc] at this
    exact this
  have HB := Lib.hid B2
  have H1 := Lib.hid O1
  have H2 := Lib.hid O2
  clear O1 O2 B1 B2
  go_enter Tryd.func52, Tryd.ntmps52
  go_wp2
  go_ret
  exact ⟨_, _, rfl, HB.out, Nat.le_refl _, Nat.le_succ _, H1.out, H2.out⟩
theorem makeBytesP (R : Nat) (S : Sc) (b1 b2 : Nat) (w0 : World) (n1 : b1 ≠ R) (n2 : b2 ≠ R) (O1 : One w0 b1 55 (.pointer (some ⟨R, 0, none⟩))) (O2 : One w0 b2 85 (.func (.func 53) #[] #[])) :
    Part R S (.func (.func 74) #[] #[.pointer (some ⟨b1, 0, none⟩), .pointer (some ⟨b2, 0, none⟩)]) (bytesR S.l) (fun w' s v => Byt s ∧ RowL w' w'.heap.size s.length (cellsOf s) v) (fun w' v => ∃ s, RowL w' w'.heap.size s.length (cellsOf s) v) w0 :=
  ⟨74, _, rfl, by intro args w; simp, fun w' σ hm hp => readBytes R S σ _ _ w' (O1.moves hm n1) (O2.moves hm n2) hp⟩
theorem makeBytes (R : Nat) (S : Sc) (w : World) (hR : R < w.heap.size) :
    Calls Tryd.prog 52 #[.pointer (some ⟨R, 0, none⟩), .func (.func 53) #[] #[]] w fun e w' => ∃ F, e = .returned F ∧ Below w.heap.size w w' ∧ Part R S F (bytesR S.l) (fun w' s v => Byt s ∧ RowL w' w'.heap.size s.length (cellsOf s) v) (fun w' v => ∃ s, RowL w' w'.heap.size s.length (cellsOf s) v) w' :=
  (makeBytesX R w).mono fun e w' h => by
    obtain ⟨b1, b2, h1, h2, h3, h4, h5, h6⟩ := h
    exact ⟨_, h1, h2, makeBytesP R S b1 b2 w' (by omega) (by omega) h5 h6⟩

set_option maxHeartbeats 400000 in
theorem makeRowX (R : Nat) (w : World) :
    Calls Tryd.prog 32 #[.pointer (some ⟨R, 0, none⟩), .func (.func 33) #[] #[]] w fun e w' => ∃ b1 b2, e = .returned (.func (.func 62) #[] #[.pointer (some ⟨b1, 0, none⟩), .pointer (some ⟨b2, 0, none⟩)]) ∧ Below w.heap.size w w' ∧ w.heap.size ≤ b1 ∧ w.heap.size ≤ b2 ∧ One w' b1 55 (.pointer (some ⟨R, 0, none⟩)) ∧ One w' b2 63 (.func (.func 33) #[] #[]) := by
  have B1 : Below w.heap.size w (w.alloc (.cells #[.pointer (some ⟨R, 0, none⟩)] 55)) := (Below.refl _ _).alloc (Nat.le_refl _) _
  have B2 : Below w.heap.size w ((w.alloc (.cells #[.pointer (some ⟨R, 0, none⟩)] 55)).alloc (.cells #[.func (.func 33) #[] #[]] 63)) := B1.alloc B1.size _
  have O1 : One ((w.alloc (.cells #[.pointer (some ⟨R, 0, none⟩)] 55)).alloc (.cells #[.func (.func 33) #[] #[]] 63)) w.heap.size 55 (.pointer (some ⟨R, 0, none⟩)) := by
    show _ = _
    rw [Below.heap_alloc _ _ _ (by simp)]
    exact heap_alloc_new w _
  have O2 : One ((w.alloc (.cells #[.pointer (some ⟨R, 0, none⟩)] 55)).alloc (.cells #[.func (.func 33) #[] #[]] 63)) (w.heap.size + 1) 63 (.func (.func 33) #[] #[]) := by
    have := heap_alloc_new (w.alloc (.cells #[.pointer (some ⟨R, 0, none⟩)] 55)) (.cells #[.func (.func 33) #[] #[]] 63)
    rw [World.size_alloc] at this
    exact this
  have HB := Lib.hid B2
  have H1 := Lib.hid O1
  have H2 := Lib.hid O2
  clear O1 O2 B1 B2
  go_enter Tryd.func32, Tryd.ntmps32
  go_wp2
  go_ret
  exact ⟨_, _, rfl, HB.out, Nat.le_refl _, Nat.le_succ _, H1.out, H2.out⟩
theorem makeRowP (R : Nat) (S : Sc) (b1 b2 : Nat) (w0 : World) (n1 : b1 ≠ R) (n2 : b2 ≠ R) (O1 : One w0 b1 55 (.pointer (some ⟨R, 0, none⟩))) (O2 : One w0 b2 63 (.func (.func 33) #[] #[])) :
    Part R S (.func (.func 62) #[] #[.pointer (some ⟨b1, 0, none⟩), .pointer (some ⟨b2, 0, none⟩)]) (rowR S.l) (fun w' s v => GridT w' s v) (fun _ v => ∃ A n c, v = .slice A n c) w0 :=
  ⟨62, _, rfl, by intro args w; simp, fun w' σ hm hp => readRow R S σ _ _ w' (O1.moves hm n1) (O2.moves hm n2) hp⟩
theorem makeRow (R : Nat) (S : Sc) (w : World) (hR : R < w.heap.size) :
    Calls Tryd.prog 32 #[.pointer (some ⟨R, 0, none⟩), .func (.func 33) #[] #[]] w fun e w' => ∃ F, e = .returned F ∧ Below w.heap.size w w' ∧ Part R S F (rowR S.l) (fun w' s v => GridT w' s v) (fun _ v => ∃ A n c, v = .slice A n c) w' :=
  (makeRowX R w).mono fun e w' h => by
    obtain ⟨b1, b2, h1, h2, h3, h4, h5, h6⟩ := h
    exact ⟨_, h1, h2, makeRowP R S b1 b2 w' (by omega) (by omega) h5 h6⟩

theorem fitType (n : Int) (w : World) : Calls Tryd.prog 55 #[.int .i64 n] w fun e w' => e = .returned (.int .i64 n) ∧ w = w' := by
  go_enter Tryd.func55, Tryd.ntmps55
  go_wp2
  go_ret
  exact ⟨rfl, rfl⟩
theorem fitOp (n : Int) (w : World) : Calls Tryd.prog 57 #[.int .i64 n] w fun e w' => e = .returned (.int .i64 n) ∧ w = w' := by
  go_enter Tryd.func57, Tryd.ntmps57
  go_wp2
  go_ret
  exact ⟨rfl, rfl⟩
theorem fitInt (n : Int) (w : World) : Calls Tryd.prog 60 #[.int .i64 n] w fun e w' => e = .returned (.int .i64 n) ∧ w = w' := by
  go_enter Tryd.func60, Tryd.ntmps60
  go_wp2
  go_ret
  exact ⟨rfl, rfl⟩

set_option maxHeartbeats 400000 in
theorem partKind (R : Nat) (S : Sc) (b : Nat) (F : Value) (w0 : World) (hF : Part R S F (numR S.l) (fun _ n v => v = .int .i64 n) (fun _ v => ∃ n, v = .int .i64 n) w0) (hb : One w0 b 80 F) (hn : b ≠ R) :
    Part R S (.func (.func 54) #[] #[.pointer (some ⟨b, 0, none⟩)]) (numR S.l) (fun _ n v => v = .int .i64 n) (fun _ v => ∃ n, v = .int .i64 n) w0 := by
  refine ⟨54, _, rfl, by intro args w; simp, fun w σ hm hp => ?_⟩
  have hc := (hb.moves hm hn).cell
  obtain ⟨fn, caps, rfl, he, h3⟩ := hF
  have he' : ∀ (args : Array Value) (w : World), (callFunc fn args).run Tryd.prog w = .ok (.enter fn args) w := he
  have K := Lib.hid (h3 w σ hm hp)
  clear h3 hb he hp
  go_enter Tryd.func54, Tryd.ntmps54
  go_wp2_with fail
  refine K.out.mono ?_
  rintro e w1 ⟨v, rfl, hm1, hp1, ⟨n, rfl⟩, hv⟩
  have HM := Lib.hid hm1
  have HP := Lib.hid hp1
  have HV := Lib.hid hv
  clear hm1 hp1 hv K
  go_wp2_with fail
  refine (fitType n _).mono ?_
  rintro e w2 ⟨rfl, rfl⟩
  go_wp2
  go_ret
  exact ⟨_, rfl, HM.out, HP.out, ⟨_, rfl⟩, HV.out⟩

theorem info50c : (Tryd.prog.info? 50).map (fun i => (i.zero, i.size, i.bytes)) = some (some (.agg #[.int .i64 0, .int .i64 0]), 2, 16) := by kernel_rfl
set_option maxHeartbeats 800000 in
theorem partInstr (R : Nat) (S : Sc) (b : Nat) (F : Value) (w0 : World) (hF : Part R S F (numR S.l) (fun _ n v => v = .int .i64 n) (fun _ v => ∃ n, v = .int .i64 n) w0) (hb : One w0 b 80 F) (hn : b ≠ R) :
    Part R S (.func (.func 56) #[] #[.pointer (some ⟨b, 0, none⟩)]) (instrR S.l) (fun _ i v => v = .agg #[.int .i64 i.1, .int .i64 i.2]) (fun _ v => ∃ o a, v = .agg #[.int .i64 o, .int .i64 a]) w0 := by
  refine ⟨56, _, rfl, by intro args w; simp, fun w σ hm hp => ?_⟩
  have hlt := hp.lt
  have hbl := lt_of_some (hb.moves hm hn)
  obtain ⟨fn, caps, rfl, he, h3⟩ := hF
  have he' : ∀ (args : Array Value) (w : World), (callFunc fn args).run Tryd.prog w = .ok (.enter fn args) w := he
  have HMA := Lib.hid (Moves.of_below (R := R) ((Below.refl w.heap.size w).alloc (Nat.le_refl _) (.cells #[.int .i64 0, .int .i64 0] 50)) (Nat.le_refl _))
  have HPA := Lib.hid (hp.low ((Below.refl w.heap.size w).alloc (Nat.le_refl _) (.cells #[.int .i64 0, .int .i64 0] 50)) hlt)
  have HBX := Lib.hid (hb.moves (hm.trans HMA.out) hn)
  have hc := HBX.out.cell
  have K := Lib.hid (h3 _ _ (hm.trans HMA.out) HPA.out)
  have H3 := Lib.hid h3
  have HM0 := Lib.hid (hm.trans HMA.out)
  have HNB : Hid ((w.alloc (.cells #[.int .i64 0, .int .i64 0] 50)).heap[w.heap.size]? = some (.cells #[.int .i64 0, .int .i64 0] 50)) := Lib.hid (heap_alloc_new w _)
  clear h3 hb he hp hm
  go_enter Tryd.func56, Tryd.ntmps56
  go_wp2_with fail
  refine K.out.mono ?_
  rintro e w1 ⟨v, rfl, hm1, hp1, ⟨n, rfl⟩, hv⟩
  have HM1 := Lib.hid hm1
  have HV1 := Lib.hid hv
  have HQ1 := Lib.hid (HM0.out.trans hm1)
  have HB1 := Lib.hid (HBX.out.moves hm1 hn)
  have K := Lib.hid (H3.out w1 _ HQ1.out hp1)
  have hcb := HB1.out.cell
  clear hm1 hp1 hv hc
  go_wp2_with fail
  refine (fitOp n _).mono ?_
  rintro e w2 ⟨rfl, rfl⟩
  go_wp2_with fail
  refine K.out.mono ?_
  rintro e w2 ⟨v, rfl, hm2, hp2, ⟨a, rfl⟩, hv2⟩
  have HM2 := Lib.hid (HM1.out.trans hm2)
  have HP2 := Lib.hid hp2
  have HV2 := Lib.hid hv2
  have HTH : Hid (w2.there w.heap.size 0 2) := Lib.hid (there_cells (cs := [.int .i64 0, .int .i64 0]) (T := 50) (by rw [HM2.out.at (by simp) (by omega)]; exact HNB.out) rfl)
  clear hm2 hp2 hv2 K
  go_wp2_with (refine wpList_storeN info50s rfl (.tmp 1) (.tmp 9) rfl rfl w.heap.size rfl [_, _] rfl rfl HTH.out (by simp [Value.oneCell']) ?_; intro w3 g1 g2 g3 g4 g5)
  refine bodyPost_ret (ret_cell (cs := [_, _]) Tryd.results56 Tryd.underlying50 rfl info50s _ _ w.heap.size rfl g1) rfl ?_
  have hb := Rd.both (σ.bind fun _ p => numR S.l p) (numR S.l) (fun (o a : Int) => (o, a))
  refine ⟨_, rfl, (HMA.out.trans HM2.out).low g3 (Nat.le_refl _), ?_, ⟨_, _, rfl⟩, fun i q hq => ?_⟩
  · have : (σ.bind fun _ p => instrR S.l p).st = ((σ.bind fun _ p => numR S.l p).st.bind fun _ p => numR S.l p).st := by
      rw [← hb.1, Rd.bind_bind]
      rfl
    rw [this]
    exact HP2.out.low g3 hlt
  · have hq' : ((σ.bind fun _ p => numR S.l p).bind fun o q => (numR S.l q).bind fun a r => .ok (o, a) r) = .ok i q := by
      rw [Rd.bind_bind]
      exact hq
    obtain ⟨o, p1, a', e1, e2, rfl⟩ := hb.2 i q hq'
    have f1 := HV1.out _ _ e1
    have f2 := HV2.out _ _ e2
    injection f1 with _ f1
    injection f2 with _ f2
    subst f1 f2
    rfl

end Go.Proofs.YtecjkmemihmkcaaDoor
