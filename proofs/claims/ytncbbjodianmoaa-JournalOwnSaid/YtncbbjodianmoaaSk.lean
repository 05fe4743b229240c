/- Rows of pairs put one behind the other; what 'joined' returns. Conditions: what is read lies in memory; rows are not longer than memory. -/
import Derived.Test.YtncbbjodianmoaaSj
import Derived.ArgAppend
namespace Go.Proofs.Ytncbbjodianmoaa
open Go.RowKit
set_option linter.unusedSimpArgs false
set_option linter.unusedVariables false

/-- 'append' of nothing -/
theorem run_append_zero {P : Program} (w : World) (t ty e : TypeId) (i : TypeInfo) (ht : P.underlying t = some (.slice e)) (hi : P.info? e = some i) (A M : Option Addr) (n cap cm : Nat) (hn : n ≤ cap) (hA : A = none → n = 0) :
    (Builtin.append_ #[t, t] ty #[.slice A n cap, .slice M 0 cm]).run P w = .ok (.slice A n cap) w := by
  cases A with
  | none =>
    obtain rfl := hA rfl
    cases M with
    | none => simp [Builtin.append_, run_underlying ht, sizeOf, typeInfo, hi, Builtin.lenOf, Builtin.firstCells, loadCells, loadCellsFrom]
    | some ad => simp [Builtin.append_, run_underlying ht, sizeOf, typeInfo, hi, Builtin.lenOf, Builtin.firstCells, loadCells, loadCellsFrom]
  | some a =>
    cases M with
    | none => simp [Builtin.append_, run_underlying ht, sizeOf, typeInfo, hi, Builtin.lenOf, Builtin.firstCells, loadCells, loadCellsFrom, storeCells, hn]
    | some ad => simp [Builtin.append_, run_underlying ht, sizeOf, typeInfo, hi, Builtin.lenOf, Builtin.firstCells, loadCells, loadCellsFrom, storeCells, hn]

/-- a row that may be appended to: the call's own, or one without room; its byte strings lie below B -/
def Dst (w : World) (base B : Nat) (v : Value) (ls : List PR) : Prop :=
  ∃ vs, PsC w B ls vs ∧ (w.ownsRow base 47 2 v ls.length vs ∨ ∃ A, v = .slice A ls.length ls.length ∧ Lies w B A ls.length vs)
/-- a row that is read: its byte strings lie below B -/
def Src (w : World) (B : Nat) (M : Option Addr) (cm : Nat) (ms : List PR) : Prop := ∃ B' us, Lies w B' M cm us ∧ PsC w B ms us
theorem Src.of {w : World} {B : Nat} {M : Option Addr} {cm : Nat} {ms : List PR} (h : Prs w B M cm ms) : Src w B M cm ms := by
  obtain ⟨us, h1, h2⟩ := h
  exact ⟨B, us, h1, h2⟩
theorem info42p : ∃ i, Try.prog.info? 47 = some i ∧ i.zero = some (.agg #[nilS, nilS]) ∧ i.size = 2 ∧ i.bytes = 48 := info_parts info42
theorem Dst.app {w : World} {base B : Nat} {v : Value} {ls : List PR} (h : Dst w base B v ls) (hB : B ≤ base) (hb : base ≤ w.heap.size) (ty : TypeId) {M : Option Addr} {cm : Nat} {ms : List PR} (hM : Src w B M cm ms) (hs : ls.length + ms.length ≤ 1000000) :
    ∃ v' w', (Builtin.append_ #[22, 22] ty #[v, .slice M ms.length cm]).run Try.prog w = .ok v' w' ∧ Dst w' base B v' (ls ++ ms) ∧ Below base w w' := by
  obtain ⟨i0, hi, hz0, hz1, hz2⟩ := info42p
  obtain ⟨vs, hp, hv⟩ := h
  obtain ⟨B', us, hl, hq⟩ := hM
  by_cases hm : ms = []
  · subst hm
    have hform : ∃ A c, v = .slice A ls.length c ∧ ls.length ≤ c ∧ (A = none → ls.length = 0) := by
      rcases hv with ho | ⟨A, e, hA⟩
      · obtain ⟨A, c, e1, e2, e3, e4⟩ := own_liesS ho
        refine ⟨A, c, e1, e2, fun e => ?_⟩
        subst e
        have := e4.none_nil.2
        omega
      · exact ⟨A, _, e, Nat.le_refl _, hA.1⟩
    obtain ⟨A, c, rfl, h1, h2⟩ := hform
    refine ⟨_, _, run_append_zero w 22 ty 47 i0 Try.underlying22 hi A M ls.length c cm h1 h2, ?_, Below.refl _ _⟩
    rw [List.append_nil]
    exact ⟨vs, hp, hv⟩
  · have hpos : 0 < ms.length := List.length_pos_iff.2 hm
    have hul : us.length = ms.length * 2 := hq.len
    cases M with
    | none =>
      have := hl.none_nil.1
      subst this
      simp at hul
      omega
    | some ad =>
      have hnews : ∀ j u, us[j]? = some u → w.cell? (ad.add j) = some u := fun j u hu => by
        obtain ⟨ad', e', _, hc⟩ := hl.2 j u hu
        injection e' with e'
        subst e'
        exact hc
      rcases hv with ho | ⟨A, rfl, hA⟩
      · obtain ⟨v', w', hr, h2, h3, _⟩ := run_append_own (P := Try.prog) w base 22 ty 47 i0 _ 2 48 Try.underlying22 hi hz0 hz1 hz2 rfl (by omega) v ls.length vs ho ad ms.length cm us hul hnews hq.one (by unfold maxLen; omega) (by omega) hb
        have hbl : Below base w w' := (Below.refl _ _).grown h3 hb (fun k hk => (ho.lt k hk).1)
        refine ⟨v', w', hr, ⟨vs ++ us, ((hp.append hq).low (hbl.mono hB)), .inl ?_⟩, hbl⟩
        rw [List.length_append]
        exact h2
      · cases A with
        | none =>
          have e0 := hA.none_nil
          have e1 : ls = [] := List.eq_nil_of_length_eq_zero e0.2
          subst e1
          obtain ⟨v', w', hr, h2, h3, _⟩ := run_append_own (P := Try.prog) w base 22 ty 47 i0 _ 2 48 Try.underlying22 hi hz0 hz1 hz2 rfl (by omega) (.slice none 0 0) 0 [] (World.ownsRow_nil w _ 47 2) ad ms.length cm us hul hnews hq.one (by unfold maxLen; omega) (by omega) hb
          have hbl : Below base w w' := (Below.refl _ _).grown h3 hb (fun k hk => by cases hk)
          have e2 := e0.1
          subst e2
          refine ⟨v', w', hr, ⟨us, hq.low (hbl.mono hB), .inl ?_⟩, hbl⟩
          simpa using h2
        | some b =>
          have holds : ∀ j u, vs[j]? = some u → w.cell? (b.add j) = some u := fun j u hu => by
            obtain ⟨ad', e', _, hc⟩ := hA.2 j u hu
            injection e' with e'
            subst e'
            exact hc
          obtain ⟨v', w', hr, h2, h3⟩ := run_append_arg_grows (P := Try.prog) w 22 ty 47 i0 _ 2 48 Try.underlying22 hi hz0 hz1 hz2 rfl (by omega) b ls.length ls.length vs hp.len holds ad ms.length cm us hul hnews (by omega) (by unfold maxLen; omega) (by omega)
          have hbl : Below base w w' := (Below.refl _ _).grown h3 hb (fun k hk => by cases hk)
          refine ⟨v', w', hr, ⟨vs ++ us, ((hp.append hq).low (hbl.mono hB)), .inl ?_⟩, hbl⟩
          rw [List.length_append]
          exact own_mono h2 hb
/-- as an operation -/
theorem Dst.wp {w : World} {base B : Nat} {v : Value} {ls : List PR} (h : Dst w base B v ls) (hB : B ≤ base) (hb : base ≤ w.heap.size) {o : Oper} {a : Act} {K : Act → World → Prop} {Q : Exit → Act → World → Prop} (s x : Operand)
    (ho : o.op = .call { callee := .builtin .append, args := #[s, x], argTypes := #[22, 22] }) (hs : a.eval s = v) {M : Option Addr} {m cm : Nat} {ms : List PR} (hx : a.eval x = .slice M m cm) (hM : Src w B M cm ms) (hm : m = ms.length) (hsm : ls.length + ms.length ≤ 1000000)
    (hK : ∀ v' w', Dst w' base B v' (ls ++ ms) → Below base w w' → K (a.put o.dst v') w') : o.wp Try.prog a w K Q := by
  subst hm
  obtain ⟨v', w', hr, h2, h3⟩ := h.app hB hb o.type hM hsm
  unfold Oper.wp execOp
  simp only [ho, resolve, invoke, builtin, Sem.run_bind, Sem.run_pure, Result.andThen_ok, List.map_toArray, List.map_cons, List.map_nil, hs, hx, hr]
  exact hK v' w' h2 h3
theorem Dst.wpList {w : World} {base B : Nat} {v : Value} {ls : List PR} (h : Dst w base B v ls) (hB : B ≤ base) (hb : base ≤ w.heap.size) {ops : Array Oper} {rest : List Oper} {o : Oper} {a : Act} {Q : Exit → Act → World → Prop} (hgd : o.guard = none) (s x : Operand)
    (ho : o.op = .call { callee := .builtin .append, args := #[s, x], argTypes := #[22, 22] }) (hs : a.eval s = v) {M : Option Addr} {m cm : Nat} {ms : List PR} (hx : a.eval x = .slice M m cm) (hM : Src w B M cm ms) (hm : m = ms.length) (hsm : ls.length + ms.length ≤ 1000000)
    (hK : ∀ v' w', Dst w' base B v' (ls ++ ms) → Below base w w' → wpList Try.prog ops Q rest (a.put o.dst v') w') : wpList Try.prog ops Q (o :: rest) a w :=
  wpList_plain hgd fun _ hK' => h.wp hB hb s x ho hs hx hM hm hsm fun v' w' h2 h3 => hK' _ _ (hK v' w' h2 h3)
theorem Dst.prs {w : World} {base B : Nat} {v : Value} {ls : List PR} (h : Dst w base B v ls) (hB : B ≤ w.heap.size) (hs : ls.length ≤ 1000000) : ∃ A c, v = .slice A ls.length c ∧ ls.length ≤ c ∧ c ≤ maxLen ∧ Prs w w.heap.size A c ls := by
  obtain ⟨vs, hp, ho | ⟨A, e, hA⟩⟩ := h
  · obtain ⟨A, c, e1, e2, e3, e4⟩ := own_liesS ho
    exact ⟨A, c, e1, e2, e3, vs, e4, hp.more hB⟩
  · exact ⟨A, _, e, Nat.le_refl _, by unfold maxLen; omega, vs, hA.more hB, hp.more hB⟩
/-- a row of the call's own that may be appended to -/
def DstF (w : World) (base B : Nat) (v : Value) (ls : List PR) : Prop := ∃ vs, PsC w B ls vs ∧ w.ownsRow base 47 2 v ls.length vs
theorem DstF.app {w : World} {base B : Nat} {v : Value} {ls : List PR} (h : DstF w base B v ls) (hB : B ≤ base) (hb : base ≤ w.heap.size) (ty : TypeId) {M : Option Addr} {cm : Nat} {ms : List PR} (hM : Src w B M cm ms) (hs : ls.length + ms.length ≤ 1000000) :
    ∃ v' w', (Builtin.append_ #[22, 22] ty #[v, .slice M ms.length cm]).run Try.prog w = .ok v' w' ∧ DstF w' base B v' (ls ++ ms) ∧ Below base w w' := by
  obtain ⟨i0, hi, hz0, hz1, hz2⟩ := info42p
  obtain ⟨vs, hp, ho⟩ := h
  obtain ⟨B', us, hl, hq⟩ := hM
  by_cases hm : ms = []
  · subst hm
    obtain ⟨A, c, rfl, h1, e3, e4⟩ := own_liesS ho
    have h2 : A = none → ls.length = 0 := fun e => by
      subst e
      have := e4.none_nil.2
      omega
    refine ⟨_, _, run_append_zero w 22 ty 47 i0 Try.underlying22 hi A M ls.length c cm h1 h2, ?_, Below.refl _ _⟩
    rw [List.append_nil]
    exact ⟨vs, hp, ho⟩
  · have hpos : 0 < ms.length := List.length_pos_iff.2 hm
    have hul : us.length = ms.length * 2 := hq.len
    cases M with
    | none =>
      have := hl.none_nil.1
      subst this
      simp at hul
      omega
    | some ad =>
      have hnews : ∀ j u, us[j]? = some u → w.cell? (ad.add j) = some u := fun j u hu => by
        obtain ⟨ad', e', _, hc⟩ := hl.2 j u hu
        injection e' with e'
        subst e'
        exact hc
      obtain ⟨v', w', hr, h2, h3, _⟩ := run_append_own (P := Try.prog) w base 22 ty 47 i0 _ 2 48 Try.underlying22 hi hz0 hz1 hz2 rfl (by omega) v ls.length vs ho ad ms.length cm us hul hnews hq.one (by unfold maxLen; omega) (by omega) hb
      have hbl : Below base w w' := (Below.refl _ _).grown h3 hb (fun k hk => (ho.lt k hk).1)
      refine ⟨v', w', hr, ⟨vs ++ us, ((hp.append hq).low (hbl.mono hB)), ?_⟩, hbl⟩
      rw [List.length_append]
      exact h2
/-- as an operation -/
theorem DstF.wp {w : World} {base B : Nat} {v : Value} {ls : List PR} (h : DstF w base B v ls) (hB : B ≤ base) (hb : base ≤ w.heap.size) {o : Oper} {a : Act} {K : Act → World → Prop} {Q : Exit → Act → World → Prop} (s x : Operand)
    (ho : o.op = .call { callee := .builtin .append, args := #[s, x], argTypes := #[22, 22] }) (hs : a.eval s = v) {M : Option Addr} {m cm : Nat} {ms : List PR} (hx : a.eval x = .slice M m cm) (hM : Src w B M cm ms) (hm : m = ms.length) (hsm : ls.length + ms.length ≤ 1000000)
    (hK : ∀ v' w', DstF w' base B v' (ls ++ ms) → Below base w w' → K (a.put o.dst v') w') : o.wp Try.prog a w K Q := by
  subst hm
  obtain ⟨v', w', hr, h2, h3⟩ := h.app hB hb o.type hM hsm
  unfold Oper.wp execOp
  simp only [ho, resolve, invoke, builtin, Sem.run_bind, Sem.run_pure, Result.andThen_ok, List.map_toArray, List.map_cons, List.map_nil, hs, hx, hr]
  exact hK v' w' h2 h3
theorem DstF.wpList {w : World} {base B : Nat} {v : Value} {ls : List PR} (h : DstF w base B v ls) (hB : B ≤ base) (hb : base ≤ w.heap.size) {ops : Array Oper} {rest : List Oper} {o : Oper} {a : Act} {Q : Exit → Act → World → Prop} (hgd : o.guard = none) (s x : Operand)
    (ho : o.op = .call { callee := .builtin .append, args := #[s, x], argTypes := #[22, 22] }) (hs : a.eval s = v) {M : Option Addr} {m cm : Nat} {ms : List PR} (hx : a.eval x = .slice M m cm) (hM : Src w B M cm ms) (hm : m = ms.length) (hsm : ls.length + ms.length ≤ 1000000)
    (hK : ∀ v' w', DstF w' base B v' (ls ++ ms) → Below base w w' → wpList Try.prog ops Q rest (a.put o.dst v') w') : wpList Try.prog ops Q (o :: rest) a w :=
  wpList_plain hgd fun _ hK' => h.wp hB hb s x ho hs hx hM hm hsm fun v' w' h2 h3 => hK' _ _ (hK v' w' h2 h3)
theorem DstF.prs {w : World} {base B : Nat} {v : Value} {ls : List PR} (h : DstF w base B v ls) (hB : B ≤ w.heap.size) (_hs : ls.length ≤ 1000000) : ∃ A c, v = .slice A ls.length c ∧ ls.length ≤ c ∧ c ≤ maxLen ∧ Prs w w.heap.size A c ls ∧ RowF w A := by
  obtain ⟨vs, hp, ho⟩ := h
  obtain ⟨A, c, rfl, e2, e3, e4⟩ := own_liesS ho
  exact ⟨A, c, rfl, e2, e3, ⟨vs, e4, hp.more hB⟩, own_rowF ho⟩
/-- a part of a row -/
theorem Lies.part {w : World} {B : Nat} {A : Option Addr} {c : Nat} {vs : List Value} (h : Lies w B A c vs) (k : Nat) (hl : vs.length ≤ c * 2) : Lies w B (if c = k then A else A.map (fun x => x.add (k * 2))) (c - k) (vs.drop (k * 2)) := by
  refine ⟨fun e => ?_, fun j u hu => ?_⟩
  · split at e
    · omega
    · have : A = none := by simpa using e
      have := h.1 this
      omega
  · rw [List.getElem?_drop] at hu
    have hlt := (List.getElem?_eq_some_iff.1 hu).1
    obtain ⟨ad, rfl, hB, hc⟩ := h.2 _ _ hu
    rw [if_neg (by omega)]
    refine ⟨ad.add (k * 2), rfl, by rw [addr_block]; exact hB, ?_⟩
    rw [Deep.add_add]
    exact hc
theorem Prs.part {w : World} {B : Nat} {A : Option Addr} {c : Nat} {ls : List PR} (h : Prs w B A c ls) (k : Nat) (hl : ls.length ≤ c) : Prs w B (if c = k then A else A.map (fun x => x.add (k * 2))) (c - k) (ls.drop k) := by
  obtain ⟨vs, h1, h2⟩ := h
  exact ⟨vs.drop (k * 2), h1.part k (by rw [h2.len]; omega), h2.drop k⟩
theorem Prs.head {w : World} {B : Nat} {A : Option Addr} {c : Nat} {ls : List PR} (h : Prs w B A c ls) {k : Nat} (hk : k ≤ ls.length) (c' : Nat) (hc : A = none → c' = 0) : Prs w B A c' (ls.take k) := by
  obtain ⟨vs, h1, h2⟩ := h
  refine ⟨vs.take (k * 2), ⟨hc, fun j u hu => h1.2 j u ?_⟩, h2.take k⟩
  rw [List.getElem?_take] at hu
  split at hu
  · exact hu
  · cases hu
theorem Prs.full {w : World} {B base : Nat} {A : Option Addr} {c : Nat} {ls : List PR} (h : Prs w B A c ls) {k : Nat} (hk : k ≤ ls.length) : Dst w base B (.slice A k k) (ls.take k) := by
  have hkl : (ls.take k).length = k := by rw [List.length_take]; omega
  obtain ⟨vs, h1, h2⟩ := h.head hk k (fun e => by subst e; have := h.none_nil.1; subst this; simpa using hk)
  exact ⟨vs, h2, .inr ⟨A, by rw [hkl], by rw [hkl]; exact h1⟩⟩
theorem Dst.on {w w' : World} {base B : Nat} {v : Value} {ls : List PR} (h : Dst w base B v ls) (hb : Below w.heap.size w w') (hB : B ≤ w.heap.size) : Dst w' base B v ls := by
  obtain ⟨vs, hp, hv⟩ := h
  refine ⟨vs, hp.low (hb.mono hB), ?_⟩
  rcases hv with ho | ⟨A, e, hA⟩
  · exact .inl (own_belowS ho hb)
  · exact .inr ⟨A, e, hA.below (hb.mono hB)⟩

set_option maxHeartbeats 1600000 in
theorem joinedC (A M : Option Addr) (ls ms : List PR) (c a b m cm : Nat) (w : World) (hp : Prs w w.heap.size A c ls) (hq : Prs w w.heap.size M cm ms) (hm : m = ms.length) (h1 : a ≤ b) (h2 : b ≤ ls.length) (h3 : ls.length ≤ c) (hcm : c ≤ maxLen) (hs : ls.length + ms.length ≤ 400000) (rs : List PR) (hr : rs = ls.take a ++ ms ++ ls.drop b) :
    Calls Try.prog 46 #[.slice A ls.length c, .int .i64 a, .int .i64 b, .slice M m cm] w (NewPrs w rs) := by
  have e1 : a ≤ c := by omega
  have e2 : b ≤ c := by omega
  have HD0 : Hid (Dst w.drew w.heap.size w.heap.size (.slice A a a) (ls.take a)) := (hp.full (by omega)).on (Below.refl _ _).drew (Nat.le_refl _)
  have HM0 : Hid (Src w.drew w.heap.size M cm ms) := .of (hq.below (Below.refl _ _).drew)
  have HX : Hid (∀ w', Below w.heap.size w w' → Src w' w.heap.size (if c = b then A else A.map (fun x => x.add (b * 2))) (c - b) (ls.drop b)) := fun w' hb => .of ((hp.part b h3).below hb)
  have hl1 : (ls.take a).length = a := by rw [List.length_take]; omega
  have hl2 : (ls.drop b).length = ls.length - b := by rw [List.length_drop]
  have HR := Lib.hid hr.symm
  have HL : Hid (rs.length ≤ 800000) := by show _ ≤ _; rw [hr]; simp only [List.length_append, hl1, hl2]; omega
  clear hp hq hl1 hl2 hr
  subst hm
  unfold maxLen at hcm
  go_enter Try.func46, Try.ntmps46
  go_wp2_with fail
  refine wp_region_held_drew (S := fun w' => True) (by kernel_rfl) trivial (fun hHeld => ?_)
  refine wpAnyH_take (i := 0) (v := ?vj1) rfl (by kernel_rfl) (by kernel_rfl) (by kernel_rfl) (fun _ _ _ h => h) (Or.inl ⟨by kernel_rfl, ?yj1⟩) (by assumption) ?rj1
  case yj1 => (intro w hSw; (try dsimp only at hSw); go_simp; (try with_reducible rfl))
  try simp only [Act.put, List.getElem_toArray, List.getElem_cons_zero, List.getElem_cons_succ, List.setIfInBounds_toArray, List.set_cons_zero, List.set_cons_succ]
  refine wpAnyH_take (i := 1) (v := ?vj2) rfl (by kernel_rfl) (by kernel_rfl) (by kernel_rfl) (fun _ _ _ h => h) (Or.inl ⟨by kernel_rfl, ?yj2⟩) (by assumption) ?rj2
  case yj2 => (intro w hSw; (try dsimp only at hSw); go_simp; (try with_reducible rfl))
  try simp only [Act.put, List.getElem_toArray, List.getElem_cons_zero, List.getElem_cons_succ, List.setIfInBounds_toArray, List.set_cons_zero, List.set_cons_succ]
  refine wpAnyH_take (i := 2) (v := ?vj3) rfl (by kernel_rfl) (by kernel_rfl) (by kernel_rfl) (fun _ _ _ h => h) (Or.inl ⟨by kernel_rfl, ?yj3⟩) (by assumption) ?rj3
  case yj3 => (intro w hSw; (try dsimp only at hSw); go_simp; (try with_reducible rfl))
  try simp only [Act.put, List.getElem_toArray, List.getElem_cons_zero, List.getElem_cons_succ, List.setIfInBounds_toArray, List.set_cons_zero, List.set_cons_succ]
  refine wpAnyH_take (i := 3) (v := ?vj4) rfl (by kernel_rfl) (by kernel_rfl) (by kernel_rfl) (fun _ _ _ h => h) (Or.inl ⟨by kernel_rfl, ?yj4⟩) (by assumption) ?rj4
  case yj4 => (intro w hSw; (try dsimp only at hSw); go_simp; (try with_reducible rfl))
  try simp only [Act.put, List.getElem_toArray, List.getElem_cons_zero, List.getElem_cons_succ, List.setIfInBounds_toArray, List.set_cons_zero, List.set_cons_succ]
  refine wpAnyH_take (i := 4) (v := ?vj5) rfl (by kernel_rfl) (by kernel_rfl) (by kernel_rfl) (fun _ _ _ h => h) (Or.inl ⟨by kernel_rfl, ?yj5⟩) (by assumption) ?rj5
  case yj5 => (intro w hSw; (try dsimp only at hSw); go_simp; (try with_reducible rfl))
  try simp only [Act.put, List.getElem_toArray, List.getElem_cons_zero, List.getElem_cons_succ, List.setIfInBounds_toArray, List.set_cons_zero, List.set_cons_succ]
  refine wpAnyH_take (i := 6) (v := ?vj6) rfl (by kernel_rfl) (by kernel_rfl) (by kernel_rfl) (fun _ _ _ h => h) (Or.inl ⟨by kernel_rfl, ?yj6⟩) (by assumption) ?rj6
  case yj6 => (intro w hSw; (try dsimp only at hSw); go_simp; (try with_reducible rfl))
  try simp only [Act.put, List.getElem_toArray, List.getElem_cons_zero, List.getElem_cons_succ, List.setIfInBounds_toArray, List.set_cons_zero, List.set_cons_succ]
  refine wpAnyH_take (i := 7) (v := ?vj7) rfl (by kernel_rfl) (by kernel_rfl) (by kernel_rfl) (fun _ _ _ h => h) (Or.inl ⟨by kernel_rfl, ?yj7⟩) (by assumption) ?rj7
  case yj7 => (intro w hSw; (try dsimp only at hSw); go_simp; (try with_reducible rfl))
  try simp only [Act.put, List.getElem_toArray, List.getElem_cons_zero, List.getElem_cons_succ, List.setIfInBounds_toArray, List.set_cons_zero, List.set_cons_succ]
  refine wpAnyH_take (i := 8) (v := ?vj8) rfl (by kernel_rfl) (by kernel_rfl) (by kernel_rfl) (fun _ _ _ h => h) (Or.inl ⟨by kernel_rfl, ?yj8⟩) (by assumption) ?rj8
  case yj8 => (intro w hSw; (try dsimp only at hSw); go_simp; (try with_reducible rfl))
  try simp only [Act.put, List.getElem_toArray, List.getElem_cons_zero, List.getElem_cons_succ, List.setIfInBounds_toArray, List.set_cons_zero, List.set_cons_succ]
  refine wpAnyH_ready (rs := [5]) (by kernel_rfl) (by simp) ?_
  refine AllReadyH.cons rfl (fun K hK => ?_) AllReadyH.nil
  rw [if_pos (by rfl)]
  refine HD0.out.wp (Nat.le_refl _) (Nat.le_refl _) (.tmp 12) (.tmp 13) rfl rfl rfl HM0.out rfl (by simp; omega) ?_
  intro v4 w4 hD4 hb4
  have HD4 := Lib.hid hD4
  replace hb4 : Below w.heap.size w w4 := (Below.refl _ _).drew.trans hb4
  have HB4 := Lib.hid hb4
  clear hD4 hb4
  refine hK.out _ _ trivial (fun hHeld => ?_)
  clear hK K
  try simp only [Act.put, List.getElem_toArray, List.getElem_cons_zero, List.getElem_cons_succ, List.setIfInBounds_toArray, List.set_cons_zero, List.set_cons_succ]
  refine wpAnyH_ready (rs := [9]) (by kernel_rfl) (by simp) ?_
  refine AllReadyH.cons rfl (fun K hK => ?_) AllReadyH.nil
  rw [if_pos (by rfl)]
  refine HD4.out.wp (Nat.le_refl _) HB4.out.size (.tmp 14) (.tmp 17) rfl rfl rfl (HX.out w4 HB4.out) (by simp) (by simp; omega) ?_
  intro v5 w5 hD5 hb5
  rw [HR.out] at hD5
  have HD5 := Lib.hid hD5
  have HB5 := Lib.hid (HB4.out.trans hb5)
  clear hD5 hb5
  refine hK.out _ _ trivial (fun hHeld => ?_)
  clear hK K hHeld
  try simp only [Act.put, List.getElem_toArray, List.getElem_cons_zero, List.getElem_cons_succ, List.setIfInBounds_toArray, List.set_cons_zero, List.set_cons_succ]
  have hHeld : True := trivial
  refine wpAnyH_take (i := 10) (v := ?vj51) rfl (by kernel_rfl) (by kernel_rfl) (by kernel_rfl) (fun _ _ _ h => h) (Or.inl ⟨by kernel_rfl, ?yj51⟩) (by assumption) ?rj51
  case yj51 => (intro w hSw; (try dsimp only at hSw); go_simp; (try with_reducible rfl))
  try simp only [Act.put, List.getElem_toArray, List.getElem_cons_zero, List.getElem_cons_succ, List.setIfInBounds_toArray, List.set_cons_zero, List.set_cons_succ]
  refine wpAnyH_done (by kernel_rfl) ?_ _
  go_wp2
  all_goals
    obtain ⟨A', c', e', g1, g2, g3⟩ := HD5.out.prs HB5.out.size (by have := HL.out; omega)
    go_ret
    exact ⟨A', c', by rw [← e']; rfl, g1, g2, g3, HB5.out⟩
end Go.Proofs.Ytncbbjodianmoaa
