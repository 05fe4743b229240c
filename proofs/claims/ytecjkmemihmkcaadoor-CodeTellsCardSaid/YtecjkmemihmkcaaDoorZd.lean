/- What 'appendNum' and 'appendCode' return: the bytes of a number and of a code, behind what was there. Conditions: none beyond what a slice is. -/
import Derived.Test.YtecjkmemihmkcaaDoorZc
import Derived.Test.YtecjkmemihmkcaaDoorZb
import Derived.Laws.IdiomStrings
import Derived.Deep.MidRow
import Derived.Deep.Slices
import Derived.Deep.QuietTactic
import Derived.BigQuiet
import Derived.Lib.Hide
import Derived.Maps.AppendAt
import Derived.Deep.RegionHeld3
import Derived.Deep.CutBlock
namespace Go.Proofs.YtecjkmemihmkcaaDoor
set_option maxRecDepth 100000
open Go.RowKit
set_option linter.unusedSimpArgs false
set_option linter.unusedVariables false

/-- '[]byte(s)' -/
theorem run_bytes (w : World) (s : List Int) (hs : Byt s) (hm : s.length ≤ maxLen) : ∃ c w', (convert 9 26 (.string (strOfNums s))).run Tryd.prog w = .ok (.slice (some ⟨w.heap.size, 0, none⟩) s.length c) w' ∧ s.length ≤ c ∧ c ≤ maxLen ∧ Below w.heap.size w w' ∧ Lies w' w'.heap.size (some ⟨w.heap.size, 0, none⟩) c (cellsOf s) := by
  have h := run_bytes_of_string (P := Tryd.prog) w 9 26 5 (strOfNums s) Tryd.underlying9 Tryd.underlying26 Tryd.underlying5
  rw [strOfNums_size] at h
  generalize hc : grownCap w s.length 0 5 = c at h
  have h1 := grownCap_ge w s.length 0 5
  have h2 := grownCap_le_maxLen w s.length 0 5 hm
  rw [hc] at h1 h2
  refine ⟨c, _, h, h1, h2, ((Below.refl _ _).drew).alloc (Nat.le_refl _) _, (fun e => by cases e), fun j u hu => ⟨_, rfl, by simp, ?_⟩⟩
  have hj : j < s.length := by
    have := (List.getElem?_eq_some_iff.1 hu).1
    simpa using this
  have hb : (w.drew.alloc (.cells (bytesRow (strOfNums s) c) 5 ((bytesRow (strOfNums s) c).size, (bytesRow (strOfNums s) c).size + 1))).heap[w.heap.size]? = some (.cells (bytesRow (strOfNums s) c) 5 ((bytesRow (strOfNums s) c).size, (bytesRow (strOfNums s) c).size + 1)) := heap_alloc_new w.drew _
  have hsz : (strOfNums s).data.size = s.length := by simp [strOfNums]
  rw [Addr.add_lit, cell_of_row _ _ _ _ _ _ hb, Nat.zero_add, bytesRow_at _ _ _ (by rw [hsz]; exact hj)]
  have e1 : (cellsOf s)[j]? = some (.int .u8 s[j]) := by simp [hj]
  rw [← hu, e1]
  have hb2 := hs s[j] (List.getElem_mem hj)
  simp only [strOfNums]
  simp
  omega

/-- what an append onto the row v, which is v' behind it, leaves -/
def Gro (v v' : Value) (w w' : World) : Prop := w.grownBy w' v.ownBlock ∧ (v'.ownBlock = v.ownBlock ∨ ∃ g, v'.ownBlock = some g ∧ w.heap.size ≤ g)
theorem Gro.refl (v : Value) (w : World) : Gro v v w w := ⟨World.grownBy.refl _ _, .inl rfl⟩
theorem Gro.trans {v v' v'' : Value} {a b c : World} (h : Gro v v' a b) (k : Gro v' v'' b c) : Gro v v'' a c := by
  obtain ⟨h1, h2⟩ := h
  obtain ⟨k1, k2⟩ := k
  refine ⟨⟨k1.os.trans h1.os, k1.tape.trans h1.tape, k1.output.trans h1.output, Nat.le_trans h1.size k1.size, fun i hi hr => (k1.block i (Nat.lt_of_lt_of_le hi h1.size) (fun e => ?_)).trans (h1.block i hi hr)⟩, ?_⟩
  · rcases h2 with h2 | ⟨g, h2, h3⟩
    · exact hr (e.trans h2)
    · rw [h2] at e
      injection e with e
      omega
  · rcases k2 with k2 | ⟨g, k2, k3⟩
    · rcases h2 with h2 | ⟨g, h2, h3⟩
      · exact .inl (k2.trans h2)
      · exact .inr ⟨g, k2.trans h2, h3⟩
    · exact .inr ⟨g, k2, Nat.le_trans h1.size k3⟩
theorem Gro.under {v v' : Value} {a b c : World} (h : Below a.heap.size a b) (k : Gro v v' b c) : Gro v v' a c := by
  obtain ⟨k1, k2⟩ := k
  refine ⟨⟨k1.os.trans h.os, k1.tape.trans h.tape, k1.output.trans h.output, Nat.le_trans h.size k1.size, fun i hi hr => (k1.block i (Nat.lt_of_lt_of_le hi h.size) hr).trans (h.block i hi)⟩, ?_⟩
  rcases k2 with k2 | ⟨g, k2, k3⟩
  · exact .inl k2
  · exact .inr ⟨g, k2, Nat.le_trans h.size k3⟩
theorem Gro.kept {v v' : Value} {w w' : World} (h : Gro v v' w w') {k : Nat} (hk : k < w.heap.size) (hv : v.ownBlock ≠ some k) : w'.heap[k]? = w.heap[k]? ∧ v'.ownBlock ≠ some k := by
  refine ⟨h.1.block k hk (fun e => hv e.symm), fun e => ?_⟩
  rcases h.2 with h2 | ⟨g, h2, h3⟩
  · exact hv (h2.symm.trans e)
  · rw [h2] at e
    injection e with e
    omega
theorem Gro.below {v v' : Value} {w w' : World} (h : Gro v v' w w') {base : Nat} {e : TypeId} {size n : Nat} {xs : List Value} (ho : w.ownsRow base e size v n xs) (hb : base ≤ w.heap.size) : Below base w w' :=
  (Below.refl _ _).grown h.1 hb fun k hk => (ho.lt k hk).1
theorem own_not {w : World} {base : Nat} {e : TypeId} {size n : Nat} {v : Value} {xs : List Value} (ho : w.ownsRow base e size v n xs) {k : Nat} (hk : w.heap.size ≤ k) : v.ownBlock ≠ some k := fun e => by
  have := (ho.lt k e).2
  omega

/-- 'append' of a slice that lies onto what the call owns -/
theorem wp_append_gro {P : Program} (w : World) {o : Oper} {a : Act} {K : Act → World → Prop} {Q : Exit → Act → World → Prop} (s x : Operand) (t : TypeId)
    (ho : o.op = .call { callee := .builtin .append, args := #[s, x], argTypes := #[t, t] })
    (base : Nat) (e : TypeId) (i : TypeInfo) (z : Value) (size bytes : Nat) (ht : P.underlying t = some (.slice e)) (hi : P.info? e = some i) (hz : i.zero = some z)
    (hsize : i.size = size) (hby : i.bytes = bytes) (hzs : z.cells.size = size) (hsz : 0 < size)
    (v : Value) (n : Nat) (xs : List Value) (hs : a.eval s = v) (hown : w.ownsRow base e size v n xs)
    (B : Nat) (A : Option Addr) (m c : Nat) (news : List Value) (hx : a.eval x = .slice A m c) (hm : news.length = m * size) (hr : Lies w B A c news) (h1 : ∀ u ∈ news, u.oneCell' = true)
    (h63 : n + m ≤ maxLen) (hbytes : (n + m) * bytes ≤ 140737488355328) (hbase : base ≤ w.heap.size)
    (h : ∀ v' w', w'.ownsRow base e size v' (n + m) (xs ++ news) → Gro v v' w w' → K (a.put o.dst v') w') : o.wp P a w K Q := by
  cases A with
  | none =>
    obtain ⟨rfl, rfl⟩ := hr.none_nil
    have hm0 : m = 0 := by
      rw [List.length_nil] at hm
      rcases Nat.mul_eq_zero.1 hm.symm with h | h <;> omega
    subst hm0
    have hrun := run_append_owned_none (P := P) (w := w) base t o.type e i size ht hi v n xs hown
    have hK := h v w (by simpa using hown) (Gro.refl _ _)
    unfold Oper.wp execOp
    simp only [ho, resolve, invoke, builtin, Sem.run_bind, Sem.run_pure, Result.andThen_ok, List.map_toArray, List.map_cons, List.map_nil, hs, hx, hrun]
    exact hK
  | some ad =>
    obtain ⟨v', w', hrun, h2, h3, _, h5⟩ := run_append_own_at (P := P) w base t o.type e i z size bytes ht hi hz hsize hby hzs hsz v n xs hown ad m c news hm (fun j u hu => by
      obtain ⟨ad', e', _, hc⟩ := hr.2 j u hu
      injection e' with e'
      subst e'
      exact hc) h1 h63 hbytes hbase
    have hK := h v' w' h2 ⟨h3, h5.imp id fun h => ⟨_, h, Nat.le_refl _⟩⟩
    unfold Oper.wp execOp
    simp only [ho, resolve, invoke, builtin, Sem.run_bind, Sem.run_pure, Result.andThen_ok, List.map_toArray, List.map_cons, List.map_nil, hs, hx, hrun]
    exact hK
theorem wpList_append_gro {P : Program} (w : World) {ops : Array Oper} {rest : List Oper} {o : Oper} {a : Act} {Q : Exit → Act → World → Prop} (hgd : o.guard = none) (s x : Operand) (t : TypeId)
    (ho : o.op = .call { callee := .builtin .append, args := #[s, x], argTypes := #[t, t] })
    (base : Nat) (e : TypeId) (i : TypeInfo) (z : Value) (size bytes : Nat) (ht : P.underlying t = some (.slice e)) (hi : P.info? e = some i) (hz : i.zero = some z)
    (hsize : i.size = size) (hby : i.bytes = bytes) (hzs : z.cells.size = size) (hsz : 0 < size)
    (v : Value) (n : Nat) (xs : List Value) (hs : a.eval s = v) (hown : w.ownsRow base e size v n xs)
    (B : Nat) (A : Option Addr) (m c : Nat) (news : List Value) (hx : a.eval x = .slice A m c) (hm : news.length = m * size) (hr : Lies w B A c news) (h1 : ∀ u ∈ news, u.oneCell' = true)
    (h63 : n + m ≤ maxLen) (hbytes : (n + m) * bytes ≤ 140737488355328) (hbase : base ≤ w.heap.size)
    (h : ∀ v' w', w'.ownsRow base e size v' (n + m) (xs ++ news) → Gro v v' w w' → wpList P ops Q rest (a.put o.dst v') w') : wpList P ops Q (o :: rest) a w :=
  wpList_plain hgd fun _ hK => wp_append_gro w s x t ho base e i z size bytes ht hi hz hsize hby hzs hsz v n xs hs hown B A m c news hx hm hr h1 h63 hbytes hbase fun v' w' h2 h3 => hK _ _ (h v' w' h2 h3)

theorem step_append_gro {P : Program} (w : World) {ops : Array Oper} {o : Oper} {a : Act} {K : Act → World → Prop} {Q : Exit → Act → World → Prop} {E : Prop} (hgd : o.guard = none) (s x : Operand) (t : TypeId)
    (ho : o.op = .call { callee := .builtin .append, args := #[s, x], argTypes := #[t, t] })
    (base : Nat) (e : TypeId) (i : TypeInfo) (z : Value) (size bytes : Nat) (ht : P.underlying t = some (.slice e)) (hi : P.info? e = some i) (hz : i.zero = some z)
    (hsize : i.size = size) (hby : i.bytes = bytes) (hzs : z.cells.size = size) (hsz : 0 < size)
    (v : Value) (n : Nat) (xs : List Value) (hs : a.eval s = v) (hown : w.ownsRow base e size v n xs)
    (B : Nat) (A : Option Addr) (m c : Nat) (news : List Value) (hx : a.eval x = .slice A m c) (hm : news.length = m * size) (hr : Lies w B A c news) (h1 : ∀ u ∈ news, u.oneCell' = true)
    (h63 : n + m ≤ maxLen) (hbytes : (n + m) * bytes ≤ 140737488355328) (hbase : base ≤ w.heap.size)
    (h : ∀ v' w', w'.ownsRow base e size v' (n + m) (xs ++ news) → Gro v v' w w' → K (a.put o.dst v') w') : if Region.wanted o (yielded ops a.tmps) = true then Oper.wp P o a w K Q else E := by
  have hw : Region.wanted o (yielded ops a.tmps) = true := by simp [Region.wanted, hgd]
  rw [if_pos hw]
  exact wp_append_gro w s x t ho base e i z size bytes ht hi hz hsize hby hzs hsz v n xs hs hown B A m c news hx hm hr h1 h63 hbytes hbase h

/-- a block of one's own, beside the row v, as it was made -/
structure Pk (w0 : World) (base g T : Nat) (cs : Array Value) (v : Value) (w : World) : Prop where
  box : w.heap[g]? = some (.cells cs T (0, 0))
  ne : v.ownBlock ≠ some g
  low : Below base w0 w
  hbase : base ≤ w.heap.size
theorem Pk.gro {w0 w w' : World} {base g T : Nat} {cs : Array Value} {v v' : Value} {size n : Nat} {e : TypeId} {xs : List Value} (h : Pk w0 base g T cs v w) (ho : w.ownsRow base e size v n xs) (hg : Gro v v' w w') : Pk w0 base g T cs v' w' := by
  have hk := hg.kept (lt_of_some h.box) h.ne
  exact ⟨by rw [hk.1]; exact h.box, hk.2, h.low.trans (hg.below ho h.hbase), Nat.le_trans h.hbase hg.1.size⟩
theorem Pk.under {w0 w w' : World} {base g T : Nat} {cs : Array Value} {v : Value} (h : Pk w0 base g T cs v w) (hb : Below w.heap.size w w') : Pk w0 base g T cs v w' :=
  ⟨by rw [hb.block _ (lt_of_some h.box)]; exact h.box, h.ne, h.low.trans (hb.mono h.hbase), Nat.le_trans h.hbase hb.size⟩
theorem Pk.cell {w0 w : World} {base g T : Nat} {cs : Array Value} {v : Value} (h : Pk w0 base g T cs v w) {k : Nat} {u : Value} (hu : cs[k]? = some u) : w.cell? ⟨g, k, none⟩ = some u := by
  rw [cell_of_row _ _ _ _ _ _ h.box]
  exact hu
/-- what appendNum returns -/
def NumGot (base : Nat) (v : Value) (m : Nat) (xs : List Value) (n : Int) (w : World) (e : Ending) (w' : World) : Prop := ∃ v', e = .returned v' ∧ w'.ownsRow base 5 1 v' (m + 8) (xs ++ cellsOf (be n 7 8)) ∧ Gro v v' w w'
set_option maxHeartbeats 400000 in
theorem appendNum (v : Value) (m : Nat) (xs : List Value) (n : Int) (w : World) (base : Nat) (hown : w.ownsRow base 5 1 v m xs) (hm : m ≤ 100000000) (hbase : base ≤ w.heap.size) :
    Calls Tryd.prog 46 #[v, .int .i64 n] w (NumGot base v m xs n w) := by
  obtain ⟨i0, hi, hz0, hz1, hz2⟩ := info_parts info5
  go_enter Tryd.func46, Tryd.ntmps46
  go_wp2_with fail
  refine (putNum n w).mono ?_
  rintro e w1 ⟨A, c, rfl, h1, h2, h3, h4⟩
  have ho1 := own_below hown h4 (Nat.le_refl _)
  have hs1 := h4.size
  clear hown
  go_wp2_with (at_builtin; refine wpList_append_gro _ rfl (.tmp 5) (.tmp 7) 26 rfl base 5 i0 (.int .u8 0) 1 1 Tryd.underlying26 hi hz0 hz1 hz2 rfl (by omega) v _ _ rfl ho1 w1.heap.size A 8 c (cellsOf (be n 7 8)) rfl (by simp [be_length]) h3 (bytes_oneCell _) (by unfold maxLen; omega) (by omega) (by omega) ?_; intro v2 w2 ho2 hg2)
  go_ret
  exact ⟨_, rfl, ho2, hg2.under h4⟩

theorem info50s : (Tryd.prog.info? 50).map (·.size) = some 2 := by kernel_rfl
theorem info46s : (Tryd.prog.info? 46).map (·.size) = some 5 := by kernel_rfl
theorem info25s : (Tryd.prog.info? 25).map (·.size) = some 2 := by kernel_rfl
theorem range2 {w : World} {b o : Nat} {u v : Value} (h1 : w.cell? ⟨b, o, none⟩ = some u) (h2 : w.cell? ⟨b, o + 1, none⟩ = some v) : w.rangeAt b o [u, v] := by
  intro j x hx
  match j, hx with
  | 0, hx => simp at hx; subst hx; exact h1
  | 1, hx => simp at hx; subst hx; exact h2
theorem flat_snoc {α : Type} (b : α → List Int) {l : List α} {k : Nat} {x : α} (h : l[k]? = some x) : (l.take (k + 1)).flatMap b = (l.take k).flatMap b ++ b x := by
  rw [take_next h, List.flatMap_append]
  simp

set_option maxHeartbeats 800000 in
theorem appendCode (v : Value) (m : Nat) (xs : List Value) (c : Cd) (V : Value) (w : World) (base : Nat) (hown : w.ownsRow base 5 1 v m xs) (hm : m ≤ 90000000) (hbase : base ≤ w.heap.size) (hc : CodeV w base c V) (hn : Byt c.name)
    (h1 : c.name.length ≤ 16) (h2 : c.params.length ≤ 16) (h3 : c.instrs.length ≤ 16384) :
    Calls Tryd.prog 25 #[v, V] w fun e w' => ∃ v', e = .returned v' ∧ w'.ownsRow base 5 1 v' (m + cdN c) (xs ++ cellsOf (cdB c)) ∧ Below base w w' := by
  obtain ⟨i0, hi, hz0, hz1, hz2⟩ := info_parts info5
  obtain ⟨P, I, rfl, hP, hI⟩ := hc
  obtain ⟨AP, cP, rfl, p1, p2, p3⟩ := hP
  obtain ⟨AI, cI, rfl, q1, q2, q3⟩ := hI
  unfold coC
  unfold maxLen at p2 q2
  have hsz0 : (w.alloc (.cells #[.string (strOfNums c.name), .slice AP c.params.length cP, .int .i64 c.result, .int .i64 c.slots, .slice AI c.instrs.length cI] 46)).heap.size = w.heap.size + 1 := by simp
  have PK0 : Pk w base w.heap.size 46 #[.string (strOfNums c.name), .slice AP c.params.length cP, .int .i64 c.result, .int .i64 c.slots, .slice AI c.instrs.length cI] v (w.alloc (.cells #[.string (strOfNums c.name), .slice AP c.params.length cP, .int .i64 c.result, .int .i64 c.slots, .slice AI c.instrs.length cI] 46)) :=
    ⟨heap_alloc_new w _, own_not hown (Nat.le_refl _), (Below.refl _ _).alloc hbase _, by rw [hsz0]; omega⟩
  have HO0 := own_below hown ((Below.refl _ _).alloc (Nat.le_refl w.heap.size) (.cells #[.string (strOfNums c.name), .slice AP c.params.length cP, .int .i64 c.result, .int .i64 c.slots, .slice AI c.instrs.length cI] 46)) (Nat.le_refl _)
  generalize hW : w.alloc (.cells #[.string (strOfNums c.name), .slice AP c.params.length cP, .int .i64 c.result, .int .i64 c.slots, .slice AI c.instrs.length cI] 46) = W at PK0 HO0 hsz0
  obtain ⟨cn, w1, r1, n1, n2, n3, n4⟩ := run_bytes W c.name hn (by unfold maxLen; omega)
  rw [hsz0] at r1 n4
  have c0 := PK0.cell (k := 0) rfl
  have PK1 := Lib.hid (PK0.under n3)
  have HO1 := Lib.hid (own_below HO0 n3 (Nat.le_refl _))
  have KB := Lib.hid (putBytes _ cn c.name w1 n4 (by omega))
  clear PK0 HO0 hown n3 n4
  go_enter Tryd.func25, Tryd.ntmps25
  go_wp2_with fail
  refine KB.out.mono ?_
  rintro e w2 ⟨A2, c2, rfl, s1, s2, s3, s4⟩
  have PK2 := Lib.hid (PK1.out.under s4)
  have HO2 := Lib.hid (own_below HO1.out s4 (Nat.le_refl _))
  have HS := Lib.hid s3
  clear s3 s4 PK1 HO1 KB hW r1 c0 hsz0
  go_wp2_with fail
  have c0 := PK2.out.cell (k := 1) rfl
  have HL : Hid ((cellsOf (be (c.name.length : Int) 3 4 ++ c.name)).length = (4 + c.name.length) * 1) := Lib.hid (by simp [be_length])
  have PKd := Lib.hid (PK2.out.under ((Below.refl _ _).drew))
  have HOd := Lib.hid (own_below HO2.out ((Below.refl _ _).drew) (Nat.le_refl _))
  have HSd := Lib.hid (HS.out.below ((Below.refl _ _).drew))
  have hb2 := PKd.out.hbase
  go_region_held3 (fun w' => w'.cell? ⟨w.heap.size, 1, none⟩ = some (.slice AP c.params.length cP))
    (first | with_reducible exact PKd.out.cell (k := 1) rfl | with_reducible exact PK3.out.cell (k := 1) rfl | with_reducible exact PK4.out.cell (k := 1) rfl)
    (first
      | (refine step_append_gro _ rfl (.tmp 18) (.tmp 19) 26 rfl base 5 i0 (.int .u8 0) 1 1 Tryd.underlying26 hi hz0 hz1 hz2 rfl (by omega) v m xs rfl HOd.out w2.heap.size A2 (4 + c.name.length) c2 (cellsOf (be (c.name.length : Int) 3 4 ++ c.name)) rfl HL.out HSd.out (bytes_oneCell _) (by unfold maxLen; omega) (by omega) hb2 ?_; intro v3 w3 ho3 hg3; have PK3 := Lib.hid (PKd.out.gro HOd.out hg3); have HO3 := Lib.hid ho3; clear ho3 hg3)
      | (go_at_call 46; refine (appendNum v3 _ _ _ w3 base HO3.out (by omega) PK3.out.hbase).mono ?_; rintro e w4 ⟨v4, rfl, ho4, hg4⟩; have PK4 := Lib.hid (PK3.out.gro HO3.out hg4); have HO4 := Lib.hid ho4; clear ho4 hg4))
  go_wp2_with fail
  have HX : Hid (w4.ownsRow base 5 1 v4 (m + 12 + c.name.length) (xs ++ cellsOf (be (c.name.length : Int) 3 4 ++ (c.name ++ be (c.params.length : Int) 7 8)))) := Lib.hid (own_eq HO4.out (by omega) (by simp [cellsOf]))
  clear PKd HOd HSd PK3 HO3 HO2 PK2 HO4 HS HL c0 hb2
  have HP := Lib.hid p3
  have HI := Lib.hid q3
  clear p3 q3
  have b4 := PK4.out.hbase
  go_loopw [0, 28] (fun v i wr => ∃ k : Nat, k ≤ c.params.length ∧ i = .int .i64 k ∧ wr.ownsRow base 5 1 v (m + 12 + c.name.length + 8 * k) (xs ++ cellsOf (be (c.name.length : Int) 3 4 ++ (c.name ++ be (c.params.length : Int) 7 8)) ++ cellsOf ((c.params.take k).flatMap nuB)) ∧ Pk w base w.heap.size 46 #[.string (strOfNums c.name), .slice AP c.params.length cP, .int .i64 c.result, .int .i64 c.slots, .slice AI c.instrs.length cI] v wr) (fun _ i _ => c.params.length - (intOf i).toNat)
  case atStart => exact ⟨0, Nat.zero_le _, rfl, by simpa using HX.out, PK4.out⟩
  case round =>
    clear HX PK4 b4
    obtain ⟨k, hk, rfl, ho, hpk⟩ := hrel
    by_cases hkl : k < c.params.length
    · obtain ⟨x, hx⟩ : ∃ x, c.params[k]? = some x := ⟨_, List.getElem?_eq_getElem hkl⟩
      obtain ⟨ad, rfl, hB, hc0⟩ := HP.out.2 k _ (tysV_at hx)
      have hc : wr.cell? (ad.add k) = some (.int .i64 x) := by rw [hpk.low.cell (by rw [addr_block]; exact hB)]; exact hc0
      have HM := Lib.hid (flat_snoc nuB hx)
      have PK := Lib.hid hpk
      have K := Lib.hid (appendNum _ _ _ x wr base ho (by omega) hpk.hbase)
      have HO := Lib.hid ho
      clear hx hc0 hpk ho
      go_wp2_with fail
      refine K.out.mono ?_
      rintro e w5 ⟨v5, rfl, ho5, hg5⟩
      have PK5 := Lib.hid (PK.out.gro HO.out hg5)
      have HO5 : Hid (w5.ownsRow base 5 1 v5 (m + 12 + c.name.length + 8 * (k + 1)) (xs ++ cellsOf (be (c.name.length : Int) 3 4 ++ (c.name ++ be (c.params.length : Int) 7 8)) ++ cellsOf ((c.params.take (k + 1)).flatMap nuB))) := Lib.hid (own_eq ho5 (by omega) (by rw [HM.out]; simp [cellsOf, nuB]))
      clear ho5 hg5 K PK HO
      go_wp2
      go_roundw
      case rel => exact ⟨k + 1, by omega, by go_num, HO5.out, PK5.out⟩
      case measure => simp [intOf]; omega
    · obtain rfl : k = c.params.length := by omega
      rw [List.take_length] at ho
      have HQ : Hid (wr.ownsRow base 5 1 u0 (m + 12 + c.name.length + 8 * c.params.length) (xs ++ cellsOf (be (c.name.length : Int) 3 4 ++ (c.name ++ (be (c.params.length : Int) 7 8 ++ c.params.flatMap nuB))))) := Lib.hid (own_eq ho rfl (by simp [cellsOf]))
      have PK := Lib.hid hpk
      have K := Lib.hid (appendNum _ _ _ c.result wr base HQ.out (by omega) hpk.hbase)
      have d2 := hpk.cell (k := 2) rfl
      clear ho hpk HP hk
      go_wp2_with fail
      refine K.out.mono ?_
      rintro e w5 ⟨v5, rfl, ho5, hg5⟩
      have PK5 := Lib.hid (PK.out.gro HQ.out hg5)
      have HO5 := Lib.hid ho5
      have K := Lib.hid (appendNum _ _ _ c.slots w5 base HO5.out (by omega) PK5.out.hbase)
      have d3 := PK5.out.cell (k := 3) rfl
      clear ho5 hg5 PK HQ d2
      go_wp2_with fail
      refine K.out.mono ?_
      rintro e w6 ⟨v6, rfl, ho6, hg6⟩
      have PK6 := Lib.hid (PK5.out.gro HO5.out hg6)
      have HO6 := Lib.hid ho6
      have K := Lib.hid (appendNum _ _ _ (c.instrs.length : Int) w6 base HO6.out (by omega) PK6.out.hbase)
      have d4 := PK6.out.cell (k := 4) rfl
      clear ho6 hg6 PK5 HO5 d3
      go_wp2_with fail
      refine K.out.mono ?_
      rintro e w7 ⟨v7, rfl, ho7, hg7⟩
      have PK7 := Lib.hid (PK6.out.gro HO6.out hg7)
      have HO7 : Hid (w7.ownsRow base 5 1 v7 (m + 36 + c.name.length + 8 * c.params.length) (xs ++ cellsOf (be (c.name.length : Int) 3 4 ++ (c.name ++ (be (c.params.length : Int) 7 8 ++ (c.params.flatMap nuB ++ (be c.result 7 8 ++ (be c.slots 7 8 ++ be (c.instrs.length : Int) 7 8)))))))) := Lib.hid (own_eq ho7 (by omega) (by simp [cellsOf]))
      have d4 := PK7.out.cell (k := 4) rfl
      clear ho7 hg7 PK6 HO6 K
      go_wp2_with fail
      go_loopw [0, 52] (fun v i wr => ∃ k : Nat, k ≤ c.instrs.length ∧ i = .int .i64 k ∧ wr.ownsRow base 5 1 v (m + 36 + c.name.length + 8 * c.params.length + 16 * k) (xs ++ cellsOf (be (c.name.length : Int) 3 4 ++ (c.name ++ (be (c.params.length : Int) 7 8 ++ (c.params.flatMap nuB ++ (be c.result 7 8 ++ (be c.slots 7 8 ++ be (c.instrs.length : Int) 7 8)))))) ++ cellsOf ((c.instrs.take k).flatMap inB)) ∧ Pk w base w.heap.size 46 #[.string (strOfNums c.name), .slice AP c.params.length cP, .int .i64 c.result, .int .i64 c.slots, .slice AI c.instrs.length cI] v wr) (fun _ i _ => c.instrs.length - (intOf i).toNat)
      case atStart => exact ⟨0, Nat.zero_le _, rfl, by simpa using HO7.out, PK7.out⟩
      case round =>
        clear HO7 PK7 d4 hkl
        obtain ⟨k, hk, rfl, ho, hpk⟩ := hrel
        by_cases hkl : k < c.instrs.length
        · obtain ⟨x, hx⟩ : ∃ x, c.instrs[k]? = some x := ⟨_, List.getElem?_eq_getElem hkl⟩
          have HM := Lib.hid (flat_snoc inB hx)
          have hx2 := insV_at hx
          obtain ⟨b, o, rfl, hB, hcc⟩ := lies_flat HI.out hx2.1
          have hcA : wr.cell? ⟨b, o + k * 2, none⟩ = some (.int .i64 x.1) := by rw [hpk.low.cell hB]; exact hcc _ _ hx2.1
          have hcB : wr.cell? ⟨b, o + (k * 2 + 1), none⟩ = some (.int .i64 x.2) := by rw [hpk.low.cell hB]; exact hcc _ _ hx2.2
          have HR := Lib.hid (range2 hcA hcB)
          have PK := Lib.hid hpk
          have HO := Lib.hid ho
          clear hx hcc hpk ho hx2 hcA hcB
          go_wp2_with (first | (refine wpList_load_mid rfl 50 (.tmp 54) rfl b (o + k * 2) rfl [.int .i64 x.1, .int .i64 x.2] _ HR.out Tryd.underlying50 rfl info50s ?_; refine Hid.out ?_) | fail)
          refine Lib.hid ?_
          go_wp2_with fail
          have bt := (Below.refl wr.heap.size wr).alloc (Nat.le_refl _) (.cells #[.int .i64 x.1, .int .i64 x.2] 50)
          have PA := Lib.hid (PK.out.under bt)
          have PB0 : Pk w base wr.heap.size 50 #[.int .i64 x.1, .int .i64 x.2] u0 (wr.alloc (.cells #[.int .i64 x.1, .int .i64 x.2] 50)) := ⟨heap_alloc_new wr _, own_not HO.out (Nat.le_refl _), PA.out.low, PA.out.hbase⟩
          have PB := Lib.hid PB0
          have HA := Lib.hid (own_below HO.out bt (Nat.le_refl _))
          clear bt PK HO PB0 HR
          generalize wr.alloc (.cells #[.int .i64 x.1, .int .i64 x.2] 50) = wa at *
          have PAd := Lib.hid (PA.out.under ((Below.refl _ _).drew))
          have PBd := Lib.hid (PB.out.under ((Below.refl _ _).drew))
          have HAd := Lib.hid (own_below HA.out ((Below.refl _ _).drew) (Nat.le_refl _))
          have e0 := PB.out.cell (k := 0) rfl
          have e1 := PB.out.cell (k := 1) rfl
          generalize wr.heap.size = gb at *
          go_region_held3 (fun w' => w'.cell? ⟨gb, 0, none⟩ = some (.int .i64 x.1) ∧ w'.cell? ⟨gb, 1, none⟩ = some (.int .i64 x.2))
            (first | with_reducible exact ⟨PBd.out.cell (k := 0) rfl, PBd.out.cell (k := 1) rfl⟩ | with_reducible exact ⟨PB6.out.cell (k := 0) rfl, PB6.out.cell (k := 1) rfl⟩ | with_reducible exact ⟨PB5.out.cell (k := 0) rfl, PB5.out.cell (k := 1) rfl⟩)
            (first
              | (go_at_call 46; refine (appendNum _ _ _ _ _ base HO5.out (by omega) PA5.out.hbase).mono ?_; rintro e w6 ⟨v6, rfl, ho6, hg6⟩; have PA6 := Lib.hid (PA5.out.gro HO5.out hg6); have PB6 := Lib.hid (PB5.out.gro HO5.out hg6); have HO6 := Lib.hid ho6; clear ho6 hg6)
              | (go_at_call 46; refine (appendNum _ _ _ _ _ base HAd.out (by omega) PAd.out.hbase).mono ?_; rintro e w5 ⟨v5, rfl, ho5, hg5⟩; have PA5 := Lib.hid (PAd.out.gro HAd.out hg5); have PB5 := Lib.hid (PBd.out.gro HAd.out hg5); have HO5 := Lib.hid ho5; clear ho5 hg5))
          have HF : Hid (_root_.Go.World.ownsRow _ base 5 1 _ (m + 36 + c.name.length + 8 * c.params.length + 16 * (k + 1)) _) := Lib.hid (own_eq HO6.out (by omega) (show _ = xs ++ cellsOf (be (c.name.length : Int) 3 4 ++ (c.name ++ (be (c.params.length : Int) 7 8 ++ (c.params.flatMap nuB ++ (be c.result 7 8 ++ (be c.slots 7 8 ++ be (c.instrs.length : Int) 7 8)))))) ++ cellsOf ((c.instrs.take (k + 1)).flatMap inB) by rw [HM.out]; simp [cellsOf, inB]))
          go_wp2
          go_roundw
          case rel => exact ⟨k + 1, by omega, by go_num, HF.out, PA6.out⟩
          case measure => simp [intOf]; omega
        · obtain rfl : k = c.instrs.length := by omega
          rw [List.take_length] at ho
          have hfin := own_eq ho (m := m + cdN c) (ys := xs ++ cellsOf (cdB c)) (by unfold cdN; omega) (by simp [cellsOf, cdB])
          have hlow := hpk.low
          clear ho hpk
          go_wp2
          go_ret
          exact ⟨_, rfl, hfin, hlow⟩

end Go.Proofs.YtecjkmemihmkcaaDoor
