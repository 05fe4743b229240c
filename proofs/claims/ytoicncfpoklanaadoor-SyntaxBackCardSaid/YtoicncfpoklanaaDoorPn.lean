/- What the program's reader makes of expressions with signs of each rank between them. Conditions: the reader and its tokens lie in memory; the reader of an expression behind signs reads as said. -/
import Derived.Test.YtoicncfpoklanaaDoorPm
namespace Go.Proofs.YtoicncfpoklanaaDoor
open Go.RowKit
set_option maxRecDepth 100000
set_option linter.unusedSimpArgs false

theorem ent86 : EntC 86 := by intro args w; simp
theorem ent85 : EntC 85 := by intro args w; simp
theorem ent88 : EntC 88 := by intro args w; simp
theorem ent80 : EntC 80 := by intro args w; simp
theorem ent78 : EntC 78 := by intro args w; simp
/-- two variables, of the reader and of the depth, that stay -/
structure Stay (R d br bd : Nat) (w : World) : Prop where
  caps : Caps R d br bd w
  rl : br < w.heap.size
  rn : br ≠ R
  dl : bd < w.heap.size
  dn : bd ≠ R
theorem Stay.moves {R d br bd : Nat} {w w' : World} (h : Stay R d br bd w) (hm : Moves R w w') : Stay R d br bd w' :=
  ⟨h.caps.of (hm.block' h.rl h.rn) (hm.block' h.dl h.dn), Nat.lt_of_lt_of_le h.rl hm.size, h.rn, Nat.lt_of_lt_of_le h.dl hm.size, h.dn⟩
/-- 'grouped' with signs of its own -/
theorem grouped_own (R : Nat) (S : Src) (ts : List Tok) (fn : Nat) (caps : Array Value) (p : Par Ex) (ss : List (List Nat)) (w : World) (cs : Array Value) (hcs : cs = (ss.map strV).toArray) (n : Nat) (hn : n = ss.length) (hn2 : n < 100) (ha : At w R S ts) (hp : IsPar R S fn caps p w) (hs : Shrinks p) (hy : ∀ x ∈ ss, Byn x) :
    Calls Tryd.prog 79 #[.pointer (some ⟨R, 0, none⟩), .func (.func fn) #[] caps, .slice (some ⟨w.heap.size, 0, none⟩) n n] (w.alloc (.cells cs 9)) (Got R S (QE w.heap.size) w (groupedP S.z ss p ts)) := by
  subst hcs hn
  have b0 := below_alloc w (.cells (ss.map strV).toArray 9)
  have hR := ha.lt
  refine (grouped R S ts fn caps p _ ss ss.length _ (ha.below b0 (Nat.le_refl _)) (hp.later (Moves.of_below b0 (Nat.le_refl _))) hs (Nat.le_refl _) (by unfold maxLen; omega) (lies_strs w ss) (fun ad e => by injection e with e; subst e; show w.heap.size ≠ R; omega) hy).mono ?_
  rintro e w' ⟨hm, h⟩
  refine ⟨(Moves.of_below b0 (Nat.le_refl _)).trans hm, ?_⟩
  rcases h with ⟨v, r, x, h1, h2, h3, h4⟩ | h
  · exact .inl ⟨v, r, x, h1, h2, h3.more fun k hk => ⟨Nat.le_trans b0.size hk.1, hk.2⟩, h4⟩
  · exact .inr h

set_option maxHeartbeats 800000 in
theorem cmp11 (R : Nat) (S : Src) (d : Nat) (o : Par Ex) (ho : OneOk R S d o) (br bd : Nat) (w0 : World) (hst : Stay R d br bd w0) : IsPar R S 86 #[.pointer (some ⟨br, 0, none⟩), .pointer (some ⟨bd, 0, none⟩)] o w0 := by
  refine ⟨ent86, fun w ts hm0 ha => ?_⟩
  have hR := ha.lt
  have hst1 := hst.moves (hm0.trans (Moves.alloc R w (.cells #[.int .i64 0, .int .i64 0, .string ⟨#[]⟩, .slice none 0 0, .int .i64 0] 39)))
  obtain ⟨c1, c2⟩ := hst1.caps
  have H0 := Lib.hid (Res0.start ha [.int .i64 0, .int .i64 0, .string ⟨#[]⟩, .slice none 0 0, .int .i64 0] 39)
  have K := Lib.hid (ho _ _ H0.out.at')
  clear ha ho hst hm0 hst1
  go_enter Tryd.func86, Tryd.ntmps86
  go_wp2_with fail
  refine K.out.mono ?_
  clear K
  rintro e' wl ⟨hm, ⟨x, rl, xv, hr, rfl, hq, hal⟩ | ⟨cc, q, hr, rfl⟩⟩
  · obtain ⟨k, rfl, hx, _⟩ := exV_cells hq
    obtain ⟨A, cp, rfl⟩ := exsC_slice hx
    have HL := Lib.hid (H0.out.moves hm hal hR)
    have HX := Lib.hid hx
    have hlt := H0.out.lt
    have HR := Lib.hid hr
    clear hm hal hq hr hx
    go_wp2_with (refine wpList_storeN info39s rfl (.tmp 2) (.tmp 5) rfl rfl w.heap.size rfl [_, _, _, _, _] rfl rfl HL.out.th (by simp [Value.oneCell']) ?_; intro w7 g1 g2 g3 g4 g5)
    refine bodyPost_ret (ret_cell (cs := [_, _, _, _, _]) Tryd.results86 Tryd.underlying39 rfl info39s _ _ w.heap.size rfl g1) rfl ?_
    refine .ok (HL.out.mv.low g3 (Nat.le_refl _)) HR.out ⟨_, rfl, ?_⟩ (HL.out.at'.other hR g4)
    exact (HX.out.same fun q h => g4 q (by have := h.1; omega)).more fun q h => ⟨by have := h.1; omega, by rw [g5]; exact h.2⟩
  · have HQ := Lib.hid (H0.out.mv.trans hm)
    have HR := Lib.hid hr
    clear hm hr
    go_wp2
    exact ⟨rfl, .bad HQ.out HR.out⟩

set_option maxHeartbeats 800000 in
theorem cmp1 (R : Nat) (S : Src) (d : Nat) (o : Par Ex) (ho : OneOk R S d o) (hs : Takes o) (br bd : Nat) (w0 : World) (hst : Stay R d br bd w0) : IsPar R S 85 #[.pointer (some ⟨br, 0, none⟩), .pointer (some ⟨bd, 0, none⟩)] (groupedP S.z sProd o) w0 := by
  have hmf : ∀ (fn : Fn) (first cap : Array Value) (w : World), (Instr.makeFunc fn first cap).run Tryd.prog w = .ok (.func fn first cap) w := fun _ _ _ _ => rfl
  refine ⟨ent85, fun w ts hm0 ha => ?_⟩
  have hR := ha.lt
  have hst1 := hst.moves (hm0.trans (Moves.alloc R w (.cells #[.int .i64 0, .int .i64 0, .string ⟨#[]⟩, .slice none 0 0, .int .i64 0] 39)))
  obtain ⟨c1, c2⟩ := hst1.caps
  have H0 := Lib.hid (Res0.start ha [.int .i64 0, .int .i64 0, .string ⟨#[]⟩, .slice none 0 0, .int .i64 0] 39)
  have s0 : (w.alloc (.cells #[.int .i64 0, .int .i64 0, .string ⟨#[]⟩, .slice none 0 0, .int .i64 0] 39)).heap.size = w.heap.size + 1 := by simp
  have K := Lib.hid (grouped_own R S ts 86 _ _ sProd _ #[.string ⟨#[42]⟩, .string ⟨#[47]⟩, .string ⟨#[37]⟩] (by rw [show (⟨#[42]⟩ : ByteArray) = strN [42] by kernel_rfl, show (⟨#[47]⟩ : ByteArray) = strN [47] by kernel_rfl, show (⟨#[37]⟩ : ByteArray) = strN [37] by kernel_rfl]; rfl) 3 rfl (by omega) H0.out.at' (cmp11 R S d o ho br bd _ hst1) hs.shrinks (by simp [sProd]; unfold Byn; decide))
  rw [show (w.alloc (.cells ([.int .i64 0, .int .i64 0, .string ⟨#[]⟩, .slice none 0 0, .int .i64 0] : List Value).toArray 39)).heap.size = w.heap.size + 1 from s0] at K
  clear ha hst hm0 hst1
  go_enter Tryd.func85, Tryd.ntmps85
  go_wp2_with fail
  generalize hw0 : w.alloc (.cells #[.int .i64 0, .int .i64 0, .string ⟨#[]⟩, .slice none 0 0, .int .i64 0] 39) = wz at *
  refine K.out.mono ?_
  clear K
  rintro e' wl ⟨hm, ⟨x, rl, xv, hr, rfl, hq, hal⟩ | ⟨cc, q, hr, rfl⟩⟩
  · obtain ⟨k, rfl, hx, _⟩ := exV_cells hq
    obtain ⟨A, cp, rfl⟩ := exsC_slice hx
    have HL := Lib.hid (H0.out.moves hm hal hR)
    have HX := Lib.hid hx
    have hlt := H0.out.lt
    have HR := Lib.hid hr
    clear hm hal hq hr hx
    go_wp2_with (refine wpList_storeN info39s rfl (.tmp 2) (.tmp 6) rfl rfl w.heap.size rfl [_, _, _, _, _] rfl rfl HL.out.th (by simp [Value.oneCell']) ?_; intro w7 g1 g2 g3 g4 g5)
    refine bodyPost_ret (ret_cell (cs := [_, _, _, _, _]) Tryd.results85 Tryd.underlying39 rfl info39s _ _ w.heap.size rfl g1) rfl ?_
    refine .ok (HL.out.mv.low g3 (Nat.le_refl _)) HR.out ⟨_, rfl, ?_⟩ (HL.out.at'.other hR g4)
    exact (HX.out.same fun q h => g4 q (by have := h.1; omega)).more fun q h => ⟨by have := h.1; omega, by rw [g5]; exact h.2⟩
  · have HQ := Lib.hid (H0.out.mv.trans hm)
    have HR := Lib.hid hr
    clear hm hr
    go_wp2
    exact ⟨rfl, .bad HQ.out HR.out⟩

set_option maxHeartbeats 800000 in
theorem cmp2 (R : Nat) (S : Src) (d : Nat) (o : Par Ex) (ho : OneOk R S d o) (hs : Takes o) (br bd bp : Nat) (w0 : World) (hst : Stay R d br bd w0) (hbl : bp < w0.heap.size) (hbn : bp ≠ R) (hbp : w0.cell? ⟨bp, 0, none⟩ = some (.func (.func 85) #[] #[.pointer (some ⟨br, 0, none⟩), .pointer (some ⟨bd, 0, none⟩)])) :
    IsPar R S 88 #[.pointer (some ⟨br, 0, none⟩), .pointer (some ⟨bp, 0, none⟩)] (sumP S.z o) w0 := by
  refine ⟨ent88, fun w ts hm0 ha => ?_⟩
  have hR := ha.lt
  have hm1 := hm0.trans (Moves.alloc R w (.cells #[.int .i64 0, .int .i64 0, .string ⟨#[]⟩, .slice none 0 0, .int .i64 0] 39))
  have hst1 := hst.moves hm1
  obtain ⟨c1, _⟩ := hst1.caps
  have c3 := (hm1.cell (a := ⟨bp, 0, none⟩) hbl hbn).trans hbp
  have H0 := Lib.hid (Res0.start ha [.int .i64 0, .int .i64 0, .string ⟨#[]⟩, .slice none 0 0, .int .i64 0] 39)
  have s0 : (w.alloc (.cells #[.int .i64 0, .int .i64 0, .string ⟨#[]⟩, .slice none 0 0, .int .i64 0] 39)).heap.size = w.heap.size + 1 := by simp
  have K := Lib.hid (grouped_own R S ts 85 _ _ sSum _ #[.string ⟨#[43]⟩, .string ⟨#[45]⟩] (by rw [show (⟨#[43]⟩ : ByteArray) = strN [43] by kernel_rfl, show (⟨#[45]⟩ : ByteArray) = strN [45] by kernel_rfl]; rfl) 2 rfl (by omega) H0.out.at' (cmp1 R S d o ho hs br bd _ hst1) (takes_grouped S.z sProd o hs).shrinks (by simp [sSum]; unfold Byn; decide))
  rw [show (w.alloc (.cells ([.int .i64 0, .int .i64 0, .string ⟨#[]⟩, .slice none 0 0, .int .i64 0] : List Value).toArray 39)).heap.size = w.heap.size + 1 from s0] at K
  clear ha hst hm0 hst1 hbp hm1
  go_enter Tryd.func88, Tryd.ntmps88
  go_wp2_with fail
  generalize hw0 : w.alloc (.cells #[.int .i64 0, .int .i64 0, .string ⟨#[]⟩, .slice none 0 0, .int .i64 0] 39) = wz at *
  refine K.out.mono ?_
  clear K
  rintro e' wl ⟨hm, ⟨x, rl, xv, hr, rfl, hq, hal⟩ | ⟨cc, q, hr, rfl⟩⟩
  · obtain ⟨k, rfl, hx, _⟩ := exV_cells hq
    obtain ⟨A, cp, rfl⟩ := exsC_slice hx
    have HL := Lib.hid (H0.out.moves hm hal hR)
    have HX := Lib.hid hx
    have hlt := H0.out.lt
    have HR := Lib.hid hr
    clear hm hal hq hr hx
    go_wp2_with (refine wpList_storeN info39s rfl (.tmp 2) (.tmp 6) rfl rfl w.heap.size rfl [_, _, _, _, _] rfl rfl HL.out.th (by simp [Value.oneCell']) ?_; intro w7 g1 g2 g3 g4 g5)
    refine bodyPost_ret (ret_cell (cs := [_, _, _, _, _]) Tryd.results88 Tryd.underlying39 rfl info39s _ _ w.heap.size rfl g1) rfl ?_
    refine .ok (HL.out.mv.low g3 (Nat.le_refl _)) HR.out ⟨_, rfl, ?_⟩ (HL.out.at'.other hR g4)
    exact (HX.out.same fun q h => g4 q (by have := h.1; omega)).more fun q h => ⟨by have := h.1; omega, by rw [g5]; exact h.2⟩
  · have HQ := Lib.hid (H0.out.mv.trans hm)
    have HR := Lib.hid hr
    clear hm hr
    go_wp2
    exact ⟨rfl, .bad HQ.out HR.out⟩

theorem run_store_new (w : World) (n : Nat) (hn : n = w.heap.size) (u v : Value) (T : TypeId) (hv : v.oneCell' = true) : (store ⟨n, 0, none⟩ v).run Tryd.prog (w.alloc (.cells #[u] T)) = .ok () (w.alloc (.cells #[v] T)) := by
  subst hn
  rw [run_store _ _ _ _ _ hv]
  simp [go_sem]
theorem compareP_eq (z : Nat) (o : Par Ex) (ts : List Tok) : compareP z o ts = (sumP z o ts).bind fun x r => if seesT z sCmp r then joinedP z (sumP z o) x r else .ok x r := rfl
set_option maxHeartbeats 1600000 in
theorem comparison (R : Nat) (S : Src) (d : Nat) (o : Par Ex) (ho : OneOk R S d o) (hs : Takes o) (ts : List Tok) (w : World) (ha : At w R S ts) :
    Calls Tryd.prog 81 #[.pointer (some ⟨R, 0, none⟩), .int .i64 d] w (Got R S (QE w.heap.size) w (compareP S.z o ts)) := by
  have hmf : ∀ (fn : Fn) (first cap : Array Value) (w : World), (Instr.makeFunc fn first cap).run Tryd.prog w = .ok (.func fn first cap) w := fun _ _ _ _ => rfl
  have he := ent88
  unfold EntC at he
  have hR := ha.lt
  obtain ⟨a0, b0, n0, n1, n2, s0⟩ := open_three ha (.cells #[.pointer (some ⟨R, 0, none⟩)] 57) (.cells #[.int .i64 d] 3) (.cells #[.int .i64 0, .int .i64 0, .string ⟨#[]⟩, .slice none 0 0, .int .i64 0] 39)
  have HW := Lib.hid (compareP_eq S.z o ts)
  generalize hw0 : ((w.alloc (.cells #[.pointer (some ⟨R, 0, none⟩)] 57)).alloc (.cells #[.int .i64 d] 3)).alloc (.cells #[.int .i64 0, .int .i64 0, .string ⟨#[]⟩, .slice none 0 0, .int .i64 0] 39) = w0 at *
  have b1 := below_alloc w0 (.cells #[.func (.func 85) #[] #[.pointer (some ⟨w.heap.size, 0, none⟩), .pointer (some ⟨w.heap.size + 1, 0, none⟩)]] 122)
  have N3 := heap_alloc_new w0 (.cells #[.func (.func 85) #[] #[.pointer (some ⟨w.heap.size, 0, none⟩), .pointer (some ⟨w.heap.size + 1, 0, none⟩)]] 122)
  have s1 : (w0.alloc (.cells #[.func (.func 85) #[] #[.pointer (some ⟨w.heap.size, 0, none⟩), .pointer (some ⟨w.heap.size + 1, 0, none⟩)]] 122)).heap.size = w0.heap.size + 1 := by simp
  have hst : Stay R d w.heap.size (w.heap.size + 1) (w0.alloc (.cells #[.func (.func 85) #[] #[.pointer (some ⟨w.heap.size, 0, none⟩), .pointer (some ⟨w.heap.size + 1, 0, none⟩)]] 122)) :=
    ⟨⟨by rw [cell_of_row _ _ _ _ _ _ ((b1.block _ (by omega)).trans n0)]; rfl, by rw [cell_of_row _ _ _ _ _ _ ((b1.block _ (by omega)).trans n1)]; rfl⟩, by omega, by omega, by omega, by omega⟩
  have HP := Lib.hid (cmp2 R S d o ho hs w.heap.size (w.heap.size + 1) w0.heap.size _ hst (by omega) (by omega) (by rw [cell_of_row _ _ _ _ _ _ N3]; rfl))
  have A1 := a0.below b1 (Nat.le_refl _)
  have K := Lib.hid (HP.out.2 _ ts (Moves.refl _ _) A1)
  have HST := Lib.hid hst
  have M1 := Lib.hid ((Moves.of_below (R := R) b0 (Nat.le_refl _)).below b1 (Nat.le_refl _))
  have Z1 := Lib.hid (there_cells (cs := [_, _, _, _, _]) (n := 5) ((b1.block _ (by omega)).trans n2) rfl)
  subst hw0
  rw [s0] at K HP
  clear ha a0 b0 n0 n1 n2 b1 N3 hst A1 ho
  have hsn := run_store_new (((w.alloc (.cells #[.pointer (some ⟨R, 0, none⟩)] 57)).alloc (.cells #[.int .i64 d] 3)).alloc (.cells #[.int .i64 0, .int .i64 0, .string ⟨#[]⟩, .slice none 0 0, .int .i64 0] 39)) (w.heap.size + 3) (by simp) .nilFunc (.func (.func 85) #[] #[.pointer (some ⟨w.heap.size, 0, none⟩), .pointer (some ⟨w.heap.size + 1, 0, none⟩)]) 122 rfl
  generalize compareP S.z o ts = m at *
  go_enter Tryd.func81, Tryd.ntmps81
  go_wp2_with fail
  rw [s0] at s1
  clear hsn s0
  generalize (((w.alloc (.cells #[.pointer (some ⟨R, 0, none⟩)] 57)).alloc (.cells #[.int .i64 d] 3)).alloc (.cells #[.int .i64 0, .int .i64 0, .string ⟨#[]⟩, .slice none 0 0, .int .i64 0] 39)).alloc (.cells #[.func (.func 85) #[] #[.pointer (some ⟨w.heap.size, 0, none⟩), .pointer (some ⟨w.heap.size + 1, 0, none⟩)]] 122) = W1 at *
  refine K.out.mono ?_
  clear K
  rintro e' w2 ⟨hm, ⟨x, r, xv, hr, rfl, hq, ha2⟩ | ⟨cc, q, hr, rfl⟩⟩
  · obtain ⟨k, rfl, hx, _⟩ := exV_cells hq
    obtain ⟨A, cp, rfl⟩ := exsC_slice hx
    have s2 := hm.size
    have bt := below_alloc w2 (exO x (.slice A x.kids.length cp))
    have mt := hm.below bt (Nat.le_refl _)
    have HW2 : Hid (m = if seesT S.z sCmp r then joinedP S.z (sumP S.z o) x r else .ok x r) := by show _ = _; rw [HW.out, hr]; rfl
    have A3 := Lib.hid (ha2.below bt (Nat.le_refl _))
    have M3 := Lib.hid (M1.out.trans mt)
    have MT := Lib.hid mt
    have ST3 := HST.out.moves mt
    have Z3 := Lib.hid (there_of_block Z1.out (mt.block' (k := w.heap.size + 1 + 1) (by omega) (by omega)))
    have X3 := Lib.hid (hx.same fun q h => bt.block q h.2)
    have L3 := Lib.hid (ExAt.of_block (heap_alloc_new w2 (exO x (.slice A x.kids.length cp))))
    have s3 : (w2.alloc (exO x (.slice A x.kids.length cp))).heap.size = w2.heap.size + 1 := by simp
    have K := Lib.hid (sees_own R S r sCmp _ #[.string ⟨#[61, 61]⟩, .string ⟨#[33, 61]⟩, .string ⟨#[60]⟩, .string ⟨#[60, 61]⟩, .string ⟨#[62]⟩, .string ⟨#[62, 61]⟩] (by rw [show (⟨#[61, 61]⟩ : ByteArray) = strN [61, 61] by kernel_rfl, show (⟨#[33, 61]⟩ : ByteArray) = strN [33, 61] by kernel_rfl, show (⟨#[60]⟩ : ByteArray) = strN [60] by kernel_rfl, show (⟨#[60, 61]⟩ : ByteArray) = strN [60, 61] by kernel_rfl, show (⟨#[62]⟩ : ByteArray) = strN [62] by kernel_rfl, show (⟨#[62, 61]⟩ : ByteArray) = strN [62, 61] by kernel_rfl]; rfl) 6 rfl (by omega) A3.out (by simp [sCmp]; unfold Byn; decide))
    rw [s3] at K
    obtain ⟨c1, _⟩ := ST3.caps
    have HST3 := Lib.hid ST3
    clear hm hr hq hx ha2 bt mt ST3
    cases hsee : seesT S.z sCmp r with
    | false =>
      rw [hsee] at K HW2
      clear hsee
      go_wp2_with fail
      generalize w2.alloc (exO x (.slice A x.kids.length cp)) = w3 at *
      refine K.out.mono ?_
      clear K
      rintro e' w4 ⟨rfl, hb4, ha4⟩
      have L4 := L3.out.of (hb4.block _ (by omega))
      obtain ⟨l0, l1, l2, l3, l4⟩ := L4.cells
      have z4 := Lib.hid (there_of_block Z3.out (hb4.block _ (by omega)))
      have H4 : Hid (Moves R w w4 ∧ At w4 R S r ∧ ExsC w4 (Rng W1.heap.size w2.heap.size) x.kids (.slice A x.kids.length cp)) := ⟨M3.out.low hb4 (by omega), ha4, X3.out.same fun q h => hb4.block q (by have := h.2; omega)⟩
      have s4 := hb4.size
      clear hb4 ha4 L4 c1
      go_wp2_with (refine wpList_storeN info39s rfl (.tmp 4) (.tmp 16) rfl rfl (w.heap.size + 1 + 1) rfl [_, _, _, _, _] rfl rfl z4.out (by simp [Value.oneCell']) ?_; intro w7 g1 g2 g3 g4 g5)
      refine bodyPost_ret (ret_cell (cs := [_, _, _, _, _]) Tryd.results81 Tryd.underlying39 rfl info39s _ _ (w.heap.size + 1 + 1) rfl g1) rfl ?_
      refine .ok (H4.out.1.low g3 (by omega)) (by rw [HW2.out]; rfl) ⟨_, rfl, ?_⟩ (H4.out.2.1.other (by omega) g4)
      exact (H4.out.2.2.same fun q h => g4 q (by have := h.1; omega)).more fun q h => ⟨by have := h.1; omega, by rw [g5]; have := h.2; omega⟩
    | true =>
      rw [hsee] at K HW2
      have HW3 : Hid (m = joinedP S.z (sumP S.z o) x r) := by show _ = _; rw [HW2.out]; rfl
      clear hsee HW2
      go_wp2_with fail
      generalize w2.alloc (exO x (.slice A x.kids.length cp)) = w3 at *
      refine K.out.mono ?_
      clear K
      rintro e' w4 ⟨rfl, hb4, ha4⟩
      have L4 := L3.out.of (hb4.block _ (by omega))
      obtain ⟨l0, l1, l2, l3, l4⟩ := L4.cells
      have z4 := Lib.hid (there_of_block Z3.out (hb4.block _ (by omega)))
      have s4 := hb4.size
      have M4 := Lib.hid (M3.out.low hb4 (by omega))
      have mt4 := MT.out.low hb4 (by omega)
      have c4 := (HST.out.moves mt4).caps.1
      have K := Lib.hid (joined R S r 88 _ (sumP S.z o) (Rng W1.heap.size w2.heap.size) x _ w4 ha4 (HP.out.later mt4) (fun q h => ⟨by have := h.2; omega, by have := h.1; omega⟩) ⟨_, rfl, X3.out.same fun q h => hb4.block q (by have := h.2; omega)⟩)
      simp only [exC] at K
      clear hb4 ha4 L4 c1 mt4
      go_wp2_with fail
      refine K.out.mono ?_
      clear K l0 l1 l2 l3 l4 c4
      rintro e' w5 ⟨hm, ⟨y, r5, yv, hr, rfl, hq, ha5⟩ | ⟨cc, q, hr, rfl⟩⟩
      · obtain ⟨k, rfl, hy, _⟩ := exV_cells hq
        obtain ⟨A5, c5, rfl⟩ := exsC_slice hy
        have s5 := hm.size
        have z5 := Lib.hid (there_of_block z4.out (hm.block' (k := w.heap.size + 1 + 1) (by omega) (by omega)))
        have H5 : Hid (Moves R w w5 ∧ At w5 R S r5 ∧ ExsC w5 _ y.kids (.slice A5 y.kids.length c5) ∧ m = .ok y r5) := ⟨M4.out.trans hm, ha5, hy, by rw [HW3.out, hr]⟩
        clear hm hr hq ha5 hy
        go_wp2_with (refine wpList_storeN info39s rfl (.tmp 4) (.tmp 20) rfl rfl (w.heap.size + 1 + 1) rfl [_, _, _, _, _] rfl rfl z5.out (by simp [Value.oneCell']) ?_; intro w7 g1 g2 g3 g4 g5)
        refine bodyPost_ret (ret_cell (cs := [_, _, _, _, _]) Tryd.results81 Tryd.underlying39 rfl info39s _ _ (w.heap.size + 1 + 1) rfl g1) rfl ?_
        refine .ok (H5.out.1.low g3 (by omega)) H5.out.2.2.2 ⟨_, rfl, ?_⟩ (H5.out.2.1.other (by omega) g4)
        refine (H5.out.2.2.1.same fun q h => g4 q ?_).more fun q h => ⟨?_, ?_⟩
        · rcases h with h | h
          · have := h.1; omega
          · have := h.1; omega
        · rcases h with h | h
          · have := h.1; omega
          · have := h.1; omega
        · rw [g5]
          rcases h with h | h
          · have := h.2; omega
          · exact h.2
      · have HQ := Lib.hid (M4.out.trans hm)
        have HR := Lib.hid hr
        clear hm hr
        go_wp2
        exact ⟨rfl, .bad HQ.out (by rw [HW3.out, HR.out])⟩
  · have HQ := Lib.hid (M1.out.trans hm)
    have HR := Lib.hid hr
    clear hm hr
    go_wp2
    exact ⟨rfl, .bad HQ.out (by rw [HW.out, HR.out]; rfl)⟩

set_option maxHeartbeats 800000 in
theorem expr11 (R : Nat) (S : Src) (d : Nat) (o : Par Ex) (hcmp : ∀ w ts, At w R S ts → Calls Tryd.prog 81 #[.pointer (some ⟨R, 0, none⟩), .int .i64 d] w (Got R S (QE w.heap.size) w (o ts))) (br bd : Nat) (w0 : World) (hst : Stay R d br bd w0) : IsPar R S 80 #[.pointer (some ⟨br, 0, none⟩), .pointer (some ⟨bd, 0, none⟩)] o w0 := by
  refine ⟨ent80, fun w ts hm0 ha => ?_⟩
  have hR := ha.lt
  have hst1 := hst.moves (hm0.trans (Moves.alloc R w (.cells #[.int .i64 0, .int .i64 0, .string ⟨#[]⟩, .slice none 0 0, .int .i64 0] 39)))
  obtain ⟨c1, c2⟩ := hst1.caps
  have H0 := Lib.hid (Res0.start ha [.int .i64 0, .int .i64 0, .string ⟨#[]⟩, .slice none 0 0, .int .i64 0] 39)
  have K := Lib.hid (hcmp _ _ H0.out.at')
  clear ha hcmp hst hm0 hst1
  go_enter Tryd.func80, Tryd.ntmps80
  go_wp2_with fail
  refine K.out.mono ?_
  clear K
  rintro e' wl ⟨hm, ⟨x, rl, xv, hr, rfl, hq, hal⟩ | ⟨cc, q, hr, rfl⟩⟩
  · obtain ⟨k, rfl, hx, _⟩ := exV_cells hq
    obtain ⟨A, cp, rfl⟩ := exsC_slice hx
    have HL := Lib.hid (H0.out.moves hm hal hR)
    have HX := Lib.hid hx
    have hlt := H0.out.lt
    have HR := Lib.hid hr
    clear hm hal hq hr hx
    go_wp2_with (refine wpList_storeN info39s rfl (.tmp 2) (.tmp 5) rfl rfl w.heap.size rfl [_, _, _, _, _] rfl rfl HL.out.th (by simp [Value.oneCell']) ?_; intro w7 g1 g2 g3 g4 g5)
    refine bodyPost_ret (ret_cell (cs := [_, _, _, _, _]) Tryd.results80 Tryd.underlying39 rfl info39s _ _ w.heap.size rfl g1) rfl ?_
    refine .ok (HL.out.mv.low g3 (Nat.le_refl _)) HR.out ⟨_, rfl, ?_⟩ (HL.out.at'.other hR g4)
    exact (HX.out.same fun q h => g4 q (by have := h.1; omega)).more fun q h => ⟨by have := h.1; omega, by rw [g5]; exact h.2⟩
  · have HQ := Lib.hid (H0.out.mv.trans hm)
    have HR := Lib.hid hr
    clear hm hr
    go_wp2
    exact ⟨rfl, .bad HQ.out HR.out⟩

set_option maxHeartbeats 800000 in
theorem expr1 (R : Nat) (S : Src) (d : Nat) (o : Par Ex) (ho : OneOk R S d o) (hs : Takes o) (br bd : Nat) (w0 : World) (hst : Stay R d br bd w0) : IsPar R S 78 #[.pointer (some ⟨br, 0, none⟩), .pointer (some ⟨bd, 0, none⟩)] (groupedP S.z sAnd (compareP S.z o)) w0 := by
  have hmf : ∀ (fn : Fn) (first cap : Array Value) (w : World), (Instr.makeFunc fn first cap).run Tryd.prog w = .ok (.func fn first cap) w := fun _ _ _ _ => rfl
  refine ⟨ent78, fun w ts hm0 ha => ?_⟩
  have hR := ha.lt
  have hst1 := hst.moves (hm0.trans (Moves.alloc R w (.cells #[.int .i64 0, .int .i64 0, .string ⟨#[]⟩, .slice none 0 0, .int .i64 0] 39)))
  obtain ⟨c1, c2⟩ := hst1.caps
  have H0 := Lib.hid (Res0.start ha [.int .i64 0, .int .i64 0, .string ⟨#[]⟩, .slice none 0 0, .int .i64 0] 39)
  have s0 : (w.alloc (.cells #[.int .i64 0, .int .i64 0, .string ⟨#[]⟩, .slice none 0 0, .int .i64 0] 39)).heap.size = w.heap.size + 1 := by simp
  have K := Lib.hid (grouped_own R S ts 80 _ _ sAnd _ #[.string ⟨#[38, 38]⟩] (by rw [show (⟨#[38, 38]⟩ : ByteArray) = strN [38, 38] by kernel_rfl]; rfl) 1 rfl (by omega) H0.out.at' (expr11 R S d (compareP S.z o) (fun w ts h => comparison R S d o ho hs ts w h) br bd _ hst1) (takes_compare S.z o hs).shrinks (by simp [sAnd]; unfold Byn; decide))
  rw [show (w.alloc (.cells ([.int .i64 0, .int .i64 0, .string ⟨#[]⟩, .slice none 0 0, .int .i64 0] : List Value).toArray 39)).heap.size = w.heap.size + 1 from s0] at K
  clear ha hst hm0 hst1
  go_enter Tryd.func78, Tryd.ntmps78
  go_wp2_with fail
  generalize hw0 : w.alloc (.cells #[.int .i64 0, .int .i64 0, .string ⟨#[]⟩, .slice none 0 0, .int .i64 0] 39) = wz at *
  refine K.out.mono ?_
  clear K
  rintro e' wl ⟨hm, ⟨x, rl, xv, hr, rfl, hq, hal⟩ | ⟨cc, q, hr, rfl⟩⟩
  · obtain ⟨k, rfl, hx, _⟩ := exV_cells hq
    obtain ⟨A, cp, rfl⟩ := exsC_slice hx
    have HL := Lib.hid (H0.out.moves hm hal hR)
    have HX := Lib.hid hx
    have hlt := H0.out.lt
    have HR := Lib.hid hr
    clear hm hal hq hr hx
    go_wp2_with (refine wpList_storeN info39s rfl (.tmp 2) (.tmp 6) rfl rfl w.heap.size rfl [_, _, _, _, _] rfl rfl HL.out.th (by simp [Value.oneCell']) ?_; intro w7 g1 g2 g3 g4 g5)
    refine bodyPost_ret (ret_cell (cs := [_, _, _, _, _]) Tryd.results78 Tryd.underlying39 rfl info39s _ _ w.heap.size rfl g1) rfl ?_
    refine .ok (HL.out.mv.low g3 (Nat.le_refl _)) HR.out ⟨_, rfl, ?_⟩ (HL.out.at'.other hR g4)
    exact (HX.out.same fun q h => g4 q (by have := h.1; omega)).more fun q h => ⟨by have := h.1; omega, by rw [g5]; exact h.2⟩
  · have HQ := Lib.hid (H0.out.mv.trans hm)
    have HR := Lib.hid hr
    clear hm hr
    go_wp2
    exact ⟨rfl, .bad HQ.out HR.out⟩

set_option maxHeartbeats 1600000 in
theorem expr (R : Nat) (S : Src) (d : Nat) (hd : d ≤ 32) (o : Par Ex) (ho : OneOk R S d o) (hs : Takes o) : ExprOk R S d (levelsP S.z o) := by
  intro w ts ha
  have hmf : ∀ (fn : Fn) (first cap : Array Value) (w : World), (Instr.makeFunc fn first cap).run Tryd.prog w = .ok (.func fn first cap) w := fun _ _ _ _ => rfl
  have hR := ha.lt
  obtain ⟨a0, b0, n0, n1, n2, s0⟩ := open_three ha (.cells #[.pointer (some ⟨R, 0, none⟩)] 57) (.cells #[.int .i64 d] 3) (.cells #[.int .i64 0, .int .i64 0, .string ⟨#[]⟩, .slice none 0 0, .int .i64 0] 39)
  have hst : Stay R d w.heap.size (w.heap.size + 1) (((w.alloc (.cells #[.pointer (some ⟨R, 0, none⟩)] 57)).alloc (.cells #[.int .i64 d] 3)).alloc (.cells #[.int .i64 0, .int .i64 0, .string ⟨#[]⟩, .slice none 0 0, .int .i64 0] 39)) :=
    ⟨⟨by rw [cell_of_row _ _ _ _ _ _ n0]; rfl, by rw [cell_of_row _ _ _ _ _ _ n1]; rfl⟩, by omega, by omega, by omega, by omega⟩
  have K0 := Lib.hid (bound_ok R d (((w.alloc (.cells #[.pointer (some ⟨R, 0, none⟩)] 57)).alloc (.cells #[.int .i64 d] 3)).alloc (.cells #[.int .i64 0, .int .i64 0, .string ⟨#[]⟩, .slice none 0 0, .int .i64 0] 39)) hd)
  have K := Lib.hid (grouped_own R S ts 78 _ _ sOr _ #[.string ⟨#[124, 124]⟩] (by rw [show (⟨#[124, 124]⟩ : ByteArray) = strN [124, 124] by kernel_rfl]; rfl) 1 rfl (by omega) a0 (expr1 R S d o ho hs w.heap.size (w.heap.size + 1) _ hst) (takes_grouped S.z sAnd _ (takes_compare S.z o hs)).shrinks (by simp [sOr]; unfold Byn; decide))
  rw [s0] at K
  have M0 := Lib.hid (Moves.of_below (R := R) b0 (Nat.le_refl _))
  have Z0 := Lib.hid (there_cells (cs := [_, _, _, _, _]) (n := 5) n2 rfl)
  have HW : Hid (levelsP S.z o ts = groupedP S.z sOr (groupedP S.z sAnd (compareP S.z o)) ts) := rfl
  obtain ⟨c1, c2⟩ := hst.caps
  generalize levelsP S.z o ts = m at *
  clear ha a0 b0 n0 n1 n2 hst ho hd
  go_enter Tryd.func71, Tryd.ntmps71
  go_wp2_with (go_at_call 54; refine K0.out.mono ?_; rintro e' w4 ⟨rfl, rfl⟩)
  generalize ((w.alloc (.cells #[.pointer (some ⟨R, 0, none⟩)] 57)).alloc (.cells #[.int .i64 d] 3)).alloc (.cells #[.int .i64 0, .int .i64 0, .string ⟨#[]⟩, .slice none 0 0, .int .i64 0] 39) = W1 at *
  clear K0 c1 c2
  refine K.out.mono ?_
  clear K
  rintro e' w2 ⟨hm, ⟨x, r, xv, hr, rfl, hq, ha2⟩ | ⟨cc, q, hr, rfl⟩⟩
  · obtain ⟨k, rfl, hx, _⟩ := exV_cells hq
    obtain ⟨A, cp, rfl⟩ := exsC_slice hx
    have z2 := Lib.hid (there_of_block Z0.out (hm.block' (k := w.heap.size + 2) (by omega) (by omega)))
    have H2 : Hid (Moves R w w2 ∧ At w2 R S r ∧ ExsC w2 (Rng (w.heap.size + 3) w2.heap.size) x.kids (.slice A x.kids.length cp) ∧ m = .ok x r) := ⟨M0.out.trans hm, ha2, hx, by rw [HW.out, hr]⟩
    clear hm hr hq hx ha2
    go_wp2_with (refine wpList_storeN info39s rfl (.tmp 4) (.tmp 13) rfl rfl (w.heap.size + 1 + 1) rfl [_, _, _, _, _] rfl rfl z2.out (by simp [Value.oneCell']) ?_; intro w7 g1 g2 g3 g4 g5)
    refine bodyPost_ret (ret_cell (cs := [_, _, _, _, _]) Tryd.results71 Tryd.underlying39 rfl info39s _ _ (w.heap.size + 1 + 1) rfl g1) rfl ?_
    refine .ok (H2.out.1.low g3 (by omega)) H2.out.2.2.2 ⟨_, rfl, ?_⟩ (H2.out.2.1.other (by omega) g4)
    exact (H2.out.2.2.1.same fun q h => g4 q (by have := h.1; omega)).more fun q h => ⟨by have := h.1; omega, by rw [g5]; exact h.2⟩
  · have HQ := Lib.hid (M0.out.trans hm)
    have HR := Lib.hid hr
    clear hm hr
    go_wp2
    exact ⟨rfl, .bad HQ.out (by rw [HW.out, HR.out])⟩
set_option maxHeartbeats 800000 in
theorem expr_deep (R : Nat) (S : Src) (d : Nat) (hd : 32 < d) : ExprOk R S d (fun ts => failT S.z 42 ts) := by
  intro w ts ha
  obtain ⟨a0, b0, n0, n1, n2, s0⟩ := open_three ha (.cells #[.pointer (some ⟨R, 0, none⟩)] 57) (.cells #[.int .i64 d] 3) (.cells #[.int .i64 0, .int .i64 0, .string ⟨#[]⟩, .slice none 0 0, .int .i64 0] 39)
  have K0 := Lib.hid (bound_bad R S ts _ a0 d hd)
  have M0 := Lib.hid (Moves.of_below (R := R) b0 (Nat.le_refl _))
  clear ha a0 b0 n0 n1 n2 s0 hd
  go_enter Tryd.func71, Tryd.ntmps71
  go_wp2_with (go_at_call 54; refine K0.out.mono ?_; rintro e' w4 ⟨rfl, hb⟩)
  exact ⟨rfl, .bad (M0.out.below hb (Nat.le_refl _)) rfl⟩
theorem both_ok (R : Nat) (S : Src) (hsm : S.all.length ≤ 4096) : ∀ g, g ≤ 32 → ExprOk R S (33 - g) (exprP S.z g) ∧ (0 < g → OneOk R S (33 - g) (oneP S.z g))
  | 0, _ => ⟨expr_deep R S 33 (by omega), fun h => absurd h (by omega)⟩
  | g + 1, hg => by
    have ih := both_ok R S hsm g (by omega)
    have e1 : 33 - (g + 1) + 1 = 33 - g := by omega
    have ho : OneOk R S (33 - (g + 1)) (oneP S.z (g + 1)) := fun w ts ha => one R S (33 - (g + 1)) (by omega) (exprP S.z g) (oneP S.z g) (by rw [e1]; exact ih.1) (takes_expr S.z g) (fun h => by rw [e1]; exact ih.2 (by omega)) (fun h ts => by
      have : g = 0 := by omega
      subst this
      rfl) hsm ts w ha
    exact ⟨expr R S (33 - (g + 1)) (by omega) (oneP S.z (g + 1)) ho (takes_both S.z (g + 1)).2, fun _ => ho⟩
/-- the reader of expressions of a depth reads as the document's -/
theorem expr_ok (R : Nat) (S : Src) (hsm : S.all.length ≤ 4096) (d : Nat) (hd : 1 ≤ d) (hd2 : d ≤ 33) : ExprOk R S d (exprP S.z (33 - d)) := by
  have := (both_ok R S hsm (33 - d) (by omega)).1
  rw [show 33 - (33 - d) = d by omega] at this
  exact this
end Go.Proofs.YtoicncfpoklanaaDoor
