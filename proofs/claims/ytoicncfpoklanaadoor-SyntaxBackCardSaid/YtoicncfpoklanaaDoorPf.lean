/- An append of one element onto a row of the call's own: where it lies; and two expressions in parentheses. Conditions: those in each theorem. -/
import Derived.Test.YtoicncfpoklanaaDoorPe
namespace Go.Proofs.YtoicncfpoklanaaDoor
open Go.RowKit
set_option maxRecDepth 100000
set_option linter.unusedSimpArgs false

/-- an append of one element: the row stays where it was, or is new -/
theorem run_append_one {P : Program} (w : World) (base : Nat) (t ty e : TypeId) (i : TypeInfo) (z : Value) (size bytes : Nat) (ht : P.underlying t = some (.slice e)) (hi : P.info? e = some i) (hz : i.zero = some z)
    (hsize : i.size = size) (hby : i.bytes = bytes) (hzs : z.cells.size = size) (hsz : 0 < size) (v : Value) (n : Nat) (xs : List Value) (hown : w.ownsRow base e size v n xs)
    (a : Addr) (c : Nat) (news : List Value) (hl : news.length = size) (hnews : ∀ j u, news[j]? = some u → w.cell? (a.add j) = some u) (h1 : ∀ u ∈ news, u.oneCell' = true)
    (hbytes : (n + 1) * bytes ≤ 140737488355328) (h63 : n + 1 ≤ maxLen) (hbase : base ≤ w.heap.size) :
    ∃ v' w', (Builtin.append_ #[t, t] ty #[v, .slice (some a) 1 c]).run P w = .ok v' w' ∧ w'.ownsRow base e size v' (n + 1) (xs ++ news) ∧ w.grownBy w' v.ownBlock ∧ (v'.ownBlock = v.ownBlock ∨ ∃ g, v'.ownBlock = some g ∧ w.heap.size ≤ g) := by
  have hl' : news.length = 1 * size := by omega
  obtain ⟨v', w', hr, h2, h3, _⟩ := run_append_own (P := P) w base t ty e i z size bytes ht hi hz hsize hby hzs hsz v n xs hown a 1 c news hl' hnews h1 h63 hbytes hbase
  refine ⟨v', w', hr, h2, h3, ?_⟩
  subst hsize hby
  have h63' : n + 1 ≤ 9223372036854775807 := by simp only [maxLen] at h63; omega
  rcases hown.2 with ⟨rfl, rfl⟩ | ⟨g, cap, cur, rfl, hbg, hg, hnc, hcm, hcs, htake⟩
  · have hr2 := run_append_nil (P := P) w t ty e i z ht hi hz a 1 c news hl' hnews (by omega) (by omega) (by omega)
    rw [hr] at hr2
    injection hr2 with e1 e2
    subst e1
    exact .inr ⟨_, rfl, Nat.le_refl _⟩
  · by_cases hroom : n + 1 ≤ cap
    · have hfit : n * i.size + news.length ≤ cur.size := by rw [hl', hcs, ← Nat.add_mul]; exact Nat.mul_le_mul_right _ hroom
      have hr2 := run_append_room (P := P) w t ty e i ht hi g n cap cur hg a 1 c news hl' hnews h1 hroom hfit
      rw [hr] at hr2
      injection hr2 with e1 e2
      subst e1
      exact .inl rfl
    · have holds : ∀ j u, xs[j]? = some u → w.cell? ((⟨g, 0, none⟩ : Addr).add j) = some u := hown.cells (g := g) rfl
      have hr2 := run_append_grow (P := P) w t ty e i z ht hi hz ⟨g, 0, none⟩ n cap xs hown.1 holds a 1 c news hl' hnews (by omega) (by omega) (growslice_fits (by omega) hbytes)
      rw [hr] at hr2
      injection hr2 with e1 e2
      subst e1
      exact .inr ⟨_, rfl, Nat.le_refl _⟩
/-- as an operation -/
theorem wp_append_one {P : Program} (w : World) {o : Oper} {a : Act} {K : Act → World → Prop} {Q : Exit → Act → World → Prop} (s x : Operand) (t : TypeId) (ho : o.op = .call { callee := .builtin .append, args := #[s, x], argTypes := #[t, t] })
    (base : Nat) (e : TypeId) (i : TypeInfo) (z : Value) (size bytes : Nat) (ht : P.underlying t = some (.slice e)) (hi : P.info? e = some i) (hz : i.zero = some z)
    (hsize : i.size = size) (hby : i.bytes = bytes) (hzs : z.cells.size = size) (hsz : 0 < size) (v : Value) (n : Nat) (xs : List Value) (hs : a.eval s = v) (hown : w.ownsRow base e size v n xs)
    (ad : Addr) (c : Nat) (news : List Value) (hx : a.eval x = .slice (some ad) 1 c) (hl : news.length = size) (hnews : ∀ j u, news[j]? = some u → w.cell? (ad.add j) = some u) (h1 : ∀ u ∈ news, u.oneCell' = true)
    (hbytes : (n + 1) * bytes ≤ 140737488355328) (h63 : n + 1 ≤ maxLen) (hbase : base ≤ w.heap.size)
    (h : ∀ v' w', w'.ownsRow base e size v' (n + 1) (xs ++ news) → w.grownBy w' v.ownBlock → (v'.ownBlock = v.ownBlock ∨ ∃ g, v'.ownBlock = some g ∧ w.heap.size ≤ g) → K (a.put o.dst v') w') : o.wp P a w K Q := by
  obtain ⟨v', w', hr, h2, h3, h4⟩ := run_append_one (P := P) w base t o.type e i z size bytes ht hi hz hsize hby hzs hsz v n xs hown ad c news hl hnews h1 hbytes h63 hbase
  unfold Oper.wp execOp
  simp only [ho, resolve, invoke, builtin, Sem.run_bind, Sem.run_pure, Result.andThen_ok, List.map_toArray, List.map_cons, List.map_nil, hs, hx, hr]
  exact h v' w' h2 h3 h4
theorem wpList_append_one {P : Program} (w : World) {ops : Array Oper} {rest : List Oper} {o : Oper} {a : Act} {Q : Exit → Act → World → Prop} (hgd : o.guard = none) (s x : Operand) (t : TypeId) (ho : o.op = .call { callee := .builtin .append, args := #[s, x], argTypes := #[t, t] })
    (base : Nat) (e : TypeId) (i : TypeInfo) (z : Value) (size bytes : Nat) (ht : P.underlying t = some (.slice e)) (hi : P.info? e = some i) (hz : i.zero = some z)
    (hsize : i.size = size) (hby : i.bytes = bytes) (hzs : z.cells.size = size) (hsz : 0 < size) (v : Value) (n : Nat) (xs : List Value) (hs : a.eval s = v) (hown : w.ownsRow base e size v n xs)
    (ad : Addr) (c : Nat) (news : List Value) (hx : a.eval x = .slice (some ad) 1 c) (hl : news.length = size) (hnews : ∀ j u, news[j]? = some u → w.cell? (ad.add j) = some u) (h1 : ∀ u ∈ news, u.oneCell' = true)
    (hbytes : (n + 1) * bytes ≤ 140737488355328) (h63 : n + 1 ≤ maxLen) (hbase : base ≤ w.heap.size)
    (h : ∀ v' w', w'.ownsRow base e size v' (n + 1) (xs ++ news) → w.grownBy w' v.ownBlock → (v'.ownBlock = v.ownBlock ∨ ∃ g, v'.ownBlock = some g ∧ w.heap.size ≤ g) → wpList P ops Q rest (a.put o.dst v') w') : wpList P ops Q (o :: rest) a w :=
  wpList_plain hgd fun _ hK => wp_append_one w s x t ho base e i z size bytes ht hi hz hsize hby hzs hsz v n xs hs hown ad c news hx hl hnews h1 hbytes h63 hbase fun v' w' h2 h3 h4 => hK _ _ (h v' w' h2 h3 h4)

theorem info39 : (Tryd.prog.info? 39).map (fun i => (i.zero, i.size, i.bytes)) = some (some (.agg #[.int .i64 0, .int .i64 0, .string ⟨#[]⟩, .slice none 0 0, .int .i64 0]), 5, 64) := by kernel_rfl
theorem one5 {a b c : Int} {s : ByteArray} {A : Option Addr} {n m : Nat} : ∀ u ∈ [Value.int .i64 a, .int .i64 b, .string s, .slice A n m, .int .i64 c], u.oneCell' = true := by
  intro u hu
  simp at hu
  rcases hu with rfl | rfl | rfl | rfl | rfl <;> rfl
/-- the row with one more: the world behind the append, and what was there -/
theorem OwnE.grown {lo : Nat} {w w' : World} {l : List Ex} {V V' : Value} {x : Ex} {k : Value} {ks : List Value} (hk : ks.length = l.length) (h3 : ∀ (i : Nat) (e : Ex) (k : Value), l[i]? = some e → ks[i]? = some k → ExsC w (fun b => (lo ≤ b ∧ some b ≠ V.ownBlock) ∧ b < w.heap.size) e.kids k)
    (ho0 : w.ownsRow lo 39 5 V l.length (exsC l ks)) (ho : w'.ownsRow lo 39 5 V' (l.length + 1) (exsC l ks ++ exC x k)) (hg : w.grownBy w' V.ownBlock) (hV : V'.ownBlock = V.ownBlock ∨ ∃ g, V'.ownBlock = some g ∧ w.heap.size ≤ g) (hx : ExsC w (fun b => (lo ≤ b ∧ some b ≠ V.ownBlock) ∧ b < w.heap.size) x.kids k) (hlo : lo ≤ w.heap.size) :
    OwnE lo w' (l ++ [x]) V' ∧ Below lo w w' := by
  refine ⟨OwnE.snoc hk h3 ho hg hV hx, hg.os, hg.tape, hg.output, hg.size, fun q hq => hg.block q (by omega) fun e => ?_⟩
  have := (ho0.lt q e.symm).1
  omega
/-- what was made behind a row does not lie in it -/
theorem kids_apart {w' : World} {lo b : Nat} {V : Value} {l : List Ex} {k : Value} (h : ExsC w' (Rng b w'.heap.size) l k) (hV : ∀ g, V.ownBlock = some g → g < b) (hlo : lo ≤ b) : ExsC w' (fun q => (lo ≤ q ∧ some q ≠ V.ownBlock) ∧ q < w'.heap.size) l k :=
  h.more fun q hq => ⟨⟨Nat.le_trans hlo hq.1, fun e => by have h1 := hV q e.symm; have h2 : b ≤ q := hq.1; omega⟩, hq.2⟩
theorem Moves.under {R lo : Nat} {a b c : World} (h : Moves R a b) (k : Below lo b c) (hl : a.heap.size ≤ lo) : Moves R a c := h.low k hl
theorem At.under {w w' : World} {R lo : Nat} {S : Src} {ts : List Tok} (h : At w R S ts) (hb : Below lo w w') (hR : R < lo) : At w' R S ts := by
  obtain ⟨h1, i, h2, h3, h4⟩ := h
  exact ⟨h1.of fun k hk => hb.block k (by omega), i, h2, h3, by rw [hb.block R hR]; exact h4⟩

set_option maxHeartbeats 1600000 in
theorem pair (R : Nat) (S : Src) (d : Nat) (e : Par Ex) (he : ExprOk R S d e) (ts : List Tok) (w : World) (ha : At w R S ts) :
    Calls Tryd.prog 72 #[.pointer (some ⟨R, 0, none⟩), .int .i64 d] w (Got R S (OwnE w.heap.size) w (pairP S.z e ts)) := by
  have hR := ha.lt
  obtain ⟨i0, hi, hz0, hz1, hz2⟩ := info_parts info39
  have K := Lib.hid (want R S ts [40] ⟨#[40]⟩ w ha (by kernel_rfl) (by unfold Byn; decide))
  have HE := Lib.hid he
  have HW : Hid (pairP S.z e ts = (wantT S.z [40] ts).bind fun _ r => (singleP e r).bind fun l r' => (wantT S.z [44] r').bind fun _ r'' => (e r'').bind fun y q => (wantT S.z [41] q).bind fun _ q' => .ok (l ++ [y]) q') := by
    show _ = _
    unfold pairP singleP
    cases wantT S.z [40] ts with
    | bad c p => rfl
    | ok v r =>
      simp only [Res.bind_ok]
      cases e r <;> rfl
  clear ha he
  generalize pairP S.z e ts = m at *
  go_enter Tryd.func72, Tryd.ntmps72
  go_wp2_with fail
  refine K.out.mono ?_
  clear K
  rintro e' w1 ⟨hm, ⟨u, r, xv, hr, rfl, hq, ha1⟩ | ⟨c, q, hr, rfl⟩⟩
  · rw [show xv = .tuple #[] from hq]
    have K := Lib.hid (single R S d e HE.out r w1 ha1)
    have M1 := Lib.hid hm
    have HW1 : Hid (m = (singleP e r).bind fun l r' => (wantT S.z [44] r').bind fun _ r'' => (e r'').bind fun y q => (wantT S.z [41] q).bind fun _ q' => .ok (l ++ [y]) q') := by show _ = _; rw [HW.out, hr]; rfl
    clear hm ha1 hr hq
    go_wp2_with fail
    refine K.out.mono ?_
    clear K
    rintro e' w2 ⟨hm, ⟨l, r2, V, hr, rfl, hq, ha2⟩ | ⟨c, q, hr, rfl⟩⟩
    · have K := Lib.hid (want R S r2 [44] ⟨#[44]⟩ w2 ha2 (by kernel_rfl) (by unfold Byn; decide))
      have M2 := Lib.hid (M1.out.trans hm)
      have hll : l.length = 1 := by
        unfold singleP at hr
        cases hx : e r with
        | bad c p => rw [hx] at hr; simp at hr
        | ok y q => rw [hx] at hr; simp at hr; rw [← hr.1]; rfl
      have HW2 : Hid (m = (wantT S.z [44] r2).bind fun _ r'' => (e r'').bind fun y q => (wantT S.z [41] q).bind fun _ q' => .ok (l ++ [y]) q') := by show _ = _; rw [HW1.out, hr]; rfl
      have O2 := Lib.hid (hq.low M1.out.size)
      clear hm ha2 hr hq
      go_wp2_with fail
      refine K.out.mono ?_
      clear K
      rintro e' w3 ⟨hm, ⟨u, r3, xu, hr, rfl, hq, ha3⟩ | ⟨c, q, hr, rfl⟩⟩
      · rw [show xu = .tuple #[] from hq]
        have O3 := Lib.hid (O2.out.moves hm hR)
        have M3 := Lib.hid (M2.out.trans hm)
        have HW3 : Hid (m = (e r3).bind fun y q => (wantT S.z [41] q).bind fun _ q' => .ok (l ++ [y]) q') := by show _ = _; rw [HW2.out, hr]; rfl
        have K := Lib.hid (HE.out w3 r3 ha3)
        clear hm hr hq ha3
        go_wp2_with fail
        refine K.out.mono ?_
        clear K
        rintro e' w4 ⟨hm, ⟨y, r4, yv, hr, rfl, hq, ha4⟩ | ⟨c, q, hr, rfl⟩⟩
        · obtain ⟨k, rfl, hk, hk1⟩ := exV_cells hq
          obtain ⟨A, c, rfl⟩ := exsC_slice hk
          have bt := below_alloc w4 (exO y (.slice A y.kids.length c))
          have mt : Moves R w3 (w4.alloc (exO y (.slice A y.kids.length c))) := hm.below bt (Nat.le_refl _)
          have O4 := O3.out.moves mt hR
          obtain ⟨ks, hks, hown, hkid⟩ := O4
          have hapart := kids_apart (V := V) (lo := w.heap.size) ((hk.same (fun q h => bt.block q h.2)).more (D' := Rng w3.heap.size (w4.alloc (exO y (.slice A y.kids.length c))).heap.size) fun q h => ⟨h.1, Nat.lt_of_lt_of_le h.2 bt.size⟩) (fun g hg => by
            obtain ⟨ks', _, ho', _⟩ := O3.out
            exact (ho'.lt g hg).2) M3.out.size
          have HQ : Hid (Moves R w (w4.alloc (exO y (.slice A y.kids.length c))) ∧ At (w4.alloc (exO y (.slice A y.kids.length c))) R S r4 ∧ m = (wantT S.z [41] r4).bind fun _ q' => .ok (l ++ [y]) q') := ⟨M3.out.trans mt, ha4.below bt (Nat.le_refl _), by rw [HW3.out, hr]; rfl⟩
          have HO := Lib.hid hown
          have HKd := Lib.hid hkid
          have HAp := Lib.hid hapart
          have HN : Hid (∀ (j : Nat) (u : Value), (exC y (.slice A y.kids.length c))[j]? = some u → (w4.alloc (exO y (.slice A y.kids.length c))).cell? ((Addr.mk w4.heap.size 0 none).add j) = some u) := fun j u hu => by
            rw [Addr.add_mid]
            exact range_of (cs := exC y (.slice A y.kids.length c)) (heap_alloc_new w4 (exO y (.slice A y.kids.length c))) j u hu
          have hsz : w.heap.size ≤ (w4.alloc (exO y (.slice A y.kids.length c))).heap.size := HQ.out.1.size
          clear hm hr hq ha4 hk hk1 bt mt hown hkid hapart
          go_wp2_with (at_builtin; refine wpList_append_one _ rfl (.tmp 13) (.tmp 17) 37 rfl w.heap.size 39 i0 _ 5 64 Tryd.underlying37 hi hz0 hz1 hz2 rfl (by omega) _ _ _ rfl HO.out ⟨w4.heap.size, 0, none⟩ 1 (exC y (.slice A y.kids.length c)) rfl rfl HN.out one5 (by rw [hll]; omega) (by rw [hll]; unfold maxLen; omega) hsz ?_; intro v5 w5 ho5 hg5 hv5)
          obtain ⟨O5, B5⟩ := OwnE.grown hks HKd.out HO.out ho5 hg5 hv5 HAp.out hsz
          have M5 := Lib.hid (HQ.out.1.low B5 (Nat.le_refl _))
          have A5 := HQ.out.2.1.under B5 hR
          have HO5 := Lib.hid O5
          have K := Lib.hid (want R S r4 [41] ⟨#[41]⟩ w5 A5 (by kernel_rfl) (by unfold Byn; decide))
          clear ho5 hg5 hv5 O5 B5 A5 HO HKd HAp HN
          go_wp2_with fail
          refine K.out.mono ?_
          clear K
          rintro e' w6 ⟨hm, ⟨u, r6, xu, hr, rfl, hq, ha6⟩ | ⟨c, q, hr, rfl⟩⟩
          · rw [show xu = .tuple #[] from hq]
            have HF : Hid (Moves R w w6 ∧ At w6 R S r6 ∧ OwnE w.heap.size w6 (l ++ [y]) v5 ∧ m = .ok (l ++ [y]) r6) := ⟨M5.out.trans hm, ha6, HO5.out.moves hm hR, by rw [HQ.out.2.2, hr]; rfl⟩
            clear hm hr hq ha6
            go_wp2
            go_ret
            exact .ok HF.out.1 HF.out.2.2.2 HF.out.2.2.1 HF.out.2.1
          · have HF := Lib.hid (M5.out.trans hm)
            clear hm
            go_wp2
            exact ⟨rfl, .bad HF.out (by rw [HQ.out.2.2, hr]; rfl)⟩
        · have HQ := Lib.hid (M3.out.trans hm)
          clear hm
          go_wp2
          exact ⟨rfl, .bad HQ.out (by rw [HW3.out, hr]; rfl)⟩
      · have HQ := Lib.hid (M2.out.trans hm)
        clear hm
        go_wp2
        exact ⟨rfl, .bad HQ.out (by rw [HW2.out, hr]; rfl)⟩
    · have HQ := Lib.hid (M1.out.trans hm)
      clear hm
      go_wp2
      exact ⟨rfl, .bad HQ.out (by rw [HW1.out, hr]; rfl)⟩
  · have HQ := Lib.hid hm
    clear hm
    go_wp2
    exact ⟨rfl, .bad HQ.out (by rw [HW.out, hr]; rfl)⟩
end Go.Proofs.YtoicncfpoklanaaDoor
