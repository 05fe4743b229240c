/- What the program's reader makes of operands with signs of one rank between them. Conditions: the reader and its tokens lie in memory; the operand's reader reads as said, and leaves no more tokens than there were. -/
import Derived.Test.YtoicncfpoklanaaDoorPc
namespace Go.Proofs.YtoicncfpoklanaaDoor
open Go.RowKit
set_option maxRecDepth 100000
set_option linter.unusedSimpArgs false

/-- where the reader is -/
def nextOf (R : Nat) (w : World) : Nat := match w.cell? ⟨R, 1, none⟩ with | some (.int _ q) => q.toNat | _ => 0
theorem At.next {w : World} {R : Nat} {S : Src} {ts : List Tok} (h : At w R S ts) : S.all.length - nextOf R w = ts.length := by
  obtain ⟨_, i, h2, rfl, h4⟩ := h
  unfold nextOf
  rw [(At.cells h4).2.1]
  simp
/-- an expression lies in a variable -/
def ExAt (w : World) (b : Nat) (x : Ex) (k : Value) : Prop := w.rangeAt b 0 (exC x k) ∧ w.there b 0 5
theorem ExAt.cells {w : World} {b : Nat} {x : Ex} {k : Value} (h : ExAt w b x k) :
    w.cell? ⟨b, 0, none⟩ = some (.int .i64 x.op) ∧ w.cell? ⟨b, 1, none⟩ = some (.int .i64 x.num) ∧ w.cell? ⟨b, 2, none⟩ = some (.string (strN x.text)) ∧ w.cell? ⟨b, 3, none⟩ = some k ∧ w.cell? ⟨b, 4, none⟩ = some (.int .i64 x.place) :=
  ⟨h.1 0 _ rfl, h.1 1 _ rfl, h.1 2 _ rfl, h.1 3 _ rfl, h.1 4 _ rfl⟩
theorem ExAt.of_block {w : World} {b : Nat} {x : Ex} {k : Value} (h : w.heap[b]? = some (exO x k)) : ExAt w b x k := ⟨range_of (cs := exC x k) h, there_cells (cs := exC x k) h rfl⟩
theorem there_of_block {w w' : World} {b n : Nat} (h : w.there b 0 n) (hb : w'.heap[b]? = w.heap[b]?) : w'.there b 0 n := fun j hj => by
  rw [World.cell?_of_block (a := ⟨b, 0 + j, none⟩) hb, World.frozen?_of_block (a := ⟨b, 0 + j, none⟩) hb]
  exact h j hj
theorem ExAt.of {w w' : World} {b : Nat} {x : Ex} {k : Value} (h : ExAt w b x k) (hb : w'.heap[b]? = w.heap[b]?) : ExAt w' b x k :=
  ⟨fun j v hv => by rw [World.cell?_of_block (a := ⟨b, 0 + j, none⟩) hb]; exact h.1 j v hv, there_of_block h.2 hb⟩
theorem there_lt {w : World} {b n : Nat} (h : w.there b 0 n) (hn : 0 < n) : b < w.heap.size := by
  have h1 := (h 0 hn).1
  obtain ⟨u, hu⟩ := Option.isSome_iff_exists.1 h1
  exact World.block_lt_of_cell? w _ hu
theorem takeT_sees {z : Nat} {ss : List (List Nat)} {ts : List Tok} (h : seesT z ss ts = true) : takeT z 4 ts = .ok (peekT z ts) ts.tail := by
  unfold takeT
  rw [if_pos (seesT_kind h)]
theorem sees_cons {z : Nat} {ss : List (List Nat)} {ts : List Tok} (h : seesT z ss ts = true) : ts.tail.length + 1 = ts.length := by
  cases ts with
  | nil => have := seesT_kind h; simp [peekT, noTok] at this
  | cons t r => simp
theorem moreG_true {z : Nat} {ss : List (List Nat)} {p : Par Ex} {f : Nat} {x : Ex} {ts : List Tok} (h : seesT z ss ts = true) : moreG z ss p (f + 1) x ts = (joinedP z p x ts).bind fun e r => moreG z ss p f e r := by
  unfold joinedP
  rw [takeT_sees h, moreG, if_pos h]
  simp only [Res.bind_ok]
  cases p ts.tail <;> rfl
theorem moreG_false {z : Nat} {ss : List (List Nat)} {p : Par Ex} {x : Ex} {ts : List Tok} (h : seesT z ss ts = false) : ∀ f, moreG z ss p f x ts = .ok x ts
  | 0 => rfl
  | f + 1 => by rw [moreG, if_neg (by simp [h])]
theorem joinedP_shrinks {z : Nat} {ss : List (List Nat)} {p : Par Ex} {x e : Ex} {ts r : List Tok} (h : seesT z ss ts = true) (hp : Shrinks p) (hj : joinedP z p x ts = .ok e r) : r.length + 1 ≤ ts.length := by
  unfold joinedP at hj
  rw [takeT_sees h] at hj
  simp only [Res.bind_ok] at hj
  cases hq : p ts.tail with
  | bad c q => rw [hq] at hj; simp at hj
  | ok y r' =>
    rw [hq] at hj
    simp at hj
    have := hp _ _ _ hq
    have := sees_cons h
    rw [← hj.2]
    omega
theorem exsC_slice {w : World} {D : Nat → Prop} {l : List Ex} {k : Value} (h : ExsC w D l k) : ∃ A c, k = .slice A l.length c := by
  cases h with
  | mk l ks V hk hr _ =>
    obtain ⟨A, c, e, _⟩ := hr
    exact ⟨A, c, e⟩
/-- the state at a round's beginning -/
def GrpS (R : Nat) (S : Src) (w : World) (b L : Nat) (m : Res Ex) (ss : List (List Nat)) (p : Par Ex) (wr : World) : Prop :=
  ∃ x k ts f, At wr R S ts ∧ ExAt wr L x k ∧ wr.there b 0 5 ∧ ExsC wr (fun q => (b < q ∧ q ≠ L) ∧ q < wr.heap.size) x.kids k ∧ Moves R w wr ∧ ts.length ≤ f ∧ m = moreG S.z ss p f x ts

set_option maxHeartbeats 1600000 in
theorem grouped (R : Nat) (S : Src) (ts : List Tok) (fn : Nat) (caps : Array Value) (p : Par Ex) (A : Option Addr) (ss : List (List Nat)) (c : Nat) (w : World) (ha : At w R S ts) (hp : IsPar R S fn caps p w) (hs : Shrinks p) (hc : ss.length ≤ c) (hcm : c ≤ maxLen) (hl : Lies w w.heap.size A c (ss.map strV)) (hA : ∀ ad, A = some ad → ad.block ≠ R) (hy : ∀ x ∈ ss, Byn x) :
    Calls Tryd.prog 79 #[.pointer (some ⟨R, 0, none⟩), .func (.func fn) #[] caps, .slice A ss.length c] w (Got R S (QE w.heap.size) w (groupedP S.z ss p ts)) := by
  have he := hp.1
  unfold EntC at he
  have HP := Lib.hid hp
  have HSh := Lib.hid hs
  have HL : Hid (∀ wr, Moves R w wr → Lies wr wr.heap.size A c (ss.map strV)) := fun wr hm => ⟨hl.1, fun j u hu => by
    obtain ⟨ad, e, hB, hcell⟩ := hl.2 j u hu
    exact ⟨ad, e, Nat.lt_of_lt_of_le hB hm.size, by rw [hm.cell (by rw [addr_block]; exact hB) (by rw [addr_block]; exact hA ad e)]; exact hcell⟩⟩
  have HY := Lib.hid hy
  have b0 := Lib.hid (below_alloc w (.cells #[.int .i64 0, .int .i64 0, .string ⟨#[]⟩, .slice none 0 0, .int .i64 0] 39))
  have N0 := Lib.hid (heap_alloc_new w (.cells #[.int .i64 0, .int .i64 0, .string ⟨#[]⟩, .slice none 0 0, .int .i64 0] 39))
  have hRw := ha.lt
  have A0 := Lib.hid (ha.below b0.out (Nat.le_refl _))
  have s0 : (w.alloc (.cells #[.int .i64 0, .int .i64 0, .string ⟨#[]⟩, .slice none 0 0, .int .i64 0] 39)).heap.size = w.heap.size + 1 := by simp
  have K := Lib.hid (hp.2 _ ts (Moves.of_below b0.out (Nat.le_refl _)) A0.out)
  have HW : Hid (groupedP S.z ss p ts = (p ts).bind fun x r => moreG S.z ss p r.length x r) := rfl
  clear ha hp hl hy hA hs
  generalize groupedP S.z ss p ts = m at *
  go_enter Tryd.func79, Tryd.ntmps79
  go_wp2_with fail
  generalize w.alloc (.cells #[.int .i64 0, .int .i64 0, .string ⟨#[]⟩, .slice none 0 0, .int .i64 0] 39) = w0 at *
  refine K.out.mono ?_
  clear K
  rintro e w1 ⟨hm, ⟨x, r, xv, hr, rfl, hq, ha1⟩ | ⟨c, q, hr, rfl⟩⟩
  · obtain ⟨k, rfl, hk, hk1⟩ := exV_cells hq
    obtain ⟨Ak, ck, rfl⟩ := exsC_slice hk
    clear hq hk1
    have s1 := hm.size
    have bt := below_alloc w1 (exO x (.slice Ak x.kids.length ck))
    have n0 : w1.heap[w.heap.size]? = some (.cells #[.int .i64 0, .int .i64 0, .string ⟨#[]⟩, .slice none 0 0, .int .i64 0] 39) := by rw [hm.block' (by omega) (by omega)]; exact N0.out
    have HG : Hid (GrpS R S w w.heap.size w1.heap.size m ss p (w1.alloc (exO x (.slice Ak x.kids.length ck)))) := by
      refine ⟨x, _, r, r.length, ha1.below bt (Nat.le_refl _), ExAt.of_block (heap_alloc_new w1 (exO x (.slice Ak x.kids.length ck))), ?_, ?_, ((Moves.of_below b0.out (Nat.le_refl _)).trans hm).below bt (Nat.le_refl _), Nat.le_refl _, ?_⟩
      · exact there_cells (cs := [_, _, _, _, _]) ((bt.block _ (by omega)).trans n0) rfl
      · refine (hk.same (fun q h => bt.block q h.2)).more fun q h => ?_
        have h1 : w0.heap.size ≤ q := h.1
        have h2 : q < w1.heap.size := h.2
        simp
        omega
      · rw [HW.out, hr]
        rfl
    clear hk hm ha1 bt n0
    go_wp2
    generalize w1.alloc (exO x (.slice Ak x.kids.length ck)) = w2 at *
    go_loopw [] (fun wr => GrpS R S w w.heap.size w1.heap.size m ss p wr) (fun wr => S.all.length - nextOf R wr)
    case atStart => exact HG.out
    case round =>
      obtain ⟨x2, k2, ts2, f, hA2, hL2, hb2, hk2, hm2, hf2, hmr⟩ := hrel
      obtain ⟨A3, c3, rfl⟩ := exsC_slice hk2
      have K := Lib.hid (sees R S ts2 A ss c wr hA2 hc hcm (HL.out wr hm2) HY.out)
      have hLw := there_lt hL2.2 (by omega)
      have hbw := there_lt hb2 (by omega)
      by_cases hsee : seesT S.z ss ts2 = true
      · rw [hsee] at K
        have HQ : Hid (At wr R S ts2 ∧ ExAt wr w1.heap.size x2 (.slice A3 x2.kids.length c3) ∧ wr.there w.heap.size 0 5 ∧ ExsC wr (fun q => (w.heap.size < q ∧ q ≠ w1.heap.size) ∧ q < wr.heap.size) x2.kids (.slice A3 x2.kids.length c3) ∧ Moves R w wr ∧ ts2.length ≤ f ∧ m = moreG S.z ss p f x2 ts2 ∧ seesT S.z ss ts2 = true) := ⟨hA2, hL2, hb2, hk2, hm2, hf2, hmr, hsee⟩
        clear hA2 hL2 hb2 hk2 hm2 hf2 hmr hsee
        go_wp2_with fail
        refine K.out.mono ?_
        clear K
        rintro e w3 ⟨rfl, hb3⟩
        obtain ⟨hA2, hL2, hb2, hk2, hm2, hf2, hmr, hsee⟩ := HQ.out
        have s3 := hb3.size
        have A3' := hA2.below hb3 (Nat.le_refl _)
        have L3 := hL2.of (hb3.block _ hLw)
        have b3 := there_of_block hb2 (hb3.block _ hbw)
        have k3 := hk2.same (fun q h => hb3.block q h.2)
        have m3 := hm2.below hb3 (Nat.le_refl _)
        have K2 := Lib.hid (joined R S ts2 fn caps p (fun q => (w.heap.size < q ∧ q ≠ w1.heap.size) ∧ q < wr.heap.size) x2 _ w3 A3' (HP.out.later m3) (fun q h => ⟨by omega, by omega⟩) ⟨_, rfl, k3⟩)
        obtain ⟨l0, l1, l2, l3, l4⟩ := L3.cells
        have HQ3 : Hid (ExAt w3 w1.heap.size x2 (.slice A3 x2.kids.length c3) ∧ w3.there w.heap.size 0 5 ∧ Moves R w w3) := ⟨L3, b3, m3⟩
        simp only [exC] at K2
        clear hA2 hL2 hb2 hk2 hm2 hf2 hmr hsee A3' L3 b3 k3 m3 hb3
        go_wp2_with fail
        refine K2.out.mono ?_
        clear K2 l0 l1 l2 l3 l4
        rintro e w4 ⟨hm4, ⟨y, r4, yv, hr4, rfl, hq4, ha4⟩ | ⟨c4, q4, hr4, rfl⟩⟩
        · obtain ⟨k4, rfl, hk4, hk41⟩ := exV_cells hq4
          obtain ⟨A4, c4, rfl⟩ := exsC_slice hk4
          have s4 := hm4.size
          have th4 := Lib.hid (there_of_block HQ3.out.1.2 (hm4.block' (by omega) (by omega)))
          have tb4 := Lib.hid (there_of_block HQ3.out.2.1 (hm4.block' (by omega) (by omega)))
          have H4 : Hid (Moves R w w4 ∧ ExsC w4 _ y.kids (.slice A4 y.kids.length c4) ∧ At w4 R S r4 ∧ joinedP S.z p x2 ts2 = .ok y r4) := ⟨HQ3.out.2.2.trans hm4, hk4, ha4, hr4⟩
          clear hm4 hq4 hk4 ha4 hr4 hk41
          go_wp2_with (refine wpList_storeN info39s rfl (.tmp 7) (.tmp 16) rfl rfl w1.heap.size rfl [_, _, _, _, _] rfl rfl th4.out (by simp [Value.oneCell']) ?_; intro w5 g1 g2 g3 g4 g5)
          go_roundw
          case rel =>
            obtain ⟨hA2, _, _, _, _, hf2, hmr, hsee⟩ := HQ.out
            have hcons := sees_cons hsee
            obtain ⟨f', rfl⟩ : ∃ f', f = f' + 1 := ⟨f - 1, by omega⟩
            have hsh := joinedP_shrinks hsee HSh.out H4.out.2.2.2
            refine ⟨y, _, r4, f', H4.out.2.2.1.other (by omega) g4, ⟨g1, g2⟩, there_of_block tb4.out (g4 _ (by omega)), ?_, H4.out.1.low g3 (by omega), by omega, ?_⟩
            · refine (H4.out.2.1.same (fun q h => g4 q ?_)).more fun q h => ?_
              · rcases h with h | h
                · exact h.1.2
                · have : w3.heap.size ≤ q := h.1
                  omega
              · rw [g5]
                rcases h with h | h
                · exact ⟨h.1, by omega⟩
                · have h1 : w3.heap.size ≤ q := h.1
                  have h2 : q < w4.heap.size := h.2
                  refine ⟨⟨?_, ?_⟩, h2⟩ <;> omega
            · rw [hmr, moreG_true hsee, H4.out.2.2.2]
              rfl
          case measure =>
            obtain ⟨hA2, _, _, _, _, hf2, hmr, hsee⟩ := HQ.out
            have hsh := joinedP_shrinks hsee HSh.out H4.out.2.2.2
            rw [hA2.next, (H4.out.2.2.1.other (g := w1.heap.size) (by omega) g4).next]
            omega
        · have HB := Lib.hid (HQ3.out.2.2.trans hm4)
          clear hm4
          go_wp2
          obtain ⟨hA2, _, _, _, _, hf2, hmr, hsee⟩ := HQ.out
          have hcons := sees_cons hsee
          obtain ⟨f', rfl⟩ : ∃ f', f = f' + 1 := ⟨f - 1, by omega⟩
          exact ⟨rfl, .bad HB.out (by rw [hmr, moreG_true hsee, hr4]; rfl)⟩
      · have hsf : seesT S.z ss ts2 = false := by simpa using hsee
        rw [hsf] at K
        have HQ : Hid (At wr R S ts2 ∧ ExAt wr w1.heap.size x2 (.slice A3 x2.kids.length c3) ∧ wr.there w.heap.size 0 5 ∧ ExsC wr (fun q => (w.heap.size < q ∧ q ≠ w1.heap.size) ∧ q < wr.heap.size) x2.kids (.slice A3 x2.kids.length c3) ∧ Moves R w wr ∧ ts2.length ≤ f ∧ m = moreG S.z ss p f x2 ts2 ∧ seesT S.z ss ts2 = false) := ⟨hA2, hL2, hb2, hk2, hm2, hf2, hmr, hsf⟩
        clear hA2 hL2 hb2 hk2 hm2 hf2 hmr hsee hsf
        go_wp2_with fail
        refine K.out.mono ?_
        clear K
        rintro e w3 ⟨rfl, hb3⟩
        obtain ⟨hA2, hL2, hb2, hk2, hm2, hf2, hmr, hsf⟩ := HQ.out
        have s3 := hb3.size
        have L3 := hL2.of (hb3.block _ hLw)
        obtain ⟨l0, l1, l2, l3, l4⟩ := L3.cells
        have tb3 := Lib.hid (there_of_block hb2 (hb3.block _ hbw))
        have H3 : Hid (At w3 R S ts2 ∧ ExsC w3 (fun q => (w.heap.size < q ∧ q ≠ w1.heap.size) ∧ q < wr.heap.size) x2.kids (.slice A3 x2.kids.length c3) ∧ Moves R w w3 ∧ m = .ok x2 ts2) :=
          ⟨hA2.below hb3 (Nat.le_refl _), hk2.same (fun q h => hb3.block q h.2), hm2.below hb3 (Nat.le_refl _), by rw [hmr, moreG_false hsf]⟩
        clear hA2 hL2 hb2 hk2 hm2 hf2 hmr hsf L3 hb3
        go_wp2_with (refine wpList_storeN info39s rfl (.tmp 6) (.tmp 17) rfl rfl w.heap.size rfl [_, _, _, _, _] rfl rfl tb3.out (by simp [Value.oneCell']) ?_; intro w5 g1 g2 g3 g4 g5)
        refine bodyPost_ret (ret_cell (cs := [_, _, _, _, _]) Tryd.results79 Tryd.underlying39 rfl info39s _ _ w.heap.size rfl g1) rfl ?_
        refine .ok (H3.out.2.2.1.low g3 (Nat.le_refl _)) H3.out.2.2.2 ⟨_, rfl, ?_⟩ (H3.out.1.other hRw g4)
        refine (H3.out.2.1.same (fun q h => g4 q (by omega))).more fun q h => ⟨?_, ?_⟩
        · omega
        · rw [g5]
          omega
  · have HQ := Lib.hid ((Moves.of_below (R := R) b0.out (Nat.le_refl _)).trans hm)
    clear hm
    go_wp2
    exact ⟨rfl, .bad HQ.out (by rw [HW.out, hr]; rfl)⟩
end Go.Proofs.YtoicncfpoklanaaDoor
