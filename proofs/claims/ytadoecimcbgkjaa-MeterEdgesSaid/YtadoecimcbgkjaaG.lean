/- The walk of MeterSums: it returns true, and nothing that was there has changed. Conditions: the limit is of 64 bits, the row lies in memory. -/
import Derived.Test.YtadoecimcbgkjaaC
import Derived.Deep.DeepCutAuto
import Derived.IntWalk
namespace Go.Proofs.Ytadoecimcbgkjaa
open Go.RowKit
set_option linter.unusedVariables false
set_option maxRecDepth 100000

/-- the slice at A, of capacity c, has the elements l (one cell each), in a block below B -/
def Lies (w : World) (B : Nat) (A : Option Addr) (c : Nat) (l : List Value) : Prop :=
  (A = none → c = 0) ∧ ∀ j u, l[j]? = some u → ∃ ad, A = some ad ∧ ad.block < B ∧ w.cell? (ad.add j) = some u
theorem addr_block (a : Addr) (n : Nat) : (a.add n).block = a.block := by unfold Addr.add; split <;> rfl
theorem Lies.below {w w' : World} {B : Nat} {A : Option Addr} {c : Nat} {l : List Value} (h : Lies w B A c l) (hb : Below B w w') : Lies w' B A c l :=
  ⟨h.1, fun j u hu => by
    obtain ⟨ad, e, hB, hc⟩ := h.2 j u hu
    exact ⟨ad, e, hB, by rw [hb.cell (by rw [addr_block]; exact hB)]; exact hc⟩⟩
abbrev cells16 (l : List Int) : List Value := l.map (Value.int .u16)
theorem At.facts {w : World} {b : Nat} {t n : Int} (h : At w b t n) : w.cell? ⟨b, 0, none⟩ = some (.int .i64 t) ∧ w.cell? ⟨b, 1, none⟩ = some (.int .i64 n) ∧ w.frozen? ⟨b, 0, none⟩ = false ∧ w.frozen? ⟨b, 1, none⟩ = false :=
  ⟨h.cells.1, h.cells.2, by have := (h.2 0 (by omega)).2; simpa using this, by have := (h.2 1 (by omega)).2; simpa using this⟩
theorem meet_new {W w8 : World} {t n : Int} (hbl : Below W.heap.size W w8) : W.heap.size ≤ w8.heap.size ∧ Below W.heap.size W (w8.alloc (.cells #[.int .i64 t, .int .i64 n] 23)) ∧ At (w8.alloc (.cells #[.int .i64 t, .int .i64 n] 23)) w8.heap.size t n := ⟨hbl.size, hbl.alloc hbl.size _, at_new _ _ _⟩
theorem meet_zero {W w8 : World} (hbl : Below W.heap.size W w8) : Below W.heap.size W (w8.alloc (.cells #[.int .i64 0, .int .i64 0] 23)) := hbl.alloc hbl.size _
theorem meet_cells {W w8 : World} {g : Nat} {t n : Int} (hbl : Below W.heap.size W w8) (hg : W.heap.size ≤ g) (hz : At w8 g 0 0) :
    W.heap.size ≤ g ∧ Below W.heap.size W ((w8.setCell ⟨g, 0, none⟩ (.int .i64 t)).setCell ⟨g, 1, none⟩ (.int .i64 n)) ∧ At ((w8.setCell ⟨g, 0, none⟩ (.int .i64 t)).setCell ⟨g, 1, none⟩ (.int .i64 n)) g t n :=
  ⟨hg, hbl.trans ((below_cells g 0 [.int .i64 t, .int .i64 n] w8).1.mono hg), World.rangeAt_setCells_same w8 g 0 [.int .i64 t, .int .i64 n] hz.2, World.there_setCells hz.2 g 0 [.int .i64 t, .int .i64 n]⟩
abbrev zO : Obj := gO 0 0

/-- what is known between two uses -/
def Sums (w wr : World) (b : Nat) (L u : Int) (o : Bool) : Prop := 0 ≤ u ∧ u ≤ L ∧ (o = true → u = L) ∧ Below w.heap.size w wr ∧ At wr b L u

theorem newL_in (n : Int) : 0 ≤ newL n ∧ newL n ≤ 100000 := by unfold newL up; omega
set_option maxHeartbeats 1600000 in
theorem sums_walk (limit : Int) (A : Option Addr) (c : Nat) (l : List Int) (w : World) (hl : l.length ≤ c) (hc : c ≤ maxLen) (hL : Lies w w.heap.size A c (cells16 l)) (hx : ∀ x ∈ l, 0 ≤ x ∧ x ≤ 65535) : Calls Try.prog 4 #[.int .i64 limit, .slice A l.length c] w fun e w' => e = .returned (.bool true) ∧ Below w.heap.size w w' := by
  obtain ⟨L, hLim⟩ : ∃ x, newL limit = x := ⟨_, rfl⟩
  have hLi := newL_in limit
  rw [hLim] at hLi
  have K0 := Lib.hid (newLit limit L hLim)
  have HLi := Lib.hid hLi
  have HL := Lib.hid hL
  have HX := Lib.hid hx
  unfold maxLen at hc
  clear hLim hLi hL hx
  have q0 : 0 ≤ L := HLi.out.1
  have q1 : L ≤ 100000 := HLi.out.2
  by_cases hlen : l.length ≤ 10000
  · go_enter Try.func4, Try.ntmps4
    go_wp2_with fail
    with_reducible refine (head_true _).mono ?_
    rintro e w1 ⟨rfl, b1⟩
    have B1 := Lib.hid b1
    clear b1
    go_wp2_with fail
    with_reducible refine (K0.out _).mono ?_
    rintro e w2 ⟨rfl, b2⟩
    have BB := bthen B1.out b2 B1.out.size
    have B2 := Lib.hid (BB.alloc BB.size (gO L 0))
    have A2 := Lib.hid (at_new w2 L 0)
    have G2 : Hid (w.heap.size ≤ w2.heap.size) := BB.size
    clear BB b2 B1
    go_upto_region 5 with fail
    generalize w2.alloc (gO L 0) = W at *
    generalize w2.heap.size = b at *
    go_wp2
    go_loopw [7, 8, 9, 10, 11] (fun s ov i _ _ wr => ∃ (k : Nat) (u : Int) (o : Bool), k ≤ l.length ∧ i = .int .i64 k ∧ s = .int .i64 u ∧ ov = .bool o ∧ Hid (Sums w wr b L u o)) (fun _ _ i _ _ _ => l.length - (intOf i).toNat)
    case atStart => exact ⟨0, 0, false, Nat.zero_le _, rfl, rfl, rfl, by omega, q0, (fun h => by cases h), B2.out, A2.out⟩
    case round =>
      obtain ⟨k, u, o, hk, rfl, rfl, rfl, HR⟩ := hrel
      by_cases hlt : k < l.length
      · obtain ⟨x, hx⟩ : ∃ x, l[k]? = some x := ⟨_, List.getElem?_eq_getElem hlt⟩
        have hx0 := HX.out x (List.mem_of_getElem? hx)
        obtain ⟨ad, rfl, hB, hcx⟩ := (HL.out.below HR.out.2.2.2.1).2 k (.int .u16 x) (by rw [List.getElem?_map, hx]; rfl)
        have hlb := HR.out.2.2.2.2.lt
        have hwx : wrap64 x = x := wrap_id (by unfold fits; omega)
        have hu0 := HR.out.1
        have hu1 := HR.out.2.1
        obtain ⟨is, his⟩ : ∃ y, useB L u x = y := ⟨_, rfl⟩
        obtain ⟨u', hu'⟩ : ∃ y, useU L u x = y := ⟨_, rfl⟩
        have K1 : Hid (∀ w, Calls Try.prog 8 #[GV L u, .int .i64 (IntKind.i64.wrap x)] w fun e w' => e = .returned (.tuple #[GV L u', .bool is]) ∧ Below w.heap.size w w') := by
          show ∀ w, _
          rw [show IntKind.i64.wrap x = x from (IntWalk.i64_left x).trans hwx]
          exact useL L u x u' is (by unfold fits; omega) (by unfold fits; omega) (by unfold fits; omega) his hu'
        have HQ : Hid (∀ w', Below wr.heap.size wr w' → (w'.cell? ⟨b, 0, none⟩ = some (.int .i64 L) ∧ w'.cell? ⟨b, 1, none⟩ = some (.int .i64 u) ∧ w'.cell? (ad.add k) = some (.int .u16 x))) := fun w' hb => by
          have h := (HR.out.2.2.2.2.below hb hlb).cells
          exact ⟨h.1, h.2, by rw [hb.cell (by rw [addr_block]; have := HR.out.2.2.2.1.size; omega)]; exact hcx⟩
        have HN : Hid (∀ w', Below wr.heap.size wr w' → ∀ w'', w''.rangeAt b 0 [.int .i64 L, .int .i64 u'] → w''.there b 0 2 → Below b w' w'' → ∀ o', (o' = true → u' = L) → Sums w w'' b L u' o') := by
          intro w' h1 w'' h2 h3 h4 o' h5
          have := useB L u x
          refine ⟨?_, ?_, h5, HR.out.2.2.2.1.trans ((h1.mono HR.out.2.2.2.1.size).trans (h4.mono G2.out)), h2, h3⟩
          · rw [← hu']; unfold useU; split <;> omega
          · rw [← hu']; unfold useU; split <;> omega
        have HA := Lib.hid HR.out.2.2.2.2
        have HU := Lib.hid hu'
        have HI := Lib.hid his
        have HW := Lib.hid hwx
        have HX0 := Lib.hid hx0
        have HO := Lib.hid HR.out.2.2.1
        have HU0 := Lib.hid (And.intro hu0 hu1)
        clear hx hx0 hcx hwx his hu' hu0 hu1 HR
        go_upto_region 10 with fail
        go_cut [10, 11] (fun p g wx => ∃ B, p = .pointer (some ⟨B, 0, none⟩) ∧ g = .bool is ∧ wr.heap.size ≤ B ∧ Below wr.heap.size wr wx ∧ At wx B L u')
        case first =>
          have hbl : Below wr.heap.size wr wr.drew := (Below.refl _ _).drew
          have hbz : Below wr.heap.size wr (wr.alloc zO).drew := (below_alloc wr zO).drew
          have HZ0 : Hid (At (wr.alloc zO).drew wr.heap.size 0 0) := (at_new wr 0 0).below ((Below.refl (wr.heap.size + 1) _).drew) (Nat.lt_succ_self _)
          go_region_held3 (fun w' => (w'.cell? ⟨b, 0, none⟩ = some (.int .i64 L) ∧ w'.cell? ⟨b, 1, none⟩ = some (.int .i64 u) ∧ w'.cell? (ad.add k) = some (.int .u16 x)))
            (first | with_reducible exact HQ.out _ hbl | with_reducible exact HQ.out _ hbz | with_reducible exact HQ.out _ (meet_new hbl).2.1 | with_reducible exact HQ.out _ (meet_zero hbl) | with_reducible exact HQ.out _ (meet_cells hbl hsz HZ.out).2.1 | with_reducible exact HQ.out _ (meet_cells hbl (Nat.le_refl _) HZ.out).2.1)
            (first | (go_at_call 8; refine (K1.out _).mono ?_; rintro e wn ⟨rfl, hbn⟩; first | (replace hbl := bthen hbl hbn hbl.size; have hsz := hbl.size) | (have HZ := Lib.hid (HZ0.out.below hbn HZ0.out.lt); have hlz := HZ0.out.lt; obtain ⟨u0, u1, v0, v1⟩ := HZ.out.facts; replace hbl := bthen hbz hbn hbz.size)))
          all_goals (go_wp2_with fail; go_meet)
          all_goals (refine ⟨_, rfl, rfl, ?_⟩; first | with_reducible exact meet_new hbl | with_reducible exact meet_cells hbl hsz HZ.out | with_reducible exact meet_cells hbl (Nat.le_refl _) HZ.out)
        case rest =>
          obtain ⟨B, rfl, rfl, hB2, hW2, hAt⟩ := hcut
          have HWc := Lib.hid hW2
          have HAb := Lib.hid (HA.out.below hW2 hlb)
          obtain ⟨c0, c1, f0, f1⟩ := HAb.out.facts
          obtain ⟨d0, d1⟩ := hAt.cells
          have hcx := (HQ.out wc hW2).2.2
          clear hW2 hAt hB2
          have hLi := HLi.out
          have hU := HU.out
          have hI := HI.out
          have hX := HX0.out
          have hU0 := HU0.out
          have hW := HW.out
          have hO := HO.out
          cases o with
          | false =>
            cases is with
            | true =>
              have hyes : 0 ≤ u ∧ u ≤ L ∧ 0 ≤ x ∧ x ≤ L - u := of_decide_eq_true hI
              have hu' : u + x = u' := (use_yes hyes).2.symm.trans hU
              have q3 : u' ≤ L := by omega
              have q4 : u ≤ u' := by omega
              have hs : wrap64 (u + wrap64 x) = u' := by rw [hW, hu']; exact wrap_id (by unfold fits; omega)
              have HS := Lib.hid hs
              clear hyes hu' hs hLi hU hI hX hU0 hW hO
              go_upto_region 12 with fail
              rw [HS.out]
              go_wp2_with (refine wpList_storeN info23s rfl (.tmp 6) (.tmp 91) rfl rfl b rfl [_, _] rfl rfl HAb.out.2 (by simp [Value.oneCell']) ?_; intro wn g1 g2 g3 g4 g5)
              go_roundw
              case rel => exact ⟨k + 1, u', false, by omega, by go_num, rfl, rfl, HN.out wc HWc.out wn g1 g2 g3 false (fun h => by cases h)⟩
              case measure => simp [intOf]; omega
            | false =>
              have hno : ¬(0 ≤ u ∧ u ≤ L ∧ 0 ≤ x ∧ x ≤ L - u) := of_decide_eq_false hI
              obtain rfl : L = u' := (use_no hno).2.symm.trans hU
              have q4 : u ≤ L := by omega
              have hs : L < wrap64 (u + wrap64 x) := by rw [hW, wrap_id (by unfold fits; omega)]; omega
              have HS := Lib.hid hs
              clear hno hs hLi hU hI hX hU0 hW hO
              go_upto_region 12 with fail
              generalize wrap64 (u + wrap64 x) = s at *
              have hs := HS.out
              go_wp2_with (refine wpList_storeN info23s rfl (.tmp 6) (.tmp 91) rfl rfl b rfl [_, _] rfl rfl HAb.out.2 (by simp [Value.oneCell']) ?_; intro wn g1 g2 g3 g4 g5)
              go_roundw
              case rel => exact ⟨k + 1, L, true, by omega, by go_num, rfl, rfl, HN.out wc HWc.out wn g1 g2 g3 true (fun _ => rfl)⟩
              case measure => simp [intOf]; omega
          | true =>
            obtain rfl : u = L := hO rfl
            have hu' : u' = u := by rw [← hU]; unfold useU; split <;> omega
            subst hu'
            cases is with
            | true =>
              have hyes : 0 ≤ u' ∧ u' ≤ u' ∧ 0 ≤ x ∧ x ≤ u' - u' := of_decide_eq_true hI
              have hx0 : x = 0 := by omega
              subst hx0
              clear hyes hLi hU hI hX hU0 hW hO
              go_wp2_with (refine wpList_storeN info23s rfl (.tmp 6) (.tmp 91) rfl rfl b rfl [_, _] rfl rfl HAb.out.2 (by simp [Value.oneCell']) ?_; intro wn g1 g2 g3 g4 g5)
              go_roundw
              case rel => exact ⟨k + 1, u', true, by omega, by go_num, rfl, rfl, HN.out wc HWc.out wn g1 g2 g3 true (fun _ => rfl)⟩
              case measure => simp [intOf]; omega
            | false =>
              have hno : ¬(0 ≤ u' ∧ u' ≤ u' ∧ 0 ≤ x ∧ x ≤ u' - u') := of_decide_eq_false hI
              have hx0 : 0 < x := by omega
              clear hno hLi hU hI hX hU0 hW hO
              go_wp2_with (refine wpList_storeN info23s rfl (.tmp 6) (.tmp 91) rfl rfl b rfl [_, _] rfl rfl HAb.out.2 (by simp [Value.oneCell']) ?_; intro wn g1 g2 g3 g4 g5)
              go_roundw
              case rel => exact ⟨k + 1, u', true, by omega, by go_num, rfl, rfl, HN.out wc HWc.out wn g1 g2 g3 true (fun _ => rfl)⟩
              case measure => simp [intOf]; omega
      · obtain rfl : k = l.length := by omega
        obtain ⟨c0, c1⟩ := HR.out.2.2.2.2.cells
        go_wp2
        go_ret
        exact ⟨rfl, HR.out.2.2.2.1⟩
  · have hq : 10000 < l.length := by omega
    go_enter Try.func4, Try.ntmps4
    go_wp2_with fail
    with_reducible refine (head_true _).mono ?_
    rintro e w1 ⟨rfl, b1⟩
    have B1 := Lib.hid b1
    clear b1
    go_wp2
    go_ret
    exact ⟨rfl, B1.out⟩
end Go.Proofs.Ytadoecimcbgkjaa
