/- The walk of ArithOrders: it returns true, and nothing that was there has changed. Conditions: ints are of 64 bits. -/
import Derived.Test.YtehihpfhcphdoaaH
namespace Go.Proofs.Ytehihpfhcphdoaa
open Go.RowKit
set_option maxRecDepth 100000

def sg : Nat → ByteArray
  | 0 => ⟨#[60]⟩
  | 1 => ⟨#[61, 61]⟩
  | 2 => ⟨#[62]⟩
  | 3 => ⟨#[60, 61]⟩
  | 4 => ⟨#[33, 61]⟩
  | _ => ⟨#[62, 61]⟩
def rs (o : Int) : Nat → Bool
  | 0 => decide (o < 0)
  | 1 => o == 0
  | 2 => decide (0 < o)
  | 3 => decide (o ≤ 0)
  | 4 => !(o == 0)
  | _ => decide (0 ≤ o)
theorem row_eqI (w : World) : Calls Try.prog 19 #[.string ⟨#[61, 61]⟩] w (RowI (ordAns fun n => n == 0) w) := (row_eq w).mono fun _ _ h => h.ints
theorem row_neI (w : World) : Calls Try.prog 19 #[.string ⟨#[33, 61]⟩] w (RowI (ordAns fun n => !(n == 0)) w) := (row_ne w).mono fun _ _ h => h.ints
theorem two_sg (a b : Int) (ha : fits a) (hb : fits b) (k : Nat) (w : World) : Calls Try.prog 10 #[.string (sg k), VV 1 a nilS, VV 1 b nilS] w fun e w' => e = .returned (AV ⟨2, b2i (rs (ord a b) k), 0⟩) ∧ Below w.heap.size w w' := by
  match k with
  | 0 => exact twoI_lit _ _ row_lt a b w ha hb _ rfl
  | 1 => exact twoI_lit _ _ row_eqI a b w ha hb _ rfl
  | 2 => exact twoI_lit _ _ row_gt a b w ha hb _ rfl
  | 3 => exact twoI_lit _ _ row_le a b w ha hb _ rfl
  | 4 => exact twoI_lit _ _ row_neI a b w ha hb _ rfl
  | _ + 5 => exact twoI_lit _ _ row_ge a b w ha hb _ rfl
/-- a variable of several cells -/
def VarAt (w : World) (b : Nat) (cs : List Value) : Prop := w.rangeAt b 0 cs ∧ w.there b 0 cs.length
theorem VarAt.of {w w' : World} {b : Nat} {cs : List Value} (h : VarAt w b cs) (hb : w'.heap[b]? = w.heap[b]?) : VarAt w' b cs :=
  ⟨fun j v hv => by rw [World.cell?_of_block (a := ⟨b, 0 + j, none⟩) hb]; exact h.1 j v hv, fun j hj => by
    have h1 := h.2 j hj
    refine ⟨?_, ?_⟩
    · rw [World.cell?_of_block (a := ⟨b, 0 + j, none⟩) hb]; exact h1.1
    · have h2 := h1.2; unfold World.frozen? at h2 ⊢; simp only at h2 ⊢; rw [hb]; exact h2⟩
theorem VarAt.block {w : World} {b : Nat} {cs : List Value} {T : TypeId} (h : w.heap[b]? = some (.cells cs.toArray T (0, 0))) : VarAt w b cs := ⟨range_of h, there_cells h rfl⟩
theorem VarAt.cell {w : World} {b : Nat} {cs : List Value} (h : VarAt w b cs) (j : Nat) (v : Value) (hv : cs[j]? = some v) : w.cell? ⟨b, j, none⟩ = some v ∧ w.frozen? ⟨b, j, none⟩ = false := by
  have h1 := h.1 j v hv
  have h2 := (h.2 j (List.getElem?_eq_some_iff.1 hv).1).2
  rw [Nat.zero_add] at h1 h2
  exact ⟨h1, h2⟩
theorem VarAt.set {w : World} {b : Nat} {cs : List Value} (h : VarAt w b cs) (i : Nat) (u : Value) : VarAt (w.setCell ⟨b, i, none⟩ u) b (cs.set i u) := by
  constructor
  · intro j v hv
    rw [List.getElem?_set] at hv
    split at hv
    · rename_i hij
      subst hij
      split at hv
      · rename_i hlt
        injection hv with hv
        subst hv
        rw [Nat.zero_add]
        obtain ⟨q, hq⟩ := Option.isSome_iff_exists.1 (h.2 i hlt).1
        rw [Nat.zero_add] at hq
        exact World.cell?_setCell_same _ _ _ (by rw [hq])
      · cases hv
    · rename_i hij
      rw [World.cell?_setCell_other _ _ _ _ (by intro e; injection e with e1 e2; omega)]
      exact h.1 j v hv
  · intro j hj
    have hj' : j < cs.length := by simpa using hj
    have h1 := h.2 j hj'
    constructor
    · by_cases hij : i = j
      · subst hij
        rw [Nat.zero_add] at h1 ⊢
        obtain ⟨q, hq⟩ := Option.isSome_iff_exists.1 h1.1
        rw [World.cell?_setCell_same _ _ _ (by rw [hq])]
        rfl
      · rw [World.cell?_setCell_other _ _ _ _ (by intro e; injection e with e1 e2; omega)]
        exact h1.1
    · rw [World.frozen?_setCell]
      exact h1.2
theorem set_other {w : World} {b i : Nat} {u : Value} : ∀ k, k ≠ b → (w.setCell ⟨b, i, none⟩ u).heap[k]? = w.heap[k]? := fun _ hk => Below.heap_setCell _ _ _ _ hk
theorem set_size {w : World} {b i : Nat} {u : Value} : (w.setCell ⟨b, i, none⟩ u).heap.size = w.heap.size := by simp [World.setCell]
theorem set_below {w : World} {b i : Nat} {u : Value} : Below b w (w.setCell ⟨b, i, none⟩ u) := (Below.refl b w).setCell (p := ⟨b, i, none⟩) (Nat.le_refl _) u


/-- what the bools are, k of them told -/
def bls (o : Int) (k : Nat) : List Value := (List.range 6).map fun j => .bool (if j < k then rs o j else false)
theorem bls_set (o : Int) (k : Nat) (hk : k < 6) : (bls o k).set k (.bool (rs o k)) = bls o (k + 1) := by
  have : k = 0 ∨ k = 1 ∨ k = 2 ∨ k = 3 ∨ k = 4 ∨ k = 5 := by omega
  rcases this with rfl | rfl | rfl | rfl | rfl | rfl <;> rfl
/-- how many of the first j are true -/
def cnt (o : Int) (j : Nat) : Nat := ((List.range j).map fun q => if rs o q then 1 else 0).sum
theorem cnt_next (o : Int) (j : Nat) : cnt o (j + 1) = cnt o j + (if rs o j then 1 else 0) := by simp [cnt, List.range_succ]
theorem rs_facts (o : Int) : (((cnt o 3 : Nat) : Int) == 1) = true ∧ (rs o 3 == !rs o 2) = true ∧ (rs o 4 == !rs o 1) = true ∧ (rs o 5 == !rs o 0) = true := by
  have e : cnt o 3 = (if rs o 0 then 1 else 0) + (if rs o 1 then 1 else 0) + (if rs o 2 then 1 else 0) := by rw [cnt_next, cnt_next, cnt_next]; simp [cnt]
  rw [e]
  simp only [rs]
  rcases (show o < 0 ∨ o = 0 ∨ 0 < o by omega) with h | h | h
  · have h1 : ¬ o = 0 := by omega
    have h2 : ¬ 0 < o := by omega
    have h3 : o ≤ 0 := by omega
    have h4 : ¬ 0 ≤ o := by omega
    simp [h, h1, h2, h3, h4]
  · subst h; decide
  · have h1 : ¬ o = 0 := by omega
    have h2 : ¬ o < 0 := by omega
    have h3 : ¬ o ≤ 0 := by omega
    have h4 : 0 ≤ o := by omega
    simp [h, h1, h2, h3, h4]
/-- what stays through the rounds -/
structure Inv (o : Int) (w1 : World) (k : Nat) (wr : World) : Prop where
  bl : Below w1.heap.size w1 wr
  sz : w1.heap.size + 2 ≤ wr.heap.size
  sgs : ∀ j, j < 6 → wr.cell? ⟨w1.heap.size, j, none⟩ = some (.string (sg j))
  bs : VarAt wr (w1.heap.size + 1) (bls o k)
theorem Inv.below {o : Int} {w1 wr w' : World} {k : Nat} (h : Inv o w1 k wr) (hb : Below wr.heap.size wr w') : Inv o w1 k w' where
  bl := bthen h.bl hb
  sz := Nat.le_trans h.sz hb.size
  sgs := fun j hj => by rw [hb.cell (by show w1.heap.size < _; have := h.sz; omega)]; exact h.sgs j hj
  bs := h.bs.of (hb.block _ (by have := h.sz; omega))
theorem Inv.start (o : Int) (w1 : World) : Inv o w1 0 ((w1.alloc (.cells #[.string ⟨#[60]⟩, .string ⟨#[61, 61]⟩, .string ⟨#[62]⟩, .string ⟨#[60, 61]⟩, .string ⟨#[33, 61]⟩, .string ⟨#[62, 61]⟩] 9)).alloc (.cells #[.bool false, .bool false, .bool false, .bool false, .bool false, .bool false] 34)) where
  bl := below_two w1 _ _
  sz := by simp
  sgs := fun j hj => by
    rw [cell_of_row _ _ _ _ _ _ (show ((w1.alloc (.cells #[.string ⟨#[60]⟩, .string ⟨#[61, 61]⟩, .string ⟨#[62]⟩, .string ⟨#[60, 61]⟩, .string ⟨#[33, 61]⟩, .string ⟨#[62, 61]⟩] 9)).alloc (.cells #[.bool false, .bool false, .bool false, .bool false, .bool false, .bool false] 34)).heap[w1.heap.size]? = some _ by rw [Below.heap_alloc _ _ _ (by simp)]; exact heap_alloc_new w1 _)]
    have : j = 0 ∨ j = 1 ∨ j = 2 ∨ j = 3 ∨ j = 4 ∨ j = 5 := by omega
    rcases this with rfl | rfl | rfl | rfl | rfl | rfl <;> rfl
  bs := VarAt.block (T := 34) (by
    have := heap_alloc_new (w1.alloc (.cells #[.string ⟨#[60]⟩, .string ⟨#[61, 61]⟩, .string ⟨#[62]⟩, .string ⟨#[60, 61]⟩, .string ⟨#[33, 61]⟩, .string ⟨#[62, 61]⟩] 9)) (.cells #[.bool false, .bool false, .bool false, .bool false, .bool false, .bool false] 34)
    rw [World.size_alloc] at this
    exact this)
theorem Inv.put {o : Int} {w1 wr : World} {k : Nat} (h : Inv o w1 k wr) (hk : k < 6) : Inv o w1 (k + 1) (wr.setCell ⟨w1.heap.size + 1, k, none⟩ (.bool (rs o k))) where
  bl := h.bl.trans (set_below.mono (by omega))
  sz := by rw [set_size]; exact h.sz
  sgs := fun j hj => by rw [World.cell?_of_block (a := ⟨w1.heap.size, j, none⟩) (set_other _ (by show w1.heap.size ≠ _; omega))]; exact h.sgs j hj
  bs := by rw [← bls_set o k hk]; exact h.bs.set k _

set_option maxHeartbeats 1600000 in
theorem orders_walk (a b : Int) (w : World) (ha : fits a) (hb : fits b) : Calls Try.prog 5 #[.int .i64 a, .int .i64 b] w fun e w' => e = .returned (.bool true) ∧ Below w.heap.size w w' := by
  have K := Lib.hid (two_sg a b ha hb)
  clear ha hb
  generalize ord a b = o at *
  go_enter Try.func5, Try.ntmps5
  go_wp2_with fail
  refine (head_true _).mono ?_
  rintro e w1 ⟨rfl, hb1⟩
  have B1 := Lib.hid hb1
  clear hb1
  have I0 := Lib.hid (Inv.start o w1)
  go_wp2_with fail
  go_loopw [8] (fun i wr => ∃ k : Nat, k ≤ 6 ∧ i = .int .i64 k ∧ Inv o w1 k wr) (fun i _ => 6 - (intOf i).toNat)
  case atStart => exact ⟨0, by omega, rfl, I0.out⟩
  case round =>
    obtain ⟨k, hk, rfl, hI⟩ := hrel
    by_cases hk6 : k < 6
    · have hcell := hI.sgs k hk6
      have HI := Lib.hid hI
      have K1 := Lib.hid (K.out k)
      have hs0 := hI.sz
      clear hI I0
      have hbi : (b2i (rs o k) == 1) = rs o k := by cases rs o k <;> rfl
      have HBI := Lib.hid hbi
      clear hbi
      go_upto_region 7 with fail
      go_cut [9, 10] from 15 to 42 (fun p g wx => ∃ B, p = .pointer (some ⟨B, 0, none⟩) ∧ g = .int .i64 0 ∧ wr.heap.size ≤ B ∧ Below wr.heap.size wr wx ∧ At wx B 2 (b2i (rs o k)) nilS)
      case first =>
        have HQ : Hid (∀ w', Below wr.heap.size wr w' → w'.cell? ⟨w1.heap.size, k, none⟩ = some (.string (sg k))) := fun w' hb => (HI.out.below hb).sgs k hk6
        have hbl : Below wr.heap.size wr wr.drew := (Below.refl _ _).drew
        have hbz : Below wr.heap.size wr (wr.alloc zO).drew := (below_alloc wr zO).drew
        have HZ0 : Hid (At (wr.alloc zO).drew wr.heap.size 0 0 nilS) := (at_new wr 0 0 nilS).below ((Below.refl (wr.heap.size + 1) _).drew) (Nat.lt_succ_self _)
        generalize rs o k = R at *
        generalize sg k = G at *
        go_region_held3 (fun w' => w'.cell? ⟨w1.heap.size, k, none⟩ = some (.string G))
          (first | with_reducible exact HQ.out _ hbl | with_reducible exact HQ.out _ hbz | with_reducible exact HQ.out _ (meet_new hbl).2.1 | with_reducible exact HQ.out _ (meet_zero hbl) | with_reducible exact HQ.out _ (meet_cells hbl hsz HZ.out).2.1)
          (first | (go_at_call 11; refine (numC _ _).mono ?_; rintro e wn ⟨rfl, hbn⟩; first | (replace HZ := Lib.hid (HZ.out.below hbn HZ.out.lt); replace hbl := bthen hbl hbn) | (replace hbl := bthen hbl hbn) | (have HZ := Lib.hid (HZ0.out.below hbn HZ0.out.lt); have hsz := Nat.le_refl wr.heap.size; replace hbl := bthen hbz hbn) | (have HZ := Lib.hid ((at_new _ 0 0 nilS).below hbn (by simp)); have hsz := hbl.size; replace hbl := bthen (hbl.alloc hbl.size _) hbn)) | (go_at_call 10; refine (K1.out _).mono ?_; rintro e w8 ⟨rfl, hbn⟩; first | (replace HZ := Lib.hid (HZ.out.below hbn HZ.out.lt); obtain ⟨u0, u1, u2, v0, v1, v2⟩ := HZ.out.facts; replace hbl := bthen hbl hbn) | (replace hbl := bthen hbl hbn) | (have HZ := Lib.hid ((at_new _ 0 0 nilS).below hbn (by simp)); have hsz := hbl.size; obtain ⟨u0, u1, u2, v0, v1, v2⟩ := HZ.out.facts; replace hbl := bthen (hbl.alloc hbl.size _) hbn)))
        all_goals (go_wp2_with fail; go_meet)
        all_goals (refine ⟨_, rfl, rfl, ?_⟩; first | with_reducible exact meet_new hbl | with_reducible exact meet_cells hbl hsz HZ.out)
      case rest =>
        obtain ⟨B, rfl, rfl, hB, hW, hAt⟩ := hcut
        have I2 := Lib.hid (HI.out.below hW)
        obtain ⟨x0, x1, x2⟩ := hAt.cells
        obtain ⟨y0, y1⟩ := I2.out.bs.cell k (.bool (if k < k then rs o k else false)) (by unfold bls; simp [hk6])
        rw [if_neg (Nat.lt_irrefl k)] at y0
        have hbi := HBI.out
        clear hAt hW hB
        go_wp2
        exact ⟨⟨k + 1, by omega, by go_num, I2.out.put hk6⟩, by simp [intOf]; omega⟩
    · obtain rfl : k = 6 := by omega
      have HI := Lib.hid hI
      have hcells : ∀ j, j < 6 → wr.cell? ⟨w1.heap.size + 1, j, none⟩ = some (.bool (rs o j)) := fun j hj => (hI.bs.cell j (.bool (rs o j)) (by unfold bls; simp [hj])).1
      have HCS := Lib.hid hcells
      have HN : Hid (∀ j, cnt o (j + 1) = cnt o j + (if rs o j then 1 else 0)) := fun j => cnt_next o j
      clear hI I0 hk6 hk K hcells
      go_wp2
      go_loop [11, 12] (fun n i => ∃ j : Nat, j ≤ 3 ∧ i = .int .i64 j ∧ n = .int .i64 (cnt o j) ∧ cnt o j ≤ j) (fun _ i => 3 - (intOf i).toNat)
      case atStart => exact ⟨0, by omega, rfl, rfl, Nat.le_refl _⟩
      case round =>
        obtain ⟨j, hj, rfl, rfl, hle⟩ := hrel
        by_cases hj3 : j < 3
        · have hc := HCS.out j (by omega)
          have hn := HN.out j
          have HX := Lib.hid hn
          clear hn
          cases hr : rs o j with
          | true =>
            rw [hr] at hc
            rw [hr, if_pos rfl] at HX
            go_wp2
            go_round
            case rel => exact ⟨j + 1, by omega, by go_num, by rw [HX.out]; go_num, by rw [HX.out]; omega⟩
            case measure => simp [intOf]; omega
          | false =>
            rw [hr] at hc
            rw [hr, if_neg (by decide)] at HX
            go_wp2
            go_round
            case rel => exact ⟨j + 1, by omega, by go_num, by rw [HX.out]; rfl, by rw [HX.out]; omega⟩
            case measure => simp [intOf]; omega
        · obtain rfl : j = 3 := by omega
          have c0 := HCS.out 0 (by omega)
          have c1 := HCS.out 1 (by omega)
          have c2 := HCS.out 2 (by omega)
          have c3 := HCS.out 3 (by omega)
          have c4 := HCS.out 4 (by omega)
          have c5 := HCS.out 5 (by omega)
          obtain ⟨f1, f2, f3, f4⟩ := rs_facts o
          have HB : Hid (Below w.heap.size w wr) := bthen B1.out HI.out.bl
          generalize rs o 0 = r0 at *
          generalize rs o 1 = r1 at *
          generalize rs o 2 = r2 at *
          generalize rs o 3 = r3 at *
          generalize rs o 4 = r4 at *
          generalize rs o 5 = r5 at *
          generalize cnt o 3 = n at *
          clear hle hj hj3
          go_wp2
          all_goals (go_ret; exact ⟨rfl, HB.out⟩)
end Go.Proofs.Ytehihpfhcphdoaa
