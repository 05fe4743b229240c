/- The walk of SealThree: it returns true, and nothing that was there has changed. Conditions: none beyond what its arguments are, and their reach; the table of sixteen lies as the program lays it. -/
import Derived.Test.YtjilifodmmhnkaaDoorE
import Derived.Deep.DeepCutAuto
import Derived.RegionTactic
import Derived.BigRegion
import Derived.Deep.RegionWith
namespace Go.Proofs.YtjilifodmmhnkaaDoor
open Go.RowKit

/-- what is unlike of three, byte by byte, of the first k -/
def xor3 (a b c : List Int) (k : Nat) : List Int := (xors (nats (a.take k)) (nats (b.take k)) (nats (c.take k))).map fun x : Nat => (x : Int)
theorem xors_snoc : ∀ (x y z : List Nat) (a b c : Nat), x.length = y.length → y.length = z.length → xors (x ++ [a]) (y ++ [b]) (z ++ [c]) = xors x y z ++ [a ^^^ b ^^^ c]
  | [], [], [], _, _, _, _, _ => rfl
  | p :: x, q :: y, r :: z, a, b, c, h1, h2 => by
    show (p ^^^ q ^^^ r) :: xors (x ++ [a]) (y ++ [b]) (z ++ [c]) = _
    rw [xors_snoc x y z a b c (by simpa using h1) (by simpa using h2)]
    rfl
theorem xors_length : ∀ (x y z : List Nat), x.length = y.length → y.length = z.length → (xors x y z).length = x.length
  | [], [], [], _, _ => rfl
  | p :: x, q :: y, r :: z, h1, h2 => by
    show (xors x y z).length + 1 = x.length + 1
    rw [xors_length x y z (by simpa using h1) (by simpa using h2)]
theorem xors_lt : ∀ (x y z : List Nat), (∀ b ∈ x, b < 256) → (∀ b ∈ y, b < 256) → (∀ b ∈ z, b < 256) → ∀ b ∈ xors x y z, b < 256
  | [], _, _, _, _, _, b, hb => by simp [xors] at hb
  | _ :: _, [], _, _, _, _, b, hb => by simp [xors] at hb
  | _ :: _, _ :: _, [], _, _, _, b, hb => by simp [xors] at hb
  | p :: x, q :: y, r :: z, hx, hy, hz, b, hb => by
    rcases List.mem_cons.1 (show b ∈ (p ^^^ q ^^^ r) :: xors x y z from hb) with h | h
    · subst h
      exact Nat.xor_lt_two_pow (n := 8) (Nat.xor_lt_two_pow (n := 8) (hx p (List.mem_cons_self ..)) (hy q (List.mem_cons_self ..))) (hz r (List.mem_cons_self ..))
    · exact xors_lt x y z (fun b hb => hx b (List.mem_cons_of_mem _ hb)) (fun b hb => hy b (List.mem_cons_of_mem _ hb)) (fun b hb => hz b (List.mem_cons_of_mem _ hb)) b h
theorem nats_length (l : List Int) : (nats l).length = l.length := by simp [nats]
theorem xor3_zero (a b c : List Int) : xor3 a b c 0 = [] := by simp [xor3, nats, xors]
theorem xor3_length {a b c : List Int} {k : Nat} (ha : k ≤ a.length) (hb : k ≤ b.length) (hc : k ≤ c.length) : (xor3 a b c k).length = k := by
  unfold xor3
  rw [List.length_map, xors_length _ _ _ (by simp [nats_length]; omega) (by simp [nats_length]; omega), nats_length]
  simp; omega
theorem xor3_next {a b c : List Int} {k : Nat} {x y z : Nat} (ha : a[k]? = some (x : Int)) (hb : b[k]? = some (y : Int)) (hc : c[k]? = some (z : Int)) : xor3 a b c (k + 1) = xor3 a b c k ++ [((x ^^^ y ^^^ z : Nat) : Int)] := by
  have la := (List.getElem?_eq_some_iff.1 ha).1
  have lb := (List.getElem?_eq_some_iff.1 hb).1
  have lc := (List.getElem?_eq_some_iff.1 hc).1
  unfold xor3
  rw [take_next ha, take_next hb, take_next hc]
  have e : ∀ (l : List Int) (n : Nat), nats (l ++ [(n : Int)]) = nats l ++ [n] := by intro l n; simp [nats]
  rw [e, e, e, xors_snoc _ _ _ _ _ _ (by simp [nats_length]; omega) (by simp [nats_length]; omega)]
  simp
theorem xor3_byt {a b c : List Int} {k : Nat} (ha : Byt a) (hb : Byt b) (hc : Byt c) : Byt (xor3 a b c k) := by
  intro x hx
  obtain ⟨n, hn, rfl⟩ := List.mem_map.1 hx
  have := xors_lt _ _ _ (nats_lt (ha.sub fun y hy => List.mem_of_mem_take hy)) (nats_lt (hb.sub fun y hy => List.mem_of_mem_take hy)) (nats_lt (hc.sub fun y hy => List.mem_of_mem_take hy)) n hn
  omega
theorem xor3_crc {a b c : List Int} {k : Nat} (ha : Byt a) (hb : Byt b) (hc : Byt c) (la : k ≤ a.length) (lb : k ≤ b.length) (lc : k ≤ c.length) : crcI (xor3 a b c k) = crcI (a.take k) ^^^ crcI (b.take k) ^^^ crcI (c.take k) := by
  unfold crcI xor3
  have e : ∀ l : List Nat, nats (l.map fun x : Nat => (x : Int)) = l := by
    intro l
    unfold nats
    rw [List.map_map]
    conv => rhs; rw [← List.map_id l]
    exact List.map_congr_left fun x _ => by simp
  rw [e]
  exact crc_three _ _ _ (by simp [nats_length]; omega) (by simp [nats_length]; omega) (nats_lt (ha.sub fun y hy => List.mem_of_mem_take hy)) (nats_lt (hb.sub fun y hy => List.mem_of_mem_take hy)) (nats_lt (hc.sub fun y hy => List.mem_of_mem_take hy))
theorem xor3_u8 (x y z : Nat) (hx : x < 256) (hy : y < 256) (hz : z < 256) : bits .xor .u8 (bits .xor .u8 (x : Int) (y : Int)) (z : Int) = ((x ^^^ y ^^^ z : Nat) : Int) := by
  rw [u8_xor_nat x y hx hy, u8_xor_nat _ z (Nat.xor_lt_two_pow (n := 8) hx hy) hz]
theorem xor3_u32 (x y z : Nat) (hx : x < 4294967296) (hy : y < 4294967296) (hz : z < 4294967296) : bits .xor .u32 (bits .xor .u32 (x : Int) (y : Int)) (z : Int) = ((x ^^^ y ^^^ z : Nat) : Int) := by
  rw [u32_xor_nat x y hx hy, u32_xor_nat _ z (Nat.xor_lt_two_pow (n := 32) hx hy) hz]

/-- what the loop keeps: the row that it fills, of its own -/
def ThreeRel (w0 : World) (base : Nat) (v : Value) (n : Nat) (a b c : List Int) (k : Nat) (wr : World) : Prop :=
  wr.ownsRow base 5 1 v n (cellsOf (xor3 a b c k ++ List.replicate (n - k) 0)) ∧ w0.grownBy wr v.ownBlock
theorem ThreeRel.step {w0 wr : World} {base g n cap : Nat} {a b c : List Int} {k : Nat} {x y z : Nat} (h : ThreeRel w0 base (.slice (some ⟨g, 0, none⟩) n cap) n a b c k wr) (hk : k < n) (la : n ≤ a.length) (lb : n ≤ b.length) (lc : n ≤ c.length)
    (ha : a[k]? = some (x : Int)) (hb : b[k]? = some (y : Int)) (hc : c[k]? = some (z : Int)) :
    ThreeRel w0 base (.slice (some ⟨g, 0, none⟩) n cap) n a b c (k + 1) (wr.setCell ⟨g, k, none⟩ (.int .u8 ((x ^^^ y ^^^ z : Nat) : Int))) := by
  obtain ⟨h1, h2⟩ := h
  have hst := h1.stored k (.int .u8 ((x ^^^ y ^^^ z : Nat) : Int))
  refine ⟨?_, grown_trans h2 hst.2⟩
  have e : (cellsOf (xor3 a b c k ++ List.replicate (n - k) 0)).set k (.int .u8 ((x ^^^ y ^^^ z : Nat) : Int)) = cellsOf (xor3 a b c (k + 1) ++ List.replicate (n - (k + 1)) 0) := by
    rw [xor3_next ha hb hc]
    have hl := xor3_length (a := a) (b := b) (c := c) (k := k) (by omega) (by omega) (by omega)
    rw [show n - k = (n - (k + 1)) + 1 by omega, List.replicate_succ]
    unfold cellsOf
    rw [List.map_append, List.set_append_right _ _ (by simp [hl])]
    simp [hl]
  rw [← e]
  exact hst.1
theorem madeCells_u8 (n : Nat) : (madeCells (Value.cells (.int .u8 0)) (n * 1)).toList = List.replicate n (.int .u8 0) := by
  simp [Value.cells, toList_madeCells_one]
theorem ThreeRel.drew {w0 wr : World} {base n : Nat} {v : Value} {a b c : List Int} {k : Nat} (h : ThreeRel w0 base v n a b c k wr) : ThreeRel w0 base v n a b c k wr.drew :=
  ⟨h.1, ⟨h.2.os, h.2.tape, h.2.output, h.2.size, h.2.block⟩⟩
/-- 'Sum' as a quiet call -/
theorem sumQ {A : Option Addr} {l : List Int} {n c : Nat} {w : World} {B : Nat} (hn : l.length = n) (hc : n ≤ c) (hcm : c ≤ maxLen) (hl : Lies w B A c (cellsOf l)) (hy : Byt l) (ht : Tab w) (nq : Nat) :
    Calls Tryd.prog 13 #[.slice A n c] (w.drewN nq) fun e w' => e = .returned (.int .u32 (crcI l : Nat)) ∧ w' = w.drewN nq := by
  subst hn
  exact (sum A l c _ B hc hcm (hl.below (below_drewN (Below.refl _ _) nq)) hy ⟨ht.1, ht.2⟩).mono fun e w' ⟨he, hw⟩ => ⟨he, hw.symm⟩
theorem grown_drew {w0 wr : World} {r : Option Nat} (h : w0.grownBy wr r) (n : Nat) : w0.grownBy (wr.drewN n) r := ⟨h.os, h.tape, h.output, h.size, h.block⟩

set_option maxRecDepth 100000 in
set_option maxHeartbeats 2000000 in
theorem three_walk (A0 A1 A2 : Option Addr) (a b c : List Int) (c0 c1 c2 : Nat) (w : World) (ha : a.length ≤ c0) (hb : b.length ≤ c1) (hc : c.length ≤ c2) (ma : c0 ≤ maxLen) (mb : c1 ≤ maxLen) (mc : c2 ≤ maxLen) (hr : c0 ≤ 140737488351232)
    (la : Lies w w.heap.size A0 c0 (cellsOf a)) (lb : Lies w w.heap.size A1 c1 (cellsOf b)) (lc : Lies w w.heap.size A2 c2 (cellsOf c)) (ya : Byt a) (yb : Byt b) (yc : Byt c) (ht : Tab w) :
    Calls Tryd.prog 6 #[.slice A0 a.length c0, .slice A1 b.length c1, .slice A2 c.length c2] w fun e w' => e = .returned (.bool true) ∧ Below w.heap.size w w' := by
  have HT := Lib.hid ht
  have hpos := ht.1
  have HA := Lib.hid la
  have HB := Lib.hid lb
  have HC := Lib.hid lc
  have YA := Lib.hid ya
  have YB := Lib.hid yb
  have YC := Lib.hid yc
  clear la lb lc ya yb yc ht
  obtain ⟨i0, hi, hz0, hz1, hz2⟩ := info_parts info5
  go_enter Tryd.func6, Tryd.ntmps6
  go_wp2_with fail
  refine (head_true _ HT.out).mono ?_
  rintro e w1 ⟨rfl, hb1⟩
  have s1 := hb1.size
  have m1 := ma
  have m2 := mb
  have m3 := mc
  unfold maxLen at m1 m2 m3
  go_upto_region 2 with fail
  go_cut [8] (fun n wx => ∃ k : Nat, n = .int .i64 k ∧ k ≤ a.length ∧ k ≤ b.length ∧ k ≤ c.length ∧ w1 = wx)
  case first =>
    go_wp2
    all_goals go_meet
    · exact ⟨_, rfl, by omega, by omega, by omega, rfl⟩
    · exact ⟨_, rfl, by omega, by omega, by omega, rfl⟩
    · exact ⟨_, rfl, by omega, by omega, by omega, rfl⟩
  case rest =>
    obtain ⟨n, rfl, na, nb, nc, rfl⟩ := hcut
    have KA := Lib.hid (HA.out.below hb1)
    have KB := Lib.hid (HB.out.below hb1)
    have KC := Lib.hid (HC.out.below hb1)
    go_wp2_with (at_make; refine wpList_make_full _ rfl _ _ 22 rfl w1.heap.size 5 i0 (.int .u8 0) 1 Tryd.underlying22 hi hz0 hz1 _ _ _ _ n rfl rfl rfl rfl (by rw [hz2]; omega) (by unfold maxLen; omega) (Nat.le_refl _) ?_; intro w2 ho2 hg2)
    have hb2 : Below w1.heap.size w1 w2 := (Below.refl _ _).grown hg2 (Nat.le_refl _) (fun k hk => by cases hk)
    have hst : ThreeRel w2 w1.heap.size (.slice (some ⟨w1.heap.size, 0, none⟩) n n) n a b c 0 w2 := ⟨own_eq ho2 rfl (by rw [xor3_zero, madeCells_u8]; simp), World.grownBy.refl _ _⟩
    have HB2 := Lib.hid hb2
    clear ho2 hg2 hb2
    generalize hgg : w1.heap.size = g at *
    have HG := Lib.hid hgg
    clear hgg
    go_loopw [10] (fun i wr => ∃ k : Nat, k ≤ n ∧ i = .int .i64 k ∧ ThreeRel w2 g (.slice (some ⟨g, 0, none⟩) n n) n a b c k wr) (fun i _ => n - (intOf i).toNat)
    case atStart => exact ⟨0, Nat.zero_le _, rfl, hst⟩
    case round =>
      clear hst
      obtain ⟨k, hk, rfl, hR⟩ := hrel
      have hbw : Below g w1 wr := HB2.out.grown hR.2 (by have := HB2.out.size; have := HG.out; omega) (fun g' hg' => by simp [Value.ownBlock] at hg'; omega)
      by_cases hkl : k < n
      · obtain ⟨ad0, x, rfl, hB0, hx, gx, cx⟩ := KA.out.byte YA.out (k := k) (by omega)
        obtain ⟨ad1, y, rfl, hB1, hy, gy, cy⟩ := KB.out.byte YB.out (k := k) (by omega)
        obtain ⟨ad2, z, rfl, hB2, hz, gz, cz⟩ := KC.out.byte YC.out (k := k) (by omega)
        have HR := Lib.hid (hR.step (x := x) (y := y) (z := z) hkl na nb nc gx gy gz)
        have cx' : wr.cell? (ad0.add k) = some (.int .u8 x) := by rw [hbw.cell (by rw [addr_block]; omega)]; exact cx
        have cy' : wr.cell? (ad1.add k) = some (.int .u8 y) := by rw [hbw.cell (by rw [addr_block]; omega)]; exact cy
        have cz' : wr.cell? (ad2.add k) = some (.int .u8 z) := by rw [hbw.cell (by rw [addr_block]; omega)]; exact cz
        have hfz := hR.1.frozenAt k
        have hcell := hR.1.cellAt k (by omega)
        obtain ⟨u, hu⟩ : ∃ u, (cellsOf (xor3 a b c k ++ List.replicate (n - k) 0))[k]? = some u := ⟨_, List.getElem?_eq_getElem (by rw [hR.1.1]; omega)⟩
        rw [hu] at hcell
        have hX := xor3_u8 x y z hx hy hz
        clear gx gy gz cx cy cz hu hR hbw
        go_wp2
        go_region
        all_goals
          clear hX
          go_wp2
          go_roundw
          case rel => exact ⟨k + 1, by omega, by go_num, HR.out.drew⟩
          case measure => simp [intOf]; omega
      · obtain rfl : k = n := by omega
        obtain ⟨r1, r2⟩ := hR
        have hle := HB2.out.size
        have hg := HG.out
        have hbf : Below w.heap.size w wr := hb1.trans (hbw.mono s1)
        have r1' := own_eq r1 (m := k) (ys := cellsOf (xor3 a b c k)) rfl (by simp)
        obtain ⟨Ad, cd, hv, d1, d2, d3⟩ := own_lies r1'
        have ld := xor3_length na nb nc
        have hA : Ad = some ⟨g, 0, none⟩ := by injection hv with e1 _ _; exact e1.symm
        have hC : cd = k := by injection hv with _ _ e3; exact e3.symm
        rw [hA, hC] at d3
        rw [hC] at d2
        have KD := fun nq => sumQ (w := wr) (n := k) ld (Nat.le_refl _) d2 d3 (xor3_byt YA.out YB.out YC.out) (HT.out.below hbf hpos) nq
        have KA := fun nq => sumQ (w := wr) (l := a.take k) (n := k) (by simp; omega) (by omega) ma ((HA.out.below hbf).pre k) (YA.out.sub fun y hy => List.mem_of_mem_take hy) (HT.out.below hbf hpos) nq
        have KB := fun nq => sumQ (w := wr) (l := b.take k) (n := k) (by simp; omega) (by omega) mb ((HB.out.below hbf).pre k) (YB.out.sub fun y hy => List.mem_of_mem_take hy) (HT.out.below hbf hpos) nq
        have KC := fun nq => sumQ (w := wr) (l := c.take k) (n := k) (by simp; omega) (by omega) mc ((HC.out.below hbf).pre k) (YC.out.sub fun y hy => List.mem_of_mem_take hy) (HT.out.below hbf hpos) nq
        have hX := xor3_u32 _ _ _ (crcI_lt (a.take k)) (crcI_lt (b.take k)) (crcI_lt (c.take k))
        rw [xor3_crc YA.out YB.out YC.out na nb nc] at KD
        generalize crcI (a.take k) = sa at *
        generalize crcI (b.take k) = sb at *
        generalize crcI (c.take k) = sc at *
        have KD := Lib.hid KD
        have KA := Lib.hid KA
        have KB := Lib.hid KB
        have KC := Lib.hid KC
        clear r1 r1' r2 d3 hv hbw hA hC
        have k0 : (k : Int) ≤ (c0 : Int) := by omega
        have k1 : (k : Int) ≤ (c1 : Int) := by omega
        have k2 : (k : Int) ≤ (c2 : Int) := by omega
        go_wp2
        go_quiet (first
          | (go_at_call_of 13 A0; refine Calls.quiet_of_same (KA.out _))
          | (go_at_call_of 13 A1; refine Calls.quiet_of_same (KB.out _))
          | (go_at_call_of 13 A2; refine Calls.quiet_of_same (KC.out _))
          | (go_at_call 13; refine Calls.quiet_of_same (KD.out _)))
        go_wp2
        go_ret
        exact ⟨rfl, below_drewN hbf _⟩
end Go.Proofs.YtjilifodmmhnkaaDoor
