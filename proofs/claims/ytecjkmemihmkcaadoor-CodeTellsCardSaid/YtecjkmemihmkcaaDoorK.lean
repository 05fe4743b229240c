/- What reading a row gives ('Row'), at every offset. Conditions: none beyond what a slice is. -/
import Derived.Test.YtecjkmemihmkcaaDoorJ
namespace Go.Proofs.YtecjkmemihmkcaaDoor
set_option maxRecDepth 100000
open Go.RowKit

theorem own_below {w w' : World} {base : Nat} {e : TypeId} {size : Nat} {v : Value} {n : Nat} {xs : List Value} {B : Nat} (h : w.ownsRow base e size v n xs) (hb : Below B w w') (hB : w.heap.size ≤ B) : w'.ownsRow base e size v n xs := by
  refine ⟨h.1, ?_⟩
  rcases h.2 with h' | ⟨g, cap, cur, rfl, h1, hg, rest⟩
  · exact .inl h'
  · refine .inr ⟨g, cap, cur, rfl, h1, ?_, rest⟩
    rw [hb.block g (Nat.lt_of_lt_of_le (h.lt g rfl).2 hB)]
    exact hg

/-- a store into a row of slices touches no byte string -/
theorem Lies.stored {w : World} {base g n : Nat} {xs : List Value} (ho : w.ownsRow base 26 1 (.slice (some ⟨g, 0, none⟩) n n) n xs) (hx : ∀ x ∈ xs, ∃ A m c, x = Value.slice A m c)
    {B : Nat} {A : Option Addr} {c : Nat} {l : List Int} (h : Lies w B A c (cellsOf l)) (j : Nat) (u : Value) : Lies (w.setCell ⟨g, j, none⟩ u) B A c (cellsOf l) := by
  refine ⟨h.1, fun i v hv => ?_⟩
  obtain ⟨ad, rfl, hB, hc⟩ := h.2 i v hv
  refine ⟨ad, rfl, hB, ?_⟩
  by_cases hg : ad.block = g
  · exfalso
    obtain ⟨b, hb, rfl⟩ : ∃ b, b ∈ l ∧ Value.int .u8 b = v := by
      have := List.mem_of_getElem? hv
      simpa [cellsOf] using this
    rcases ho.2 with ⟨h', _⟩ | ⟨g', cap', cur, h', _, hh, _, _, hs, ht⟩
    · simp at h'
    · simp only [Value.slice.injEq, Option.some.injEq, Addr.mk.injEq, and_true, true_and] at h'
      obtain ⟨rfl, rfl⟩ := h'
      have hcur : cur.toList = xs := by rw [← ht, List.take_of_length_le]; simp [hs]
      have hspot : (ad.add i).spot = none := World.cell?_spot hc
      have had : ad.add i = ⟨g, (ad.add i).off, none⟩ := by
        have hbl := addr_block ad i
        rw [hg] at hbl
        rw [← hbl, ← hspot]
      rw [had, cell_of_row w g _ cur 26 (0, 0) hh] at hc
      have hm : Value.int .u8 b ∈ xs := by rw [← hcur]; exact List.mem_of_getElem? (by rw [Array.getElem?_toList]; exact hc)
      obtain ⟨_, _, _, e⟩ := hx _ hm
      cases e
  · rw [World.cell?_setCell_other]
    · exact hc
    · intro e
      apply hg
      rw [← addr_block ad i, ← e]

/-- where the k-th byte string begins -/
def offs (l : List Int) (q : Int) : Nat → Int
  | 0 => q
  | k + 1 => bytesB l (offs l q k)
/-- the first error among the first k -/
def ferr (l : List Int) (q : Int) : Nat → Int
  | 0 => 0
  | k + 1 => if ferr l q k = 0 then bytesE l (offs l q k) else ferr l q k
/-- the first k of them -/
def items (l : List Int) (q : Int) (k : Nat) : List (List Int) := (List.range k).map fun j => bytesA l (offs l q j)

theorem items_length (l : List Int) (q : Int) (k : Nat) : (items l q k).length = k := by simp [items]
theorem items_at {l : List Int} {q : Int} {k j : Nat} (h : j < k) : (items l q k)[j]? = some (bytesA l (offs l q j)) := by simp [items, h]
theorem ferr_up {l : List Int} {q : Int} {k : Nat} (h : ferr l q (k + 1) = 0) : ferr l q k = 0 ∧ bytesE l (offs l q k) = 0 := by
  simp only [ferr] at h
  split at h
  · exact ⟨by assumption, h⟩
  · rename_i h0; exact absurd h h0
theorem ferr_le {l : List Int} {q : Int} : ∀ {k j : Nat}, j ≤ k → ferr l q k = 0 → ferr l q j = 0
  | 0, j, hj, h => by obtain rfl : j = 0 := by omega
                      exact h
  | k + 1, j, hj, h => by
    by_cases e : j = k + 1
    · subst e; exact h
    · exact ferr_le (by omega) (ferr_up h).1
theorem offs_in {l : List Int} {q : Int} (hq0 : 0 ≤ q) (hq : q ≤ l.length) : ∀ {k : Nat}, ferr l q k = 0 → 0 ≤ offs l q k ∧ offs l q k ≤ l.length
  | 0, _ => ⟨hq0, hq⟩
  | k + 1, h => by
    have h1 := ferr_up h
    have h2 := bytesE_0 h1.2
    simp only [offs, bytesB]
    omega
theorem item_length {l : List Int} {q : Int} {k : Nat} (h : bytesE l (offs l q k) = 0) : (bytesA l (offs l q k)).length = cnt l (offs l q k) := bytesA_length h

/-- the error of a row that stands at p -/
def rowE (l : List Int) (p : Int) : Int := if cntE l p 1024 = 0 then ferr l (p + 4) (cnt l p) else cntE l p 1024
theorem rowE_0 {l : List Int} {p : Int} (h : rowE l p = 0) : cntE l p 1024 = 0 ∧ ferr l (p + 4) (cnt l p) = 0 := by
  unfold rowE at h
  split at h
  · exact ⟨by assumption, h⟩
  · rename_i h0; exact absurd h h0

/-- what the loop of 'Row' keeps -/
def RowRel (w : World) (l : List Int) (q : Int) (n k : Nat) (wr : World) : Prop :=
  ∃ vs : List Value, vs.length = k ∧ wr.ownsRow w.heap.size 26 1 (.slice (some ⟨w.heap.size, 0, none⟩) n n) n (vs ++ List.replicate (n - k) (.slice none 0 0)) ∧ Below w.heap.size w wr ∧
    ∀ j v, vs[j]? = some v → ∃ A c, v = .slice A (bytesA l (offs l q j)).length c ∧ (bytesA l (offs l q j)).length ≤ c ∧ c ≤ maxLen ∧ Lies wr wr.heap.size A c (cellsOf (bytesA l (offs l q j)))

theorem RowRel.slices {w : World} {l : List Int} {q : Int} {n k : Nat} {vs : List Value}
    (h : ∀ (j : Nat) (v : Value), vs[j]? = some v → ∃ (A : Option Addr) (c : Nat), v = Value.slice A (bytesA l (offs l q j)).length c ∧ (bytesA l (offs l q j)).length ≤ c ∧ c ≤ maxLen ∧ Lies w w.heap.size A c (cellsOf (bytesA l (offs l q j)))) :
    ∀ x ∈ vs ++ List.replicate (n - k) (Value.slice none 0 0), ∃ A m c, x = Value.slice A m c := by
  intro x hx
  rcases List.mem_append.1 hx with hx | hx
  · obtain ⟨j, hj⟩ := List.getElem?_of_mem hx
    obtain ⟨A, c, e, _⟩ := h j x hj
    exact ⟨A, _, c, e⟩
  · exact ⟨_, _, _, List.eq_of_mem_replicate hx⟩

theorem RowRel.start {w w1 : World} {l : List Int} {q : Int} {n : Nat} (ho : w1.ownsRow w.heap.size 26 1 (.slice (some ⟨w.heap.size, 0, none⟩) n n) n (List.replicate n (.slice none 0 0))) (hg : w.grownBy w1 none) : RowRel w l q n 0 w1 :=
  ⟨[], rfl, by simpa using ho, (Below.refl _ _).grown hg (Nat.le_refl _) (fun k hk => by cases hk), fun j v hv => by simp at hv⟩

theorem RowRel.cell {w wr w2 : World} {l : List Int} {q : Int} {n k : Nat} (h : RowRel w l q n k wr) (hb : Below wr.heap.size wr w2) (hk : k < n) :
    w2.cell? ⟨w.heap.size, k, none⟩ = some (.slice none 0 0) ∧ w2.frozen? ⟨w.heap.size, k, none⟩ = false := by
  obtain ⟨vs, hv, ho, _⟩ := h
  have ho2 := own_below ho hb (Nat.le_refl _)
  refine ⟨?_, ho2.frozenAt k⟩
  rw [ho2.cellAt k (by omega)]
  subst hv
  rw [List.getElem?_append_right (Nat.le_refl _), Nat.sub_self, List.getElem?_replicate, if_pos (by omega)]

theorem RowRel.step {w wr w2 : World} {l : List Int} {q : Int} {n k : Nat} {A : Option Addr} {c : Nat} (h : RowRel w l q n k wr) (hb : Below wr.heap.size wr w2) (hk : k < n)
    (h1 : (bytesA l (offs l q k)).length ≤ c) (h2 : c ≤ maxLen) (h3 : Lies w2 w2.heap.size A c (cellsOf (bytesA l (offs l q k)))) :
    RowRel w l q n (k + 1) (w2.setCell ⟨w.heap.size, k, none⟩ (.slice A (bytesA l (offs l q k)).length c)) := by
  obtain ⟨vs, hv, ho, hbw, hall⟩ := h
  have hsl := RowRel.slices (n := n) (k := k) hall
  have ho2 := own_below ho hb (Nat.le_refl _)
  have hsz := hbw.size
  have hst := ho2.stored k (.slice A (bytesA l (offs l q k)).length c)
  refine ⟨vs ++ [.slice A (bytesA l (offs l q k)).length c], by simp [hv], ?_, (hbw.trans (hb.mono hsz)).setCell (Nat.le_refl _) _, fun j v hj => ?_⟩
  · have e : (vs ++ List.replicate (n - k) (Value.slice none 0 0)).set k (.slice A (bytesA l (offs l q k)).length c) = vs ++ [.slice A (bytesA l (offs l q k)).length c] ++ List.replicate (n - (k + 1)) (Value.slice none 0 0) := by
      subst hv
      rw [List.set_append_right _ _ (Nat.le_refl _), Nat.sub_self, show n - vs.length = (n - (vs.length + 1)) + 1 by omega, List.replicate_succ]
      simp
    rw [← e]
    exact hst.1
  · have hsz2 : (w2.setCell ⟨w.heap.size, k, none⟩ (.slice A (bytesA l (offs l q k)).length c)).heap.size = w2.heap.size := by simp [World.setCell]
    rw [hsz2]
    by_cases hjk : j < k
    · rw [List.getElem?_append_left (by omega)] at hj
      obtain ⟨A', c', rfl, g1, g2, g3⟩ := hall j v hj
      exact ⟨A', c', rfl, g1, g2, Lies.stored ho2 hsl ((g3.below hb).more hb.size) _ _⟩
    · have hjk' : j = k := by
        have := (List.getElem?_eq_some_iff.1 hj).1
        simp [hv] at this
        omega
      subst hjk'
      rw [List.getElem?_append_right (by omega)] at hj
      simp [hv] at hj
      subst hj
      exact ⟨A, c, rfl, h1, h2, Lies.stored ho2 hsl h3 _ _⟩

theorem RowRel.fin {w wr : World} {l : List Int} {q : Int} {n : Nat} (h : RowRel w l q n n wr) : Grid wr wr.heap.size (some ⟨w.heap.size, 0, none⟩) n (items l q n) := by
  obtain ⟨vs, hv, ho, _, hall⟩ := h
  refine ⟨(fun e => by cases e), fun i l' hi => ?_⟩
  have hin : i < n := by
    have := (List.getElem?_eq_some_iff.1 hi).1
    simpa [items_length] using this
  rw [items_at hin] at hi
  injection hi with hi
  subst hi
  obtain ⟨v, hvi⟩ : ∃ v, vs[i]? = some v := ⟨_, List.getElem?_eq_getElem (by omega)⟩
  obtain ⟨A, c, rfl, g1, g2, g3⟩ := hall i v hvi
  refine ⟨_, A, c, rfl, (ho.lt w.heap.size rfl).2, ?_, g1, g2, g3⟩
  rw [Addr.add_lit, Nat.zero_add, ho.cellAt i (by omega), List.getElem?_append_left (by omega)]
  exact hvi

theorem info22 : (Tryd.prog.info? 26).map (fun i => (i.zero, i.size, i.bytes)) = some (some (.slice none 0 0), 1, 24) := by kernel_rfl

/-- what reading a row returns -/
def RowOk (w : World) (l : List Int) (p : Int) (e : Ending) (w' : World) : Prop :=
  ∃ A' c', e = .returned (.tuple #[.slice A' (cnt l p) c', .int .i64 (offs l (p + 4) (cnt l p)), .int .i64 0]) ∧ cnt l p ≤ c' ∧ c' ≤ maxLen ∧ Grid w' w'.heap.size A' c' (items l (p + 4) (cnt l p)) ∧ Below w.heap.size w w'

set_option maxHeartbeats 800000 in
theorem row_ok (A : Option Addr) (l : List Int) (c : Nat) (p : Int) (w : World) (hc : l.length ≤ c) (hcm : c ≤ maxLen) (hp1 : -9223372036854775808 ≤ p) (hp2 : p ≤ 9223372036854775807) (hl : Lies w w.heap.size A c (cellsOf l)) (hby : Byt l) (he : rowE l p = 0) :
    Calls Tryd.prog 33 #[.slice A l.length c, .int .i64 p] w (RowOk w l p) := by
  obtain ⟨h1, h2⟩ := rowE_0 he
  obtain ⟨g1, g2, g3⟩ := cntE_0 h1
  have K1 := Lib.hid (readCount_ok A l c p 1024 w w.heap.size hc hcm hp1 hp2 hl hby h1)
  have HF : Hid (∀ k, k ≤ cnt l p → ferr l (p + 4) k = 0) := fun k hk => ferr_le hk h2
  have HO : Hid (∀ k, k ≤ cnt l p → 0 ≤ offs l (p + 4) k ∧ offs l (p + 4) k ≤ l.length) := fun k hk => offs_in (by omega) (by omega) (ferr_le hk h2)
  have HE : Hid (∀ k, k < cnt l p → bytesE l (offs l (p + 4) k) = 0) := fun k hk => (ferr_up (ferr_le (k := cnt l p) (by omega) h2)).2
  have HL := Lib.hid hl
  have HY := Lib.hid hby
  have hcm' := hcm
  clear hl hby he h1 h2
  unfold maxLen at hcm
  generalize hmm : cnt l p = n at *
  have HMM := Lib.hid hmm
  clear hmm
  obtain ⟨i0, hi, hz0, hz1, hz2⟩ := info_parts info22
  go_enter Tryd.func33, Tryd.ntmps33
  go_wp2_with fail
  refine K1.out.mono ?_
  rintro e w1 ⟨rfl, rfl⟩
  go_wp2_with (at_make; refine wpList_make_full _ rfl _ _ 23 rfl w.heap.size 26 i0 (.slice none 0 0) 1 Tryd.underlying23 hi hz0 hz1 _ _ _ _ n rfl rfl (by omega) (by omega) (by rw [hz2]; omega) (by unfold maxLen; omega) (Nat.le_refl _) ?_; intro w1 ho1 hg1)
  have hst : RowRel w l (p + 4) n 0 w1 := RowRel.start (by simpa [Value.cells, toList_madeCells_one] using ho1) hg1
  clear ho1 hg1
  go_wp2
  go_loopw [8, 9, 26] (fun nx er i wr => ∃ k : Nat, k ≤ n ∧ i = .int .i64 k ∧ nx = .int .i64 (offs l (p + 4) k) ∧ er = .int .i64 0 ∧ RowRel w l (p + 4) n k wr) (fun _ _ i _ => n - (intOf i).toNat)
  case atStart => exact ⟨0, Nat.zero_le _, rfl, rfl, rfl, hst⟩
  case round =>
    clear hst
    obtain ⟨k, hk, rfl, rfl, rfl, hR⟩ := hrel
    by_cases hkn : k < n
    · have hoff := HO.out k hk
      obtain ⟨o1, o2⟩ := hoff
      have hbel : Below w.heap.size w wr := hR.choose_spec.2.2.1
      have K2 := Lib.hid (bytes_ok A l c (offs l (p + 4) k) wr hc hcm' (by omega) (by omega) ((HL.out.below hbel).more hbel.size) HY.out (HE.out k hkn))
      have HLN := Lib.hid (bytesA_length (HE.out k hkn))
      have HNX : Hid (offs l (p + 4) (k + 1) = bytesB l (offs l (p + 4) k)) := rfl
      have HR := Lib.hid hR
      clear hR hbel
      go_wp2_with fail
      refine K2.out.mono ?_
      rintro e w2 ⟨A2, c2, rfl, q1, q2, q3, q4⟩
      obtain ⟨z1, z2⟩ := HR.out.cell q4 hkn
      rw [← HLN.out] at q1 ⊢
      have hst := HR.out.step (A := A2) (c := c2) q4 hkn q1 q2 q3
      clear q1 q2 q3 q4
      go_wp2
      go_roundw
      case rel => exact ⟨k + 1, by omega, by go_num, by rw [HNX.out], rfl, hst⟩
      case measure => simp [intOf]; omega
    · obtain rfl : k = n := by omega
      have hbel : Below w.heap.size w wr := hR.choose_spec.2.2.1
      have hG := hR.fin
      clear hR
      go_wp2
      go_ret3
      exact ⟨_, k, by rw [HMM.out]; rfl, by rw [HMM.out]; exact Nat.le_refl _, by unfold maxLen; omega, by rw [HMM.out]; exact hG, hbel⟩

theorem ferr_first {l : List Int} {q : Int} : ∀ {n : Nat}, ferr l q n ≠ 0 → ∃ k, k < n ∧ ferr l q k = 0 ∧ bytesE l (offs l q k) ≠ 0 ∧ ferr l q n = bytesE l (offs l q k)
  | 0, h => absurd rfl h
  | n + 1, h => by
    by_cases h0 : ferr l q n = 0
    · have e : ferr l q (n + 1) = bytesE l (offs l q n) := if_pos h0
      exact ⟨n, by omega, h0, by rw [← e]; exact h, e⟩
    · have e : ferr l q (n + 1) = ferr l q n := if_neg h0
      obtain ⟨k, hk, h1, h2, h3⟩ := ferr_first h0
      exact ⟨k, by omega, h1, h2, e.trans h3⟩

/-- what a call returns that reads a row, and finds none -/
def RowErr (w : World) (r : Int) (e : Ending) (w' : World) : Prop := e = .returned (.tuple #[.slice none 0 0, .int .i64 0, .int .i64 r]) ∧ Below w.heap.size w w'

set_option maxHeartbeats 800000 in
theorem row_err (A : Option Addr) (l : List Int) (c : Nat) (p : Int) (w : World) (hc : l.length ≤ c) (hcm : c ≤ maxLen) (hp1 : -9223372036854775808 ≤ p) (hp2 : p ≤ 9223372036854775807) (hl : Lies w w.heap.size A c (cellsOf l)) (hby : Byt l) (he : rowE l p ≠ 0) :
    Calls Tryd.prog 33 #[.slice A l.length c, .int .i64 p] w (RowErr w (rowE l p)) := by
  by_cases h1 : cntE l p 1024 = 0
  · have hE : rowE l p = ferr l (p + 4) (cnt l p) := if_pos h1
    rw [hE] at he ⊢
    clear hE
    obtain ⟨k0, hk0, f1, f2, f3⟩ := ferr_first he
    rw [f3]
    obtain ⟨g1, g2, g3⟩ := cntE_0 h1
    have K1 := Lib.hid (readCount_ok A l c p 1024 w w.heap.size hc hcm hp1 hp2 hl hby h1)
    have HO : Hid (∀ k, k ≤ k0 → 0 ≤ offs l (p + 4) k ∧ offs l (p + 4) k ≤ l.length) := fun k hk => offs_in (by omega) (by omega) (ferr_le hk f1)
    have HE : Hid (∀ k, k < k0 → bytesE l (offs l (p + 4) k) = 0) := fun k hk => (ferr_up (ferr_le (k := k0) (by omega) f1)).2
    have HL := Lib.hid hl
    have HY := Lib.hid hby
    have HX := Lib.hid f2
    have hne : (bytesE l (offs l (p + 4) k0) != 0) = true := by simpa using f2
    have hcm' := hcm
    clear hl hby he h1 f1 f2 f3
    unfold maxLen at hcm
    generalize cnt l p = n at *
    obtain ⟨i0, hi, hz0, hz1, hz2⟩ := info_parts info22
    go_enter Tryd.func33, Tryd.ntmps33
    go_wp2_with fail
    refine K1.out.mono ?_
    rintro e w1 ⟨rfl, rfl⟩
    go_wp2_with (at_make; refine wpList_make_full _ rfl _ _ 23 rfl w.heap.size 26 i0 (.slice none 0 0) 1 Tryd.underlying23 hi hz0 hz1 _ _ _ _ n rfl rfl (by omega) (by omega) (by rw [hz2]; omega) (by unfold maxLen; omega) (Nat.le_refl _) ?_; intro w1 ho1 hg1)
    have hst : RowRel w l (p + 4) n 0 w1 := RowRel.start (by simpa [Value.cells, toList_madeCells_one] using ho1) hg1
    clear ho1 hg1
    go_wp2
    go_loopw [8, 9, 26] (fun nx er i wr => ∃ k : Nat, k ≤ k0 ∧ i = .int .i64 k ∧ nx = .int .i64 (offs l (p + 4) k) ∧ er = .int .i64 0 ∧ RowRel w l (p + 4) n k wr) (fun _ _ i _ => n - (intOf i).toNat)
    case atStart => exact ⟨0, Nat.zero_le _, rfl, rfl, rfl, hst⟩
    case round =>
      clear hst
      obtain ⟨k, hk, rfl, rfl, rfl, hR⟩ := hrel
      have hkn : k < n := by omega
      have hoff := HO.out k hk
      obtain ⟨o1, o2⟩ := hoff
      have hbel : Below w.heap.size w wr := hR.choose_spec.2.2.1
      by_cases hkk : k < k0
      · have K2 := Lib.hid (bytes_ok A l c (offs l (p + 4) k) wr hc hcm' (by omega) (by omega) ((HL.out.below hbel).more hbel.size) HY.out (HE.out k hkk))
        have HLN := Lib.hid (bytesA_length (HE.out k hkk))
        have HNX : Hid (offs l (p + 4) (k + 1) = bytesB l (offs l (p + 4) k)) := rfl
        have HR := Lib.hid hR
        clear hR hbel
        go_wp2_with fail
        refine K2.out.mono ?_
        rintro e w2 ⟨A2, c2, rfl, q1, q2, q3, q4⟩
        obtain ⟨z1, z2⟩ := HR.out.cell q4 hkn
        rw [← HLN.out] at q1 ⊢
        have hst := HR.out.step (A := A2) (c := c2) q4 hkn q1 q2 q3
        clear q1 q2 q3 q4
        go_wp2
        go_roundw
        case rel => exact ⟨k + 1, by omega, by go_num, by rw [HNX.out], rfl, hst⟩
        case measure => simp [intOf]; omega
      · obtain rfl : k = k0 := by omega
        have K2 := Lib.hid (bytes_err A l c (offs l (p + 4) k) wr w.heap.size hc hcm' (by omega) (by omega) (HL.out.below hbel) HY.out HX.out)
        obtain ⟨z1, z2⟩ := hR.cell (Below.refl _ _) hkn
        clear hR
        generalize bytesE l (offs l (p + 4) k) = r at *
        go_wp2_with fail
        refine K2.out.mono ?_
        rintro e w2 ⟨rfl, rfl⟩
        go_wp2
        go_ret3
        exact ⟨rfl, hbel.setCell (Nat.le_refl _) _⟩
  · have hE : rowE l p = cntE l p 1024 := if_neg h1
    have K1 := Lib.hid (readCount_err A l c p 1024 w w.heap.size hc hcm hp1 hp2 hl hby h1)
    clear hl hby
    rw [hE]
    have hne : (cntE l p 1024 != 0) = true := by simpa using h1
    clear hE he h1
    generalize cntE l p 1024 = r at *
    go_enter Tryd.func33, Tryd.ntmps33
    go_wp2_with fail
    refine K1.out.mono ?_
    rintro e w1 ⟨rfl, rfl⟩
    go_wp2
    go_ret3
    exact ⟨rfl, Below.refl _ _⟩
end Go.Proofs.YtecjkmemihmkcaaDoor
