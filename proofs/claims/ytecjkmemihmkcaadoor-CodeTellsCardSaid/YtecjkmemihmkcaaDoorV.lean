/- What the program's functions that read byte strings and rows return, told as memory of the call's own, found or not. Conditions: none beyond what a slice is. -/
import Derived.Test.YtecjkmemihmkcaaDoorU
namespace Go.Proofs.YtecjkmemihmkcaaDoor
set_option maxRecDepth 100000
open Go.RowKit

/-- what a call returns that makes a byte string anew -/
def OwnBytes (w : World) (l : List Int) (e : Ending) (w' : World) : Prop :=
  ∃ v, e = .returned v ∧ w'.ownsRow w.heap.size 5 1 v l.length (cellsOf l) ∧ Below w.heap.size w w'

set_option maxHeartbeats 400000 in
theorem cloneO (A : Option Addr) (l : List Int) (c : Nat) (w : World) (hl : Lies w w.heap.size A c (cellsOf l)) (hlen : l.length ≤ 140737488355328) :
    Calls Tryd.prog 76 #[.slice A l.length c] w (OwnBytes w l) := by
  obtain ⟨i0, hi, hz0, hz1, hz2⟩ := info_parts info5
  cases A with
  | none =>
    obtain ⟨h1, rfl⟩ := hl.none_nil
    have h2 : l = [] := by simpa using h1
    subst h2
    clear h1 hl hlen
    have hnil := eq_nil w none 0 0
    go_enter Tryd.func76, Tryd.ntmps76
    go_wp2
    go_ret
    exact ⟨.slice none 0 0, rfl, World.ownsRow_nil _ _ _ _, Below.refl _ _⟩
  | some ad =>
    have ho := own_empty w
    have hb := (Below.refl w.heap.size w).alloc (Nat.le_refl _) (.cells #[] 5)
    have hl1 := hl.below hb
    clear hl
    have hnil := eq_nil w (some ad) l.length c
    go_enter Tryd.func76, Tryd.ntmps76
    go_wp2_with (at_builtin; refine wpList_append_lies rfl (.tmp 5) (.tmp 6) 26 rfl w.heap.size 5 i0 (.int .u8 0) 1 Tryd.underlying26 hi hz0 hz1 hz2 rfl _ 0 [] rfl ho w.heap.size (some ad) l.length c (cellsOf l) rfl (by simp) hl1 (bytes_oneCell l) (by unfold maxLen; omega) (by omega) (by simp) ?_; intro v2 w2 ho2 hg2)
    go_ret
    exact ⟨v2, rfl, own_eq ho2 (by omega) (by simp), hb.grown hg2 (by simp) (fun k hk => (ho.lt k hk).1)⟩

/-- what reading a byte string returns -/
def ReadO (w : World) (l : List Int) (T E : Int) (e : Ending) (w' : World) : Prop :=
  ∃ v, e = .returned (.tuple #[v, .int .i64 T, .int .i64 E]) ∧ w'.ownsRow w.heap.size 5 1 v l.length (cellsOf l) ∧ Below w.heap.size w w'

set_option maxHeartbeats 400000 in
theorem bytesO (A : Option Addr) (l : List Int) (c : Nat) (p : Int) (w : World) (hc : l.length ≤ c) (hcm : c ≤ maxLen) (hp1 : -9223372036854775808 ≤ p) (hp2 : p ≤ 9223372036854775807) (hl : Lies w w.heap.size A c (cellsOf l)) (hby : Byt l) (he : bytesE l p = 0) :
    Calls Tryd.prog 53 #[.slice A l.length c, .int .i64 p] w (ReadO w (bytesA l p) (bytesB l p) 0) := by
  obtain ⟨h1, h2, h3, h4, h5⟩ := bytesE_0 he
  have hlen := bytesA_length he
  obtain ⟨p, rfl⟩ := Int.eq_ofNat_of_zero_le h3
  have hB : bytesB l p = (p : Int) + 4 + cnt l p := rfl
  have hA : bytesA l p = (l.drop (p + 4)).take (cnt l p) := rfl
  have hmid := hl.mid (p := p + 4) (n := cnt l p) hc
  rw [← hA] at hmid
  have K1 := Lib.hid (readCount_ok A l c p 65536 w w.heap.size hc hcm hp1 hp2 hl hby h1)
  clear hl hby he hA
  unfold maxLen at hcm
  have hr := room_any A l.length c (p + 4) (cnt l p) w (by unfold maxLen; omega) (by omega) (by omega) (by omega) (by omega)
  rw [h2] at hr
  have K2 := Lib.hid hr
  have K3 := fun (A' : Option Addr) (c' : Nat) (h : Lies w w.heap.size A' c' (cellsOf (bytesA l p))) => cloneO A' (bytesA l p) c' w h (by omega)
  rw [hlen] at K3
  have K4 := Lib.hid K3
  have HB := Lib.hid hB
  clear h1 h2 hr hlen K3 hB
  generalize hmm : cnt l p = m at *
  clear hmm
  by_cases hcp : c = p + 4
  · rw [if_pos hcp] at hmid
    have HM := Lib.hid hmid
    clear hmid
    subst hcp
    go_enter Tryd.func53, Tryd.ntmps53
    go_wp2_with fail
    refine K1.out.mono ?_
    rintro e w1 ⟨rfl, rfl⟩
    go_wp2_with fail
    refine K2.out.mono ?_
    rintro e w1 ⟨rfl, rfl⟩
    go_wp2_with fail
    refine (K4.out A 0 (by simpa using HM.out)).mono ?_
    rintro e w2 ⟨v2, rfl, q3, q4⟩
    go_wp2
    go_ret3
    refine ⟨v2, ?_, q3, q4⟩
    rw [HB.out]
    rfl
  · rw [if_neg hcp] at hmid
    have HM := Lib.hid hmid
    clear hmid
    have hlt : p + 4 < c := by omega
    go_enter Tryd.func53, Tryd.ntmps53
    go_wp2_with fail
    refine K1.out.mono ?_
    rintro e w1 ⟨rfl, rfl⟩
    go_wp2_with fail
    refine K2.out.mono ?_
    rintro e w1 ⟨rfl, rfl⟩
    go_wp2_with fail
    refine (K4.out _ _ HM.out).mono ?_
    rintro e w2 ⟨v2, rfl, q3, q4⟩
    go_wp2
    go_ret3
    refine ⟨v2, ?_, q3, q4⟩
    rw [HB.out]
    rfl

/-- the byte string that stands at p, or none; the offset behind it, or nought -/
def byL (l : List Int) (p : Int) : List Int := if bytesE l p = 0 then bytesA l p else []
def byT (l : List Int) (p : Int) : Int := if bytesE l p = 0 then bytesB l p else 0
theorem bytesB_ (A : Option Addr) (l : List Int) (c : Nat) (p : Int) (w : World) (hc : l.length ≤ c) (hcm : c ≤ maxLen) (hp1 : -9223372036854775808 ≤ p) (hp2 : p ≤ 9223372036854775807) (hl : Lies w w.heap.size A c (cellsOf l)) (hby : Byt l) :
    Calls Tryd.prog 53 #[.slice A l.length c, .int .i64 p] w (ReadO w (byL l p) (byT l p) (bytesE l p)) := by
  unfold byL byT
  by_cases h : bytesE l p = 0
  · rw [if_pos h, if_pos h, h]
    exact bytesO A l c p w hc hcm hp1 hp2 hl hby h
  · rw [if_neg h, if_neg h]
    refine (bytes_err A l c p w w.heap.size hc hcm hp1 hp2 hl hby h).mono fun e w' ⟨he, hw⟩ => ?_
    subst hw
    exact ⟨_, he, World.ownsRow_nil _ _ _ _, Below.refl _ _⟩

/-- a row of byte strings of the call's own -/
def GridO (w : World) (base : Nat) (v : Value) (ls : List (List Int)) : Prop :=
  ∃ vs : List Value, vs.length = ls.length ∧ w.ownsRow base 26 1 v ls.length vs ∧ ∀ (j : Nat) (x : Value) (l : List Int), vs[j]? = some x → ls[j]? = some l → w.ownsRow base 5 1 x l.length (cellsOf l)

theorem GridO.nothing (w : World) (base : Nat) : GridO w base (.slice none 0 0) [] := ⟨[], rfl, World.ownsRow_nil _ _ _ _, fun j x l h => by simp at h⟩
theorem GridO.below {w w' : World} {base B : Nat} {v : Value} {ls : List (List Int)} (h : GridO w base v ls) (hb : Below B w w') (hB : w.heap.size ≤ B) : GridO w' base v ls := by
  obtain ⟨vs, h1, h2, h3⟩ := h
  exact ⟨vs, h1, own_below h2 hb hB, fun j x l hx hl => own_below (h3 j x l hx hl) hb hB⟩
theorem GridO.mono {w : World} {base base' : Nat} {v : Value} {ls : List (List Int)} (h : GridO w base v ls) (hb : base' ≤ base) : GridO w base' v ls := by
  obtain ⟨vs, h1, h2, h3⟩ := h
  exact ⟨vs, h1, own_mono h2 hb, fun j x l hx hl => own_mono (h3 j x l hx hl) hb⟩
/-- what is owned from 'base' on stays where a lower row is written -/
theorem own_kept {w w' : World} {base g : Nat} {e : TypeId} {v : Value} {n : Nat} {xs : List Value} (h : w.ownsRow base e 1 v n xs) (hg : w.grownBy w' (some g)) (hlt : g < base) : w'.ownsRow base e 1 v n xs := by
  refine h.kept hg ?_
  cases hv : v.ownBlock with
  | none => exact .inl rfl
  | some k =>
    refine .inr fun e => ?_
    injection e with e
    have := (h.lt k hv).1
    omega
theorem GridO.kept {w w' : World} {base g : Nat} {v : Value} {ls : List (List Int)} (h : GridO w base v ls) (hg : w.grownBy w' (some g)) (hlt : g < base) : GridO w' base v ls := by
  obtain ⟨vs, h1, h2, h3⟩ := h
  exact ⟨vs, h1, own_kept h2 hg hlt, fun j x l hx hl => own_kept (h3 j x l hx hl) hg hlt⟩
theorem GridO.grid {w : World} {base : Nat} {v : Value} {ls : List (List Int)} (h : GridO w base v ls) : ∃ A c, v = .slice A ls.length c ∧ ls.length ≤ c ∧ c ≤ maxLen ∧ Grid w w.heap.size A c ls := by
  obtain ⟨vs, h1, h2, h3⟩ := h
  obtain ⟨A, c, rfl, g1, g2, g3⟩ := own_lies h2
  refine ⟨A, c, rfl, g1, g2, g3.1, fun i l hi => ?_⟩
  have hil : i < ls.length := (List.getElem?_eq_some_iff.1 hi).1
  obtain ⟨x, hx⟩ : ∃ x, vs[i]? = some x := ⟨_, List.getElem?_eq_getElem (by omega)⟩
  obtain ⟨ad, e, hB, hc⟩ := g3.2 i x hx
  obtain ⟨A', c', rfl, k1, k2, k3⟩ := own_lies (h3 i x l hx hi)
  exact ⟨ad, A', c', e, hB, hc, k1, k2, k3⟩

/-- what the loop of 'Row' keeps -/
def RelO (w : World) (l : List Int) (q : Int) (n k : Nat) (wr : World) : Prop :=
  ∃ vs : List Value, vs.length = k ∧ wr.ownsRow w.heap.size 26 1 (.slice (some ⟨w.heap.size, 0, none⟩) n n) n (vs ++ List.replicate (n - k) (.slice none 0 0)) ∧ Below w.heap.size w wr ∧
    ∀ j v, vs[j]? = some v → wr.ownsRow w.heap.size 5 1 v (bytesA l (offs l q j)).length (cellsOf (bytesA l (offs l q j)))

theorem RelO.start {w w1 : World} {l : List Int} {q : Int} {n : Nat} (ho : w1.ownsRow w.heap.size 26 1 (.slice (some ⟨w.heap.size, 0, none⟩) n n) n (List.replicate n (.slice none 0 0))) (hg : w.grownBy w1 none) : RelO w l q n 0 w1 :=
  ⟨[], rfl, by simpa using ho, (Below.refl _ _).grown hg (Nat.le_refl _) (fun k hk => by cases hk), fun j v hv => by simp at hv⟩
theorem RelO.cell {w wr w2 : World} {l : List Int} {q : Int} {n k : Nat} (h : RelO w l q n k wr) (hb : Below wr.heap.size wr w2) (hk : k < n) :
    w2.cell? ⟨w.heap.size, k, none⟩ = some (.slice none 0 0) ∧ w2.frozen? ⟨w.heap.size, k, none⟩ = false := by
  obtain ⟨vs, hv, ho, _⟩ := h
  have ho2 := own_below ho hb (Nat.le_refl _)
  refine ⟨?_, ho2.frozenAt k⟩
  rw [ho2.cellAt k (by omega)]
  subst hv
  rw [List.getElem?_append_right (Nat.le_refl _), Nat.sub_self, List.getElem?_replicate, if_pos (by omega)]
theorem RelO.step {w wr w2 : World} {l : List Int} {q : Int} {n k : Nat} {x : Value} (h : RelO w l q n k wr) (hb : Below wr.heap.size wr w2) (hk : k < n)
    (h3 : w2.ownsRow wr.heap.size 5 1 x (bytesA l (offs l q k)).length (cellsOf (bytesA l (offs l q k)))) : RelO w l q n (k + 1) (w2.setCell ⟨w.heap.size, k, none⟩ x) := by
  obtain ⟨vs, hv, ho, hbw, hall⟩ := h
  have ho2 := own_below ho hb (Nat.le_refl _)
  have hsz := hbw.size
  have hst := ho2.stored k x
  refine ⟨vs ++ [x], by simp [hv], ?_, (hbw.trans (hb.mono hsz)).setCell (Nat.le_refl _) _, fun j v hj => ?_⟩
  · have e : (vs ++ List.replicate (n - k) (Value.slice none 0 0)).set k x = vs ++ [x] ++ List.replicate (n - (k + 1)) (Value.slice none 0 0) := by
      subst hv
      rw [List.set_append_right _ _ (Nat.le_refl _), Nat.sub_self, show n - vs.length = (n - (vs.length + 1)) + 1 by omega, List.replicate_succ]
      simp
    rw [← e]
    exact hst.1
  · by_cases hjk : j < k
    · rw [List.getElem?_append_left (by omega)] at hj
      have g := own_below (hall j v hj) hb (Nat.le_refl _)
      exact g.kept hst.2 (own_ne g ho2)
    · have hjk' : j = k := by
        have := (List.getElem?_eq_some_iff.1 hj).1
        simp [hv] at this
        omega
      subst hjk'
      rw [List.getElem?_append_right (by omega)] at hj
      simp [hv] at hj
      subst hj
      exact (own_mono h3 hsz).kept hst.2 (own_ne h3 ho2)
theorem RelO.fin {w wr : World} {l : List Int} {q : Int} {n : Nat} (h : RelO w l q n n wr) : GridO wr w.heap.size (.slice (some ⟨w.heap.size, 0, none⟩) n n) (items l q n) := by
  obtain ⟨vs, hv, ho, _, hall⟩ := h
  refine ⟨vs, by rw [items_length]; exact hv, ?_, fun j x l' hx hl' => ?_⟩
  · rw [items_length]
    simpa using ho
  · have hj : j < n := by
      have := (List.getElem?_eq_some_iff.1 hl').1
      simpa [items_length] using this
    rw [items_at hj] at hl'
    injection hl' with hl'
    subst hl'
    exact hall j x hx

/-- what reading a row returns -/
def RowO (w : World) (ls : List (List Int)) (T E : Int) (e : Ending) (w' : World) : Prop :=
  ∃ v, e = .returned (.tuple #[v, .int .i64 T, .int .i64 E]) ∧ GridO w' w.heap.size v ls ∧ Below w.heap.size w w'

set_option maxHeartbeats 800000 in
theorem rowO (A : Option Addr) (l : List Int) (c : Nat) (p : Int) (w : World) (hc : l.length ≤ c) (hcm : c ≤ maxLen) (hp1 : -9223372036854775808 ≤ p) (hp2 : p ≤ 9223372036854775807) (hl : Lies w w.heap.size A c (cellsOf l)) (hby : Byt l) (he : rowE l p = 0) :
    Calls Tryd.prog 33 #[.slice A l.length c, .int .i64 p] w (RowO w (items l (p + 4) (cnt l p)) (offs l (p + 4) (cnt l p)) 0) := by
  obtain ⟨h1, h2⟩ := rowE_0 he
  obtain ⟨g1, g2, g3⟩ := cntE_0 h1
  have K1 := Lib.hid (readCount_ok A l c p 1024 w w.heap.size hc hcm hp1 hp2 hl hby h1)
  have HO : Hid (∀ k, k ≤ cnt l p → 0 ≤ offs l (p + 4) k ∧ offs l (p + 4) k ≤ l.length) := fun k hk => offs_in (by omega) (by omega) (ferr_le hk h2)
  have HE : Hid (∀ k, k < cnt l p → bytesE l (offs l (p + 4) k) = 0) := fun k hk => (ferr_up (ferr_le (k := cnt l p) (by omega) h2)).2
  have HL := Lib.hid hl
  have HY := Lib.hid hby
  have hcm' := hcm
  clear hl hby he h1 h2
  unfold maxLen at hcm
  generalize cnt l p = n at *
  obtain ⟨i0, hi, hz0, hz1, hz2⟩ := info_parts info22
  go_enter Tryd.func33, Tryd.ntmps33
  go_wp2_with fail
  refine K1.out.mono ?_
  rintro e w1 ⟨rfl, rfl⟩
  go_wp2_with (at_make; refine wpList_make_full _ rfl _ _ 23 rfl w.heap.size 26 i0 (.slice none 0 0) 1 Tryd.underlying23 hi hz0 hz1 _ _ _ _ n rfl rfl (by omega) (by omega) (by rw [hz2]; omega) (by unfold maxLen; omega) (Nat.le_refl _) ?_; intro w1 ho1 hg1)
  have hst : RelO w l (p + 4) n 0 w1 := RelO.start (by simpa [Value.cells, toList_madeCells_one] using ho1) hg1
  clear ho1 hg1
  go_wp2
  go_loopw [8, 9, 26] (fun nx er i wr => ∃ k : Nat, k ≤ n ∧ i = .int .i64 k ∧ nx = .int .i64 (offs l (p + 4) k) ∧ er = .int .i64 0 ∧ RelO w l (p + 4) n k wr) (fun _ _ i _ => n - (intOf i).toNat)
  case atStart => exact ⟨0, Nat.zero_le _, rfl, rfl, rfl, hst⟩
  case round =>
    clear hst
    obtain ⟨k, hk, rfl, rfl, rfl, hR⟩ := hrel
    have hbel : Below w.heap.size w wr := hR.choose_spec.2.2.1
    by_cases hkn : k < n
    · obtain ⟨o1, o2⟩ := HO.out k hk
      have K2 := Lib.hid (bytesO A l c (offs l (p + 4) k) wr hc hcm' (by omega) (by omega) ((HL.out.below hbel).more hbel.size) HY.out (HE.out k hkn))
      have HNX : Hid (offs l (p + 4) (k + 1) = bytesB l (offs l (p + 4) k)) := rfl
      have HR := Lib.hid hR
      clear hR hbel
      go_wp2_with fail
      refine K2.out.mono ?_
      rintro e w2 ⟨x, rfl, q3, q4⟩
      obtain ⟨z1, z2⟩ := HR.out.cell q4 hkn
      obtain ⟨A2, c2, hx, _⟩ := own_lies q3
      subst hx
      have hst := HR.out.step q4 hkn q3
      clear q3 q4
      go_wp2
      go_roundw
      case rel => exact ⟨k + 1, by omega, by go_num, by rw [HNX.out], rfl, hst⟩
      case measure => simp [intOf]; omega
    · obtain rfl : k = n := by omega
      have hG := hR.fin
      clear hR
      go_wp2
      go_ret3
      exact ⟨_, rfl, hG, hbel⟩

/-- the row that stands at p, or none; the offset behind it, or nought -/
def roL (l : List Int) (p : Int) : List (List Int) := if rowE l p = 0 then items l (p + 4) (cnt l p) else []
def roT (l : List Int) (p : Int) : Int := if rowE l p = 0 then offs l (p + 4) (cnt l p) else 0
theorem rowB_ (A : Option Addr) (l : List Int) (c : Nat) (p : Int) (w : World) (hc : l.length ≤ c) (hcm : c ≤ maxLen) (hp1 : -9223372036854775808 ≤ p) (hp2 : p ≤ 9223372036854775807) (hl : Lies w w.heap.size A c (cellsOf l)) (hby : Byt l) :
    Calls Tryd.prog 33 #[.slice A l.length c, .int .i64 p] w (RowO w (roL l p) (roT l p) (rowE l p)) := by
  unfold roL roT
  by_cases h : rowE l p = 0
  · rw [if_pos h, if_pos h, h]
    exact rowO A l c p w hc hcm hp1 hp2 hl hby h
  · rw [if_neg h, if_neg h]
    exact (row_err A l c p w hc hcm hp1 hp2 hl hby h).mono fun e w' ⟨he, hw⟩ => ⟨_, he, GridO.nothing _ _, hw⟩
end Go.Proofs.YtecjkmemihmkcaaDoor
