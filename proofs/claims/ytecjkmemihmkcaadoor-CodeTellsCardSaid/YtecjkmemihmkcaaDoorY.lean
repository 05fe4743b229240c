/- What the document's own 'size', 'Bytes' and 'Row' return, at every offset: the same as the program's. Conditions: none beyond what a slice is. -/
import Derived.Test.YtecjkmemihmkcaaDoorX
import Derived.Deep.QuietTactic
import Derived.BigQuiet
import Derived.Deep.DeepCutAuto
namespace Go.Proofs.YtecjkmemihmkcaaDoor
set_option maxRecDepth 100000
open Go.RowKit

theorem take4_of {L : List Int} {b0 b1 b2 b3 : Int} (h0 : L[0]? = some b0) (h1 : L[1]? = some b1) (h2 : L[2]? = some b2) (h3 : L[3]? = some b3) : L.take 4 = [b0, b1, b2, b3] := by
  match L, h0, h1, h2, h3 with
  | a :: b :: c :: d :: r, h0, h1, h2, h3 => simp at h0 h1 h2 h3; subst h0 h1 h2 h3; rfl
theorem or4 {b0 b1 b2 b3 : Int} (h0 : 0 ≤ b0 ∧ b0 < 256) (h1 : 0 ≤ b1 ∧ b1 < 256) (h2 : 0 ≤ b2 ∧ b2 < 256) (h3 : 0 ≤ b3 ∧ b3 < 256) :
    bits .or .i64 (bits .or .i64 (bits .or .i64 (b0 * 16777216) (b1 * 65536)) (b2 * 256)) b3 = val [b0, b1, b2, b3] := by
  rw [or64 24 (b0 * 16777216) (b1 * 65536) (by omega) (by omega) (by omega) (by omega), IntWalk.wrap64_in _ ⟨by omega, by omega⟩]
  rw [or64 16 (b0 * 16777216 + b1 * 65536) (b2 * 256) (by omega) (by omega) (by omega) (by omega), IntWalk.wrap64_in _ ⟨by omega, by omega⟩]
  rw [or64 8 (b0 * 16777216 + b1 * 65536 + b2 * 256) b3 (by omega) (by omega) (by omega) (by omega), IntWalk.wrap64_in _ ⟨by omega, by omega⟩]
  simp only [val, List.foldl_cons, List.foldl_nil]
  omega

/-- what 'size' returns -/
def SizeIs (w : World) (n q E : Int) (e : Ending) (w' : World) : Prop := e = .returned (.tuple #[.int .i64 n, .int .i64 q, .int .i64 E]) ∧ Below w.heap.size w w'

set_option maxHeartbeats 800000 in
theorem refSize_in (A : Option Addr) (l : List Int) (c : Nat) (p : Nat) (most : Int) (w : World) (B : Nat) (hc : l.length ≤ c) (hcm : c ≤ maxLen) (hp : p + 4 ≤ l.length) (hl : Lies w B A c (cellsOf l)) (hby : Byt l) (n q E : Int)
    (hres : ((cnt l p : Int) ≤ most ∧ n = cnt l p ∧ q = (p : Int) + 4 ∧ E = 0) ∨ (most < (cnt l p : Int) ∧ n = 0 ∧ q = 0 ∧ E = 2)) :
    Calls Tryd.prog 66 #[.slice A l.length c, .int .i64 p, .int .i64 most] w (SizeIs w n q E) := by
  have HL := Lib.hid hl
  have HY := Lib.hid hby
  have HR := Lib.hid hres
  clear hl hby hres
  have hcm' := hcm
  unfold maxLen at hcm
  go_enter Tryd.func66, Tryd.ntmps66
  go_wp2_with fail
  refine (there_ok A l c p _ B hc (by omega) HL.out).mono ?_
  rintro e w1 ⟨A', rfl, hl', rfl⟩
  obtain ⟨b0, hb0⟩ : ∃ b, (l.drop p)[0]? = some b := ⟨_, List.getElem?_eq_getElem (by rw [List.length_drop]; omega)⟩
  obtain ⟨b1, hb1⟩ : ∃ b, (l.drop p)[1]? = some b := ⟨_, List.getElem?_eq_getElem (by rw [List.length_drop]; omega)⟩
  obtain ⟨b2, hb2⟩ : ∃ b, (l.drop p)[2]? = some b := ⟨_, List.getElem?_eq_getElem (by rw [List.length_drop]; omega)⟩
  obtain ⟨b3, hb3⟩ : ∃ b, (l.drop p)[3]? = some b := ⟨_, List.getElem?_eq_getElem (by rw [List.length_drop]; omega)⟩
  obtain ⟨x01, x02⟩ := HY.out b0 (List.mem_of_mem_drop (List.mem_of_getElem? hb0))
  obtain ⟨x11, x12⟩ := HY.out b1 (List.mem_of_mem_drop (List.mem_of_getElem? hb1))
  obtain ⟨x21, x22⟩ := HY.out b2 (List.mem_of_mem_drop (List.mem_of_getElem? hb2))
  obtain ⟨x31, x32⟩ := HY.out b3 (List.mem_of_mem_drop (List.mem_of_getElem? hb3))
  obtain ⟨ad, rfl, _, y0⟩ := lies_at hl' hb0
  obtain ⟨ad1, e1, _, y1⟩ := lies_at hl' hb1
  obtain ⟨ad2, e2, _, y2⟩ := lies_at hl' hb2
  obtain ⟨ad3, e3, _, y3⟩ := lies_at hl' hb3
  injection e1 with e1
  injection e2 with e2
  injection e3 with e3
  subst e1 e2 e3
  have y0' : w.cell? ad = some (.int .u8 b0) := by simpa [Addr.add] using y0
  have hlen : 4 ≤ l.length - p := by omega
  generalize l.length - p = m at *
  have hi0' : 0 < m := by omega
  have hi0 : (0 : Int) < (m : Int) := by omega
  have hi1 : (1 : Int) < (m : Int) := by omega
  have hi2 : (2 : Int) < (m : Int) := by omega
  have hi3 : (3 : Int) < (m : Int) := by omega
  have hlt : ¬ (m : Int) < 4 := by omega
  have y1' : w.cell? ⟨ad.block, ad.off + 1, none⟩ = some (.int .u8 b1) := by simpa [Addr.add] using y1
  have y2' : w.cell? ⟨ad.block, ad.off + 2, none⟩ = some (.int .u8 b2) := by simpa [Addr.add] using y2
  have y3' : w.cell? ⟨ad.block, ad.off + 3, none⟩ = some (.int .u8 b3) := by simpa [Addr.add] using y3
  have z0 : IntKind.i64.wrap b0 = b0 := IntWalk.i64_in _ (by omega)
  have z1 : IntKind.i64.wrap b1 = b1 := IntWalk.i64_in _ (by omega)
  have z2 : IntKind.i64.wrap b2 = b2 := IntWalk.i64_in _ (by omega)
  have z3 : IntKind.i64.wrap b3 = b3 := IntWalk.i64_in _ (by omega)
  have z4 : IntKind.i64.wrap (b0 * 16777216) = b0 * 16777216 := IntWalk.i64_in _ (by omega)
  have z5 : IntKind.i64.wrap (b1 * 65536) = b1 * 65536 := IntWalk.i64_in _ (by omega)
  have z6 : IntKind.i64.wrap (b2 * 256) = b2 * 256 := IntWalk.i64_in _ (by omega)
  have hV : bits .or .i64 (bits .or .i64 (bits .or .i64 (b0 * 16777216) (b1 * 65536)) (b2 * 256)) b3 = (cnt l p : Int) := by
    rw [cnt_val HY.out, Int.toNat_natCast, take4_of hb0 hb1 hb2 hb3]
    exact or4 ⟨x01, x02⟩ ⟨x11, x12⟩ ⟨x21, x22⟩ ⟨x31, x32⟩
  have HV := Lib.hid hV
  clear hl' hb0 hb1 hb2 hb3 y0 y1 y2 y3 hV
  go_upto_region 6 with fail
  go_quiet (fail)
  rw [HV.out]
  clear HV y0' y1' y2' y3' z0 z1 z2 z3 z4 z5 z6
  generalize cnt l p = k at *
  rcases HR.out with ⟨r1, rfl, rfl, rfl⟩ | ⟨r1, rfl, rfl, rfl⟩
  · go_wp2
    go_ret3
    exact ⟨rfl, below_drewN (Below.refl _ _) _⟩
  · go_wp2
    go_ret3
    exact ⟨rfl, below_drewN (Below.refl _ _) _⟩

set_option maxHeartbeats 400000 in
theorem refSize_short (A : Option Addr) (l : List Int) (c : Nat) (p : Nat) (most : Int) (w : World) (B : Nat) (hc : l.length ≤ c) (hp : p ≤ l.length) (hp4 : l.length < p + 4) (hl : Lies w B A c (cellsOf l)) :
    Calls Tryd.prog 66 #[.slice A l.length c, .int .i64 p, .int .i64 most] w (SizeIs w 0 0 11) := by
  have HL := Lib.hid hl
  clear hl
  go_enter Tryd.func66, Tryd.ntmps66
  go_wp2_with fail
  refine (there_ok A l c p _ B hc (by omega) HL.out).mono ?_
  rintro e w1 ⟨A', rfl, hl', rfl⟩
  have hlen : l.length - p < 4 := by omega
  generalize l.length - p = m at *
  have hlt : (m : Int) < 4 := by omega
  clear hl'
  go_wp2
  go_ret3
  exact ⟨rfl, Below.refl _ _⟩
set_option maxHeartbeats 400000 in
theorem refSize_out (A : Option Addr) (n c : Nat) (p : Int) (most : Int) (w : World) (hp : p < 0 ∨ (n : Int) < p) :
    Calls Tryd.prog 66 #[.slice A n c, .int .i64 p, .int .i64 most] w (SizeIs w 0 0 1) := by
  go_enter Tryd.func66, Tryd.ntmps66
  go_wp2_with fail
  refine (there_bad A n c p _ hp).mono ?_
  rintro e w1 ⟨rfl, rfl⟩
  go_wp2
  go_ret3
  exact ⟨rfl, Below.refl _ _⟩

theorem refSize_ok (A : Option Addr) (l : List Int) (c : Nat) (p : Int) (most : Int) (w : World) (B : Nat) (hc : l.length ≤ c) (hcm : c ≤ maxLen) (hl : Lies w B A c (cellsOf l)) (hby : Byt l) (he : cntE l p most = 0) :
    Calls Tryd.prog 66 #[.slice A l.length c, .int .i64 p, .int .i64 most] w (SizeIs w (cnt l p) (p + 4) 0) := by
  obtain ⟨h1, h2, h3⟩ := cntE_0 he
  obtain ⟨p, rfl⟩ := Int.eq_ofNat_of_zero_le h1
  exact refSize_in A l c p most w B hc hcm (by omega) hl hby _ _ _ (.inl ⟨h3, rfl, rfl, rfl⟩)
theorem refSize_err (A : Option Addr) (l : List Int) (c : Nat) (p : Int) (most : Int) (w : World) (B : Nat) (hc : l.length ≤ c) (hcm : c ≤ maxLen) (hl : Lies w B A c (cellsOf l)) (hby : Byt l) (he : cntE l p most ≠ 0) :
    Calls Tryd.prog 66 #[.slice A l.length c, .int .i64 p, .int .i64 most] w (SizeIs w 0 0 (cntE l p most)) := by
  by_cases hin : p < 0 ∨ (l.length : Int) < p
  · have hr : roomV l.length p 4 = 1 := by unfold roomV; rw [if_pos hin]
    have hE : cntE l p most = 1 := by unfold cntE; rw [if_neg (by omega)]; exact hr
    rw [hE]
    exact refSize_out A l.length c p most w hin
  · obtain ⟨p, rfl⟩ := Int.eq_ofNat_of_zero_le (show 0 ≤ p by omega)
    by_cases h4 : p + 4 ≤ l.length
    · have hr : roomV l.length p 4 = 0 := room_0 (by omega) (by omega) (by omega)
      have hm : most < (cnt l p : Int) := by
        unfold cntE at he
        rw [if_pos hr] at he
        by_cases hm : most < (cnt l p : Int)
        · exact hm
        · rw [if_neg hm] at he; exact absurd rfl he
      have hE : cntE l p most = 2 := by unfold cntE; rw [if_pos hr, if_pos hm]
      rw [hE]
      exact refSize_in A l c p most w B hc hcm h4 hl hby _ _ _ (.inr ⟨hm, rfl, rfl, rfl⟩)
    · have hr : roomV l.length p 4 = 11 := by unfold roomV; rw [if_neg hin, if_pos (by omega)]
      have hE : cntE l p most = 11 := by unfold cntE; rw [if_neg (by omega)]; exact hr
      rw [hE]
      exact refSize_short A l c p most w B hc (by omega) (by omega) hl

set_option maxHeartbeats 400000 in
theorem refBytesO (A : Option Addr) (l : List Int) (c : Nat) (p : Int) (w : World) (hc : l.length ≤ c) (hcm : c ≤ maxLen) (hl : Lies w w.heap.size A c (cellsOf l)) (hby : Byt l) (he : bytesE l p = 0) :
    Calls Tryd.prog 65 #[.slice A l.length c, .int .i64 p] w (ReadO w (bytesA l p) (bytesB l p) 0) := by
  obtain ⟨h1, h2, h3, h4, h5⟩ := bytesE_0 he
  have hlen := bytesA_length he
  obtain ⟨p, rfl⟩ := Int.eq_ofNat_of_zero_le h3
  have hB : bytesB l p = (p : Int) + 4 + cnt l p := rfl
  have hA : bytesA l p = (l.drop (p + 4)).take (cnt l p) := rfl
  have hmid := hl.mid (p := p + 4) (n := cnt l p) hc
  rw [← hA] at hmid
  have K1 := Lib.hid (refSize_ok A l c p 65536 w w.heap.size hc hcm hl hby h1)
  clear hl hby he hA h1 h2
  unfold maxLen at hcm
  have HB := Lib.hid hB
  have HLN := Lib.hid hlen
  clear hlen hB
  generalize hmm : cnt l p = m at *
  clear hmm
  obtain ⟨i0, hi, hz0, hz1, hz2⟩ := info_parts info5
  have hgt : ¬ ((l.length : Int) - ((p : Int) + 4) < (m : Int)) := by omega
  by_cases hcp : c = p + 4
  · rw [if_pos hcp] at hmid
    have HM : Hid (Lies w w.heap.size A 0 (cellsOf (bytesA l p))) := by have := hmid; rw [hcp, Nat.sub_self] at this; exact this
    clear hmid
    subst hcp
    go_enter Tryd.func65, Tryd.ntmps65
    go_wp2_with fail
    refine K1.out.mono ?_
    rintro e w1 ⟨rfl, hb1⟩
    have ho := own_mono (own_empty w1) hb1.size
    have hb2 := hb1.alloc hb1.size (.cells #[] 5)
    have hl1 := HM.out.below hb2
    have hz2' := hb2.size
    go_wp2_with (at_builtin; refine wpList_append_lies rfl (.tmp 26) (.tmp 32) 26 rfl w.heap.size 5 i0 (.int .u8 0) 1 Tryd.underlying26 hi hz0 hz1 hz2 rfl _ 0 [] rfl ho w.heap.size A _ _ (cellsOf (bytesA l p)) rfl (by rw [List.length_map, HLN.out]; omega) (by first | exact hl1 | (rw [Nat.sub_self]; exact hl1)) (bytes_oneCell _) (by unfold maxLen; omega) (by omega) hz2' ?_; intro v2 w2 ho2 hg2)
    go_ret3
    refine ⟨v2, ?_, own_eq ho2 (by rw [HLN.out]; omega) (by simp), hb2.grown hg2 hz2' (fun k hk => (ho.lt k hk).1)⟩
    rw [HB.out]
    rfl
  · rw [if_neg hcp] at hmid
    have HM := Lib.hid hmid
    clear hmid
    have hlt : p + 4 < c := by omega
    go_enter Tryd.func65, Tryd.ntmps65
    go_wp2_with fail
    refine K1.out.mono ?_
    rintro e w1 ⟨rfl, hb1⟩
    have ho := own_mono (own_empty w1) hb1.size
    have hb2 := hb1.alloc hb1.size (.cells #[] 5)
    have hf : (fun x : Addr => x.add (p + 4)) = fun x => ⟨x.block, x.off + (p + 4), none⟩ := by funext x; simp [Addr.add]
    have hl1 := HM.out.below hb2
    rw [hf] at hl1
    clear hf
    have hz2' := hb2.size
    go_wp2_with (at_builtin; refine wpList_append_lies rfl (.tmp 26) (.tmp 32) 26 rfl w.heap.size 5 i0 (.int .u8 0) 1 Tryd.underlying26 hi hz0 hz1 hz2 rfl _ 0 [] rfl ho w.heap.size _ _ _ (cellsOf (bytesA l p)) rfl (by rw [List.length_map, HLN.out]; omega) hl1 (bytes_oneCell _) (by unfold maxLen; omega) (by omega) hz2' ?_; intro v2 w2 ho2 hg2)
    go_ret3
    refine ⟨v2, ?_, own_eq ho2 (by rw [HLN.out]; omega) (by simp), hb2.grown hg2 hz2' (fun k hk => (ho.lt k hk).1)⟩
    rw [HB.out]
    rfl

set_option maxHeartbeats 400000 in
theorem refBytes_err (A : Option Addr) (l : List Int) (c : Nat) (p : Int) (w : World) (hc : l.length ≤ c) (hcm : c ≤ maxLen) (hl : Lies w w.heap.size A c (cellsOf l)) (hby : Byt l) (he : bytesE l p ≠ 0) :
    Calls Tryd.prog 65 #[.slice A l.length c, .int .i64 p] w (RowErr w (bytesE l p)) := by
  by_cases h1 : cntE l p 65536 = 0
  · have hE : bytesE l p = roomV l.length (p + 4) (cnt l p) := if_pos h1
    obtain ⟨g1, g2, g3⟩ := cntE_0 h1
    have hE2 : bytesE l p = 11 := by
      rw [hE] at he ⊢
      rcases room_vals l.length (p + 4) (cnt l p) with h | h | h
      · exact absurd h he
      · unfold roomV at h; rw [if_neg (by omega)] at h; split at h <;> cases h
      · exact h
    have hgt : (l.length : Int) - (p + 4) < (cnt l p : Int) := by
      rw [hE] at hE2
      unfold roomV at hE2
      rw [if_neg (by omega)] at hE2
      split at hE2
      · assumption
      · cases hE2
    have K1 := Lib.hid (refSize_ok A l c p 65536 w w.heap.size hc hcm hl hby h1)
    rw [hE2]
    clear hl hby hE hE2 he h1
    unfold maxLen at hcm
    generalize cnt l p = m at *
    go_enter Tryd.func65, Tryd.ntmps65
    go_wp2_with fail
    refine K1.out.mono ?_
    rintro e w1 ⟨rfl, hb1⟩
    go_wp2
    go_ret3
    exact ⟨rfl, hb1⟩
  · have hE : bytesE l p = cntE l p 65536 := if_neg h1
    have K1 := Lib.hid (refSize_err A l c p 65536 w w.heap.size hc hcm hl hby h1)
    clear hl hby
    rw [hE]
    have hne : (cntE l p 65536 != 0) = true := by simpa using h1
    clear hE he h1
    generalize cntE l p 65536 = r at *
    go_enter Tryd.func65, Tryd.ntmps65
    go_wp2_with fail
    refine K1.out.mono ?_
    rintro e w1 ⟨rfl, hb1⟩
    go_wp2
    go_ret3
    exact ⟨rfl, hb1⟩
theorem refBytesB (A : Option Addr) (l : List Int) (c : Nat) (p : Int) (w : World) (hc : l.length ≤ c) (hcm : c ≤ maxLen) (hl : Lies w w.heap.size A c (cellsOf l)) (hby : Byt l) :
    Calls Tryd.prog 65 #[.slice A l.length c, .int .i64 p] w (ReadO w (byL l p) (byT l p) (bytesE l p)) := by
  unfold byL byT
  by_cases h : bytesE l p = 0
  · rw [if_pos h, if_pos h, h]
    exact refBytesO A l c p w hc hcm hl hby h
  · rw [if_neg h, if_neg h]
    exact (refBytes_err A l c p w hc hcm hl hby h).mono fun e w' ⟨he, hw⟩ => ⟨_, he, World.ownsRow_nil _ _ _ _, hw⟩

/-- what the loop of the document's 'Row' keeps -/
def RefRel (w : World) (l : List Int) (q : Int) (k : Nat) (v : Value) (wr : World) : Prop :=
  ∃ vs : List Value, vs.length = k ∧ wr.ownsRow w.heap.size 26 1 v k vs ∧ Below w.heap.size w wr ∧
    ∀ (j : Nat) (x : Value), vs[j]? = some x → wr.ownsRow w.heap.size 5 1 x (bytesA l (offs l q j)).length (cellsOf (bytesA l (offs l q j)))
theorem RefRel.step {w wr w2 w4 : World} {l : List Int} {q : Int} {k : Nat} {v v' x : Value} {vs : List Value} (hv : vs.length = k) (ho : wr.ownsRow w.heap.size 26 1 v k vs) (hbw : Below w.heap.size w wr)
    (hall : ∀ (j : Nat) (x : Value), vs[j]? = some x → wr.ownsRow w.heap.size 5 1 x (bytesA l (offs l q j)).length (cellsOf (bytesA l (offs l q j))))
    (hb : Below wr.heap.size wr w2) (h3 : w2.ownsRow wr.heap.size 5 1 x (bytesA l (offs l q k)).length (cellsOf (bytesA l (offs l q k)))) {o : Obj}
    (ho4 : w4.ownsRow w.heap.size 26 1 v' (k + 1) (vs ++ [x])) (hg4 : (w2.alloc o).grownBy w4 v.ownBlock) : RefRel w l q (k + 1) v' w4 := by
  have hsz := hbw.size
  have hsz2 := hb.size
  have ho2 := (own_below ho hb (Nat.le_refl _)).alloc o
  refine ⟨vs ++ [x], by simp [hv], ho4, ((hbw.trans (hb.mono hsz)).alloc (by omega) o).grown hg4 (by simp; omega) (fun k hk => (ho.lt k hk).1), fun j y hj => ?_⟩
  by_cases hjk : j < k
  · rw [List.getElem?_append_left (by omega)] at hj
    have g := (own_below (hall j y hj) hb (Nat.le_refl _)).alloc o
    exact g.kept hg4 (own_ne g ho2)
  · have hjk' : j = k := by
      have := (List.getElem?_eq_some_iff.1 hj).1
      simp [hv] at this
      omega
    subst hjk'
    rw [List.getElem?_append_right (by omega)] at hj
    simp [hv] at hj
    subst hj
    have g := (own_mono h3 hsz).alloc o
    exact g.kept hg4 (own_ne g ho2)
theorem RefRel.fin {w wr : World} {l : List Int} {q : Int} {n : Nat} {v : Value} (h : RefRel w l q n v wr) : GridO wr w.heap.size v (items l q n) := by
  obtain ⟨vs, hv, ho, _, hall⟩ := h
  refine ⟨vs, by rw [items_length]; exact hv, by rw [items_length]; exact ho, fun j x l' hx hl' => ?_⟩
  have hj : j < n := by
    have := (List.getElem?_eq_some_iff.1 hl').1
    simpa [items_length] using this
  rw [items_at hj] at hl'
  injection hl' with hl'
  subst hl'
  exact hall j x hx

set_option maxHeartbeats 800000 in
theorem refRow (A : Option Addr) (l : List Int) (c : Nat) (p : Int) (w : World) (hc : l.length ≤ c) (hcm : c ≤ maxLen) (hl : Lies w w.heap.size A c (cellsOf l)) (hby : Byt l) (h1 : cntE l p 1024 = 0)
    (k0 : Nat) (hk0 : k0 ≤ cnt l p) (h2 : ferr l (p + 4) k0 = 0) (hend : k0 < cnt l p → bytesE l (offs l (p + 4) k0) ≠ 0) (ls : List (List Int)) (T E : Int)
    (hres : (k0 = cnt l p ∧ ls = items l (p + 4) k0 ∧ T = offs l (p + 4) k0 ∧ E = 0) ∨ (k0 < cnt l p ∧ ls = [] ∧ T = 0 ∧ E = bytesE l (offs l (p + 4) k0))) :
    Calls Tryd.prog 36 #[.slice A l.length c, .int .i64 p] w (RowO w ls T E) := by
  obtain ⟨g1, g2, g3⟩ := cntE_0 h1
  have K1 := Lib.hid (refSize_ok A l c p 1024 w w.heap.size hc hcm hl hby h1)
  have HO : Hid (∀ k, k ≤ k0 → 0 ≤ offs l (p + 4) k ∧ offs l (p + 4) k ≤ l.length) := fun k hk => offs_in (by omega) (by omega) (ferr_le hk h2)
  have HE : Hid (∀ k, k < k0 → bytesE l (offs l (p + 4) k) = 0) := fun k hk => (ferr_up (ferr_le (k := k0) (by omega) h2)).2
  have HL := Lib.hid hl
  have HY := Lib.hid hby
  have HRES := Lib.hid hres
  have HEND := Lib.hid hend
  have hcm' := hcm
  clear hl hby h1 h2 hres hend
  unfold maxLen at hcm
  generalize cnt l p = n at *
  obtain ⟨i0, hi, hz0, hz1, hz2⟩ := info_parts info22
  go_enter Tryd.func36, Tryd.ntmps36
  go_wp2_with fail
  refine K1.out.mono ?_
  rintro e w1 ⟨rfl, hb1⟩
  have hst : RefRel w l (p + 4) 0 (.slice none 0 0) w1 := ⟨[], rfl, World.ownsRow_nil _ _ _ _, hb1, fun j x h => by simp at h⟩
  clear hb1
  go_wp2
  go_loopw [8, 10, 11] (fun nx v i wr => ∃ k : Nat, k ≤ k0 ∧ i = .int .i64 k ∧ nx = .int .i64 (offs l (p + 4) k) ∧ RefRel w l (p + 4) k v wr) (fun _ _ i _ => n - (intOf i).toNat)
  case atStart => exact ⟨0, Nat.zero_le _, rfl, rfl, hst⟩
  case round =>
    clear hst
    obtain ⟨k, hk, rfl, rfl, vs, hv, ho, hbw, hall⟩ := hrel
    obtain ⟨o1, o2⟩ := HO.out k hk
    have hsz := hbw.size
    have HALL := Lib.hid hall
    have HLr := Lib.hid ((HL.out.below hbw).more hsz)
    clear hall
    by_cases hkk : k < k0
    · have K2 := Lib.hid (refBytesO A l c (offs l (p + 4) k) wr hc hcm' HLr.out HY.out (HE.out k hkk))
      have HNX : Hid (offs l (p + 4) (k + 1) = bytesB l (offs l (p + 4) k)) := rfl
      have HVS := Lib.hid hv
      clear hv
      go_wp2_with fail
      refine K2.out.mono ?_
      rintro e w2 ⟨x, rfl, q3, q4⟩
      have ho2 := own_below ho q4 (Nat.le_refl _)
      obtain ⟨A2, c2, hx, _⟩ := own_lies q3
      have hone : x.oneCell' = true := by rw [hx]; rfl
      have hz4 := q4.size
      subst hx
      go_wp2_with (at_builtin; refine wpList_append_own _ rfl (.tmp 40) (.tmp 42) 23 rfl w.heap.size 26 i0 (.slice none 0 0) 1 24 Tryd.underlying23 hi hz0 hz1 hz2 rfl (by decide) _ _ _ rfl (ho2.alloc _) ⟨w2.heap.size, 0, none⟩ 1 1 [.slice A2 (bytesA l (offs l (p + 4) k)).length c2] rfl rfl ?c1 ?c2 ?c3 ?c4 ?c5 ?_)
      case c1 =>
        intro j u hj
        match j, hj with
        | 0, hj => simp at hj; subst hj; simp [Addr.add]
      case c2 => intro u hu; simp at hu; subst hu; exact hone
      case c3 => unfold maxLen; omega
      case c4 => omega
      case c5 => simp; omega
      intro v' w4 ho4 hg4 _
      have hst := RefRel.step HVS.out ho hbw HALL.out q4 q3 ho4 hg4
      clear ho4 hg4 ho2 q3 q4 ho hone
      go_wp2
      go_roundw
      case rel => exact ⟨k + 1, by omega, by go_num, by rw [HNX.out], hst⟩
      case measure => simp [intOf]; omega
    · obtain rfl : k = k0 := by omega
      rcases HRES.out with ⟨rfl, rfl, rfl, rfl⟩ | ⟨r1, rfl, rfl, rfl⟩
      · have hG : ∀ v, wr.ownsRow w.heap.size 26 1 v k vs → GridO wr w.heap.size v (items l (p + 4) k) := fun v ho => RefRel.fin ⟨vs, hv, ho, hbw, HALL.out⟩
        have hG1 := hG _ ho
        clear hG
        go_wp2
        go_ret3
        exact ⟨_, rfl, hG1, hbw⟩
      · have K2 := Lib.hid (refBytes_err A l c (offs l (p + 4) k) wr hc hcm' HLr.out HY.out (HEND.out r1))
        have hne : (bytesE l (offs l (p + 4) k) != 0) = true := by simpa using HEND.out r1
        clear HEND HRES
        generalize bytesE l (offs l (p + 4) k) = r at *
        go_wp2_with fail
        refine K2.out.mono ?_
        rintro e w2 ⟨rfl, q4⟩
        go_wp2
        go_ret3
        exact ⟨_, rfl, GridO.nothing _ _, hbw.trans (q4.mono hsz)⟩

set_option maxHeartbeats 400000 in
theorem refRow_bad (A : Option Addr) (l : List Int) (c : Nat) (p : Int) (w : World) (hc : l.length ≤ c) (hcm : c ≤ maxLen) (hl : Lies w w.heap.size A c (cellsOf l)) (hby : Byt l) (h1 : cntE l p 1024 ≠ 0) :
    Calls Tryd.prog 36 #[.slice A l.length c, .int .i64 p] w (RowErr w (cntE l p 1024)) := by
  have K1 := Lib.hid (refSize_err A l c p 1024 w w.heap.size hc hcm hl hby h1)
  clear hl hby
  have hne : (cntE l p 1024 != 0) = true := by simpa using h1
  clear h1
  generalize cntE l p 1024 = r at *
  go_enter Tryd.func36, Tryd.ntmps36
  go_wp2_with fail
  refine K1.out.mono ?_
  rintro e w1 ⟨rfl, hb1⟩
  go_wp2
  go_ret3
  exact ⟨rfl, hb1⟩
theorem refRowB (A : Option Addr) (l : List Int) (c : Nat) (p : Int) (w : World) (hc : l.length ≤ c) (hcm : c ≤ maxLen) (hl : Lies w w.heap.size A c (cellsOf l)) (hby : Byt l) :
    Calls Tryd.prog 36 #[.slice A l.length c, .int .i64 p] w (RowO w (roL l p) (roT l p) (rowE l p)) := by
  unfold roL roT
  by_cases h : rowE l p = 0
  · rw [if_pos h, if_pos h, h]
    obtain ⟨h1, h2⟩ := rowE_0 h
    exact refRow A l c p w hc hcm hl hby h1 (cnt l p) (Nat.le_refl _) h2 (fun hlt => absurd hlt (Nat.lt_irrefl _)) _ _ _ (.inl ⟨rfl, rfl, rfl, rfl⟩)
  · rw [if_neg h, if_neg h]
    by_cases h1 : cntE l p 1024 = 0
    · have hE : rowE l p = ferr l (p + 4) (cnt l p) := if_pos h1
      rw [hE] at h ⊢
      obtain ⟨k0, hk0, f1, f2, f3⟩ := ferr_first h
      rw [f3]
      exact refRow A l c p w hc hcm hl hby h1 k0 (by omega) f1 (fun _ => f2) _ _ _ (.inr ⟨hk0, rfl, rfl, rfl⟩)
    · have hE : rowE l p = cntE l p 1024 := if_neg h1
      rw [hE]
      exact (refRow_bad A l c p w hc hcm hl hby h1).mono fun e w' ⟨he, hw⟩ => ⟨_, he, GridO.nothing _ _, hw⟩
end Go.Proofs.YtecjkmemihmkcaaDoor
