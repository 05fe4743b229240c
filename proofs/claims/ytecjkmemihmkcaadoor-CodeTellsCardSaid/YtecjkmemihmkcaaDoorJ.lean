/- What reading a length and a byte string gives ('readCount', 'bytes.Clone', 'Bytes'). Conditions: none beyond what a slice is. -/
import Derived.Test.YtecjkmemihmkcaaDoorH
namespace Go.Proofs.YtecjkmemihmkcaaDoor
set_option maxRecDepth 100000
open Go.RowKit

/-- the length that stands at p -/
def cnt (l : List Int) (p : Int) : Nat := (val ((l.drop p.toNat).take 4)).toNat
theorem cnt_val {l : List Int} (h : Byt l) (p : Int) : (cnt l p : Int) = val ((l.drop p.toNat).take 4) := by
  have := val_bound ((l.drop p.toNat).take 4) (h.sub fun x hx => List.mem_of_mem_drop (List.mem_of_mem_take hx))
  unfold cnt
  omega
theorem cnt_lt {l : List Int} (h : Byt l) (p : Int) : cnt l p < 4294967296 := by
  have h1 := val_bound ((l.drop p.toNat).take 4) (h.sub fun x hx => List.mem_of_mem_drop (List.mem_of_mem_take hx))
  have h2 := cnt_val h p
  have h3 : ((l.drop p.toNat).take 4).length ≤ 4 := List.length_take_le _ _
  have h4 : val ((l.drop p.toNat).take 4) < 4294967296 := by
    refine Int.lt_of_lt_of_le h1.2 ?_
    rcases (show ((l.drop p.toNat).take 4).length = 0 ∨ ((l.drop p.toNat).take 4).length = 1 ∨ ((l.drop p.toNat).take 4).length = 2 ∨ ((l.drop p.toNat).take 4).length = 3 ∨ ((l.drop p.toNat).take 4).length = 4 by omega) with h | h | h | h | h <;> rw [h] <;> decide
  omega
/-- the error of the length that stands at p -/
def cntE (l : List Int) (p : Int) (most : Int) : Int := if roomV l.length p 4 = 0 then (if most < (cnt l p : Int) then 2 else 0) else roomV l.length p 4

set_option maxHeartbeats 400000 in
theorem readCount_ok (A : Option Addr) (l : List Int) (c : Nat) (p : Int) (most : Int) (w : World) (B : Nat) (hc : l.length ≤ c) (hcm : c ≤ maxLen) (hp1 : -9223372036854775808 ≤ p) (hp2 : p ≤ 9223372036854775807) (hl : Lies w B A c (cellsOf l)) (hby : Byt l) (he : cntE l p most = 0) :
    Calls Tryd.prog 63 #[.slice A l.length c, .int .i64 p, .int .u32 most] w fun e w' => e = .returned (.tuple #[.int .i64 (cnt l p), .int .i64 (p + 4), .int .i64 0]) ∧ w = w' := by
  have HC := Lib.hid (cnt_val hby p)
  have hlt := cnt_lt hby p
  have HL := Lib.hid hl
  have HY := Lib.hid hby
  clear hl hby
  have hr : roomV l.length p 4 = 0 := by
    unfold cntE at he
    split at he
    · assumption
    · exact he
  have hm : (cnt l p : Int) ≤ most := by
    unfold cntE at he
    rw [if_pos hr] at he
    split at he
    · cases he
    · omega
  have ha : cntA l p = cnt l p := by unfold cntA; rw [if_pos hr, HC.out]
  have hb : cntB l p = p + 4 := if_pos hr
  have HR := Lib.hid hr
  have HA := Lib.hid ha
  have HB := Lib.hid hb
  clear hr ha hb he
  go_enter Tryd.func63, Tryd.ntmps63
  go_wp2_with fail
  refine (readInt32 A l c p _ B hc hcm hp1 hp2 HL.out HY.out).mono ?_
  rintro e w1 ⟨rfl, rfl⟩
  rw [HA.out, HB.out, HR.out]
  go_wp2
  go_ret3
  exact ⟨rfl, rfl⟩

set_option maxHeartbeats 400000 in
theorem readCount_err (A : Option Addr) (l : List Int) (c : Nat) (p : Int) (most : Int) (w : World) (B : Nat) (hc : l.length ≤ c) (hcm : c ≤ maxLen) (hp1 : -9223372036854775808 ≤ p) (hp2 : p ≤ 9223372036854775807) (hl : Lies w B A c (cellsOf l)) (hby : Byt l) (he : cntE l p most ≠ 0) :
    Calls Tryd.prog 63 #[.slice A l.length c, .int .i64 p, .int .u32 most] w fun e w' => e = .returned (.tuple #[.int .i64 0, .int .i64 0, .int .i64 (cntE l p most)]) ∧ w = w' := by
  have HC := Lib.hid (cnt_val hby p)
  have HL := Lib.hid hl
  have HY := Lib.hid hby
  clear hl hby
  by_cases hr : roomV l.length p 4 = 0
  · have hE : cntE l p most = 2 := by
      unfold cntE at he ⊢
      rw [if_pos hr] at he ⊢
      split
      · rfl
      · rename_i h; rw [if_neg h] at he; exact absurd rfl he
    have hm : most < (cnt l p : Int) := by
      unfold cntE at hE
      rw [if_pos hr] at hE
      split at hE
      · assumption
      · cases hE
    rw [hE]
    have ha : cntA l p = cnt l p := by unfold cntA; rw [if_pos hr, HC.out]
    have hb : cntB l p = p + 4 := if_pos hr
    have HR := Lib.hid hr
    have HA := Lib.hid ha
    have HB := Lib.hid hb
    clear hr ha hb he hE
    go_enter Tryd.func63, Tryd.ntmps63
    go_wp2_with fail
    refine (readInt32 A l c p _ B hc hcm hp1 hp2 HL.out HY.out).mono ?_
    rintro e w1 ⟨rfl, rfl⟩
    rw [HA.out, HB.out, HR.out]
    go_wp2
    go_ret3
    exact ⟨rfl, rfl⟩
  · have hE : cntE l p most = roomV l.length p 4 := if_neg hr
    rw [hE]
    have hne : (roomV l.length p 4 != 0) = true := by simpa using hr
    have ha : cntA l p = 0 := if_neg hr
    have hb : cntB l p = 0 := if_neg hr
    have HA := Lib.hid ha
    have HB := Lib.hid hb
    clear hE ha hb he
    go_enter Tryd.func63, Tryd.ntmps63
    go_wp2_with fail
    refine (readInt32 A l c p _ B hc hcm hp1 hp2 HL.out HY.out).mono ?_
    rintro e w1 ⟨rfl, rfl⟩
    rw [HA.out, HB.out]
    go_wp2
    go_ret3
    exact ⟨rfl, rfl⟩

/-- what a call returns that makes a byte string anew -/
def NewBytes (w : World) (l : List Int) (e : Ending) (w' : World) : Prop :=
  ∃ A' c', e = .returned (.slice A' l.length c') ∧ l.length ≤ c' ∧ c' ≤ maxLen ∧ Lies w' w'.heap.size A' c' (cellsOf l) ∧ Below w.heap.size w w'

theorem own_empty (w : World) : (w.alloc (.cells #[] 5)).ownsRow w.heap.size 5 1 (.slice (some ⟨w.heap.size, 0, none⟩) 0 0) 0 [] :=
  World.ownsRow_made w #[] 0 (Nat.le_refl _) (Nat.zero_le _) rfl

/-- a slice against nil -/
theorem eq_nil (w : World) (A : Option Addr) (n c : Nat) : (binOp .eql 26 (.slice A n c) (.slice none 0 0)).run Tryd.prog w = .ok (.bool A.isNone) w := by
  simp only [binOp]
  simp [run_equal_slice_nil w 26 5 A n c Tryd.underlying26]

set_option maxHeartbeats 400000 in
theorem clone (A : Option Addr) (l : List Int) (c : Nat) (w : World) (hl : Lies w w.heap.size A c (cellsOf l)) (hlen : l.length ≤ 140737488355328) :
    Calls Tryd.prog 76 #[.slice A l.length c] w (NewBytes w l) := by
  obtain ⟨i0, hi, hz0, hz1, hz2⟩ := info_parts info5
  cases A with
  | none =>
    obtain ⟨h1, rfl⟩ := hl.none_nil
    have h2 : l = [] := by simpa using h1
    subst h2
    clear h1 hl hlen
    have hnil := eq_nil w none 0 0
    go_enter Tryd.func76, Tryd.ntmps76
    go_wp2
    go_ret
    exact ⟨none, 0, rfl, Nat.le_refl _, Nat.zero_le _, Lies.nothing _ _, Below.refl _ _⟩
  | some ad =>
    have ho := own_empty w
    have hb := (Below.refl w.heap.size w).alloc (Nat.le_refl _) (.cells #[] 5)
    have hl1 := hl.below hb
    clear hl
    have hnil := eq_nil w (some ad) l.length c
    go_enter Tryd.func76, Tryd.ntmps76
    go_wp2_with (at_builtin; refine wpList_append_lies rfl (.tmp 5) (.tmp 6) 26 rfl w.heap.size 5 i0 (.int .u8 0) 1 Tryd.underlying26 hi hz0 hz1 hz2 rfl _ 0 [] rfl ho w.heap.size (some ad) l.length c (cellsOf l) rfl (by simp) hl1 (bytes_oneCell l) (by unfold maxLen; omega) (by omega) (by simp) ?_; intro v2 w2 ho2 hg2)
    obtain ⟨A2, c2, rfl, h1, h2, h3⟩ := own_lies ho2
    go_wp2
    go_ret
    simp only [Nat.zero_add, List.nil_append] at h1 h3 ⊢
    exact ⟨A2, c2, rfl, h1, h2, h3, hb.grown hg2 (by simp) (fun k hk => (ho.lt k hk).1)⟩

/-- the error of a byte string that stands at p -/
def bytesE (l : List Int) (p : Int) : Int := if cntE l p 65536 = 0 then roomV l.length (p + 4) (cnt l p) else cntE l p 65536
/-- the byte string that stands at p -/
def bytesA (l : List Int) (p : Int) : List Int := (l.drop (p.toNat + 4)).take (cnt l p)
/-- the offset behind it -/
def bytesB (l : List Int) (p : Int) : Int := p + 4 + cnt l p

theorem cntE_0 {l : List Int} {p : Int} {most : Int} (h : cntE l p most = 0) : 0 ≤ p ∧ p + 4 ≤ l.length ∧ (cnt l p : Int) ≤ most := by
  unfold cntE at h
  split at h
  · rename_i hr
    split at h
    · cases h
    · have := room_is0 hr
      omega
  · rename_i hr
    exact absurd h hr
theorem bytesE_0 {l : List Int} {p : Int} (h : bytesE l p = 0) : cntE l p 65536 = 0 ∧ roomV l.length (p + 4) (cnt l p) = 0 ∧ 0 ≤ p ∧ p + 4 + cnt l p ≤ l.length ∧ cnt l p ≤ 65536 := by
  unfold bytesE at h
  split at h
  · rename_i hc
    have h1 := cntE_0 hc
    have h2 := room_is0 h
    exact ⟨hc, h, h1.1, by omega, by omega⟩
  · rename_i hc
    exact absurd h hc
theorem bytesA_length {l : List Int} {p : Int} (h : bytesE l p = 0) : (bytesA l p).length = cnt l p := by
  have := bytesE_0 h
  unfold bytesA
  rw [List.length_take, List.length_drop]
  omega

/-- a part of a slice -/
theorem Lies.mid {w : World} {B : Nat} {A : Option Addr} {c : Nat} {l : List Int} (h : Lies w B A c (cellsOf l)) {p n : Nat} (hc : l.length ≤ c) :
    Lies w B (if c = p then A else A.map (fun x => x.add p)) (c - p) (cellsOf ((l.drop p).take n)) := by
  refine ⟨(h.cut hc).1, fun j u hu => (h.cut hc).2 j u ?_⟩
  have hj : j < n := by
    have := (List.getElem?_eq_some_iff.1 hu).1
    simp at this
    omega
  simpa [cellsOf, List.getElem?_take, hj] using hu

/-- what reading a byte string returns -/
def BytesOk (w : World) (l : List Int) (p : Int) (e : Ending) (w' : World) : Prop :=
  ∃ A' c', e = .returned (.tuple #[.slice A' (cnt l p) c', .int .i64 (bytesB l p), .int .i64 0]) ∧ cnt l p ≤ c' ∧ c' ≤ maxLen ∧ Lies w' w'.heap.size A' c' (cellsOf (bytesA l p)) ∧ Below w.heap.size w w'

set_option maxHeartbeats 400000 in
theorem bytes_ok (A : Option Addr) (l : List Int) (c : Nat) (p : Int) (w : World) (hc : l.length ≤ c) (hcm : c ≤ maxLen) (hp1 : -9223372036854775808 ≤ p) (hp2 : p ≤ 9223372036854775807) (hl : Lies w w.heap.size A c (cellsOf l)) (hby : Byt l) (he : bytesE l p = 0) :
    Calls Tryd.prog 53 #[.slice A l.length c, .int .i64 p] w (BytesOk w l p) := by
  obtain ⟨h1, h2, h3, h4, h5⟩ := bytesE_0 he
  have hlen := bytesA_length he
  obtain ⟨p, rfl⟩ := Int.eq_ofNat_of_zero_le h3
  have hB : bytesB l p = (p : Int) + 4 + cnt l p := rfl
  have hA : bytesA l p = (l.drop (p + 4)).take (cnt l p) := rfl
  have hmid := hl.mid (p := p + 4) (n := cnt l p) hc
  rw [← hA] at hmid
  have K1 := Lib.hid (readCount_ok A l c p 65536 w w.heap.size hc hcm hp1 hp2 hl hby h1)
  clear hl hby he hA
  unfold maxLen at hcm
  have hr := room_any A l.length c (p + 4) (cnt l p) w (by unfold maxLen; omega) (by omega) (by omega) (by omega) (by omega)
  rw [h2] at hr
  have K2 := Lib.hid hr
  have K3 := fun (A' : Option Addr) (c' : Nat) (h : Lies w w.heap.size A' c' (cellsOf (bytesA l p))) => clone A' (bytesA l p) c' w h (by omega)
  rw [hlen] at K3
  have HLN := Lib.hid hlen
  have K4 := Lib.hid K3
  have HB := Lib.hid hB
  have H1 := Lib.hid h1
  have H2 := Lib.hid h2
  clear h1 h2 hr hlen K3 hB
  generalize hmm : cnt l p = m at *
  have HMM := Lib.hid hmm
  clear hmm
  by_cases hcp : c = p + 4
  · rw [if_pos hcp] at hmid
    have HM := Lib.hid hmid
    clear hmid
    subst hcp
    go_enter Tryd.func53, Tryd.ntmps53
    go_wp2_with fail
    refine K1.out.mono ?_
    rintro e w1 ⟨rfl, rfl⟩
    go_wp2_with fail
    refine K2.out.mono ?_
    rintro e w1 ⟨rfl, rfl⟩
    go_wp2_with fail
    refine (K4.out A 0 (by simpa using HM.out)).mono ?_
    rintro e w2 ⟨A2, c2, rfl, q1, q2, q3, q4⟩
    rw [HLN.out] at q1 ⊢
    go_wp2
    go_ret3
    refine ⟨A2, c2, ?_, by rw [HMM.out]; exact q1, q2, q3, q4⟩
    rw [HMM.out, HB.out]
    rfl
  · rw [if_neg hcp] at hmid
    have HM := Lib.hid hmid
    clear hmid
    have hlt : p + 4 < c := by omega
    go_enter Tryd.func53, Tryd.ntmps53
    go_wp2_with fail
    refine K1.out.mono ?_
    rintro e w1 ⟨rfl, rfl⟩
    go_wp2_with fail
    refine K2.out.mono ?_
    rintro e w1 ⟨rfl, rfl⟩
    go_wp2_with fail
    refine (K4.out _ _ HM.out).mono ?_
    rintro e w2 ⟨A2, c2, rfl, q1, q2, q3, q4⟩
    rw [HLN.out] at q1 ⊢
    go_wp2
    go_ret3
    refine ⟨A2, c2, ?_, by rw [HMM.out]; exact q1, q2, q3, q4⟩
    rw [HMM.out, HB.out]
    rfl

set_option maxHeartbeats 400000 in
theorem bytes_err (A : Option Addr) (l : List Int) (c : Nat) (p : Int) (w : World) (B : Nat) (hc : l.length ≤ c) (hcm : c ≤ maxLen) (hp1 : -9223372036854775808 ≤ p) (hp2 : p ≤ 9223372036854775807) (hl : Lies w B A c (cellsOf l)) (hby : Byt l) (he : bytesE l p ≠ 0) :
    Calls Tryd.prog 53 #[.slice A l.length c, .int .i64 p] w fun e w' => e = .returned (.tuple #[.slice none 0 0, .int .i64 0, .int .i64 (bytesE l p)]) ∧ w = w' := by
  by_cases h1 : cntE l p 65536 = 0
  · have hE : bytesE l p = roomV l.length (p + 4) (cnt l p) := if_pos h1
    obtain ⟨g1, g2, g3⟩ := cntE_0 h1
    have K1 := Lib.hid (readCount_ok A l c p 65536 w B hc hcm hp1 hp2 hl hby h1)
    clear hl hby
    unfold maxLen at hcm
    have K2 := Lib.hid (room_any A l.length c (p + 4) (cnt l p) w (by unfold maxLen; omega) (by omega) (by omega) (by omega) (by omega))
    rw [hE] at he ⊢
    have hne : (roomV l.length (p + 4) (cnt l p) != 0) = true := by simpa using he
    clear hE he h1
    generalize roomV l.length (p + 4) (cnt l p) = r at *
    generalize cnt l p = m at *
    go_enter Tryd.func53, Tryd.ntmps53
    go_wp2_with fail
    refine K1.out.mono ?_
    rintro e w1 ⟨rfl, rfl⟩
    go_wp2_with fail
    refine K2.out.mono ?_
    rintro e w1 ⟨rfl, rfl⟩
    go_wp2
    go_ret3
    exact ⟨rfl, rfl⟩
  · have hE : bytesE l p = cntE l p 65536 := if_neg h1
    have K1 := Lib.hid (readCount_err A l c p 65536 w B hc hcm hp1 hp2 hl hby h1)
    clear hl hby
    rw [hE]
    have hne : (cntE l p 65536 != 0) = true := by simpa using h1
    clear hE he h1
    generalize cntE l p 65536 = r at *
    go_enter Tryd.func53, Tryd.ntmps53
    go_wp2_with fail
    refine K1.out.mono ?_
    rintro e w1 ⟨rfl, rfl⟩
    go_wp2
    go_ret3
    exact ⟨rfl, rfl⟩
end Go.Proofs.YtecjkmemihmkcaaDoor
