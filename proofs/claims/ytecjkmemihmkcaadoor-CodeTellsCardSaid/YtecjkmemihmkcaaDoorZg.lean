/- What 'Put' returns: a module's bytes, or the error. Conditions: none beyond what a module is. -/
import Derived.Test.YtecjkmemihmkcaaDoorZf
namespace Go.Proofs.YtecjkmemihmkcaaDoor
set_option maxRecDepth 100000
open Go.RowKit
set_option linter.unusedSimpArgs false
set_option linter.unusedVariables false

theorem cdsN_next {l : List Cd} {k : Nat} {c : Cd} (h : l[k]? = some c) : cdsN (l.take (k + 1)) = cdsN (l.take k) + cdN c := by
  simp [cdsN, take_next h]
theorem okCd_N {c : Cd} (h : okCd c = true) : cdN c ≤ 270000 := by
  obtain ⟨h1, h2, h3, _⟩ := okCd_is h
  unfold cdN
  omega
theorem cdsN_le {l : List Cd} (h : ∀ c ∈ l, okCd c = true) : ∀ k, k ≤ l.length → cdsN (l.take k) ≤ k * 270000 := by
  intro k
  induction k with
  | zero => intro _; simp [cdsN]
  | succ k ih =>
    intro hk
    have hl : l[k]? = some l[k] := List.getElem?_eq_getElem (by omega)
    rw [cdsN_next hl]
    have := ih (by omega)
    have := okCd_N (h l[k] (List.getElem_mem _))
    omega
theorem szX_le {ls : List (List Int)} (h : ∀ l ∈ ls, l.length ≤ 64) : ∀ k, k ≤ ls.length → szTo ls k ≤ k * 68 := by
  intro k
  induction k with
  | zero => intro _; simp [szTo]
  | succ k ih =>
    intro hk
    have hl : ls[k]? = some ls[k] := List.getElem?_eq_getElem (by omega)
    rw [szTo_next hl]
    have := ih (by omega)
    have := h ls[k] (List.getElem_mem _)
    omega

set_option maxHeartbeats 400000 in
theorem putNumO (n : Int) (w : World) (base : Nat) (hb : base ≤ w.heap.size) : Calls Tryd.prog 24 #[.int .i64 n] w fun e w' => ∃ v, e = .returned v ∧ w'.ownsRow base 5 1 v 8 (cellsOf (be n 7 8)) ∧ Below w.heap.size w w' := by
  obtain ⟨i0, hi, hz0, hz1, hz2⟩ := info_parts info5
  go_enter Tryd.func24, Tryd.ntmps24
  go_wp2_with (at_make; refine wpList_make_own _ rfl _ _ 26 rfl w.heap.size 5 i0 (.int .u8 0) 1 Tryd.underlying26 hi hz0 hz1 _ _ _ 8 rfl rfl (by omega) (by rw [hz2]; omega) (by unfold maxLen; omega) (Nat.le_refl _) ?_; intro w1 ho1 hg1)
  have hs1 := hg1.size
  have hb1 : Below w.heap.size w w1 := (Below.refl _ _).grown hg1 (Nat.le_refl _) (fun k hk => by cases hk)
  refine (appendInt64 _ 0 [] _ _ w.heap.size ho1 (by omega) hs1).mono ?_
  rintro e w2 ⟨v2, rfl, ho2, hb2⟩
  go_wp2
  go_ret
  exact ⟨v2, rfl, own_mono (by simpa using ho2) hb, hb1.trans hb2⟩

/-- what Put returns of a module that is right, and of another one -/
def PutGot (ok : Bool) (l : List Int) (w : World) (e : Ending) (w' : World) : Prop :=
  Below w.heap.size w w' ∧ ((ok = true ∧ ∃ A c, e = .returned (.tuple #[.slice A l.length c, .int .i64 0]) ∧ l.length ≤ c ∧ c ≤ maxLen ∧ Lies w' w'.heap.size A c (cellsOf l) ∧ w'.ownsRow w.heap.size 5 1 (.slice A l.length c) l.length (cellsOf l)) ∨ (ok = false ∧ e = .returned (.tuple #[.slice none 0 0, .int .i64 111])))

set_option maxHeartbeats 800000 in
theorem put (m : Md) (V : Value) (w : World) (h : ModV w w.heap.size m V) (hn : ∀ c ∈ m.codes, Byt c.name) : Calls Tryd.prog 12 #[V] w (PutGot (okMd m) (mdB m) w) := by
  have HM := Lib.hid h
  obtain ⟨C, T, rfl, hC, hT⟩ := h
  obtain ⟨AC, cC, vs, rfl, p1, p2, p3, p4⟩ := hC
  obtain ⟨AT, cT, rfl, q1, q2, q3⟩ := hT
  have HL := Lib.hid p3
  have HS := Lib.hid p4
  have HG := Lib.hid q3
  have HN := Lib.hid hn
  clear p3 p4 q3 hn
  unfold maxLen at p2 q2
  obtain ⟨i0, hi, hz0, hz1, hz2⟩ := info_parts info5
  have HW : Hid (Below w.heap.size w (w.alloc (.cells #[.slice AC m.codes.length cC, .slice AT m.texts.length cT] 25))) := Lib.hid ((Below.refl _ _).alloc (Nat.le_refl _) _)
  have K1 := Lib.hid (right m _ _ ((HM.out.below HW.out).more HW.out.size))
  have CE : Hid (∀ w', Below (w.heap.size + 1) (w.alloc (.cells #[.slice AC m.codes.length cC, .slice AT m.texts.length cT] 25)) w' → w'.cell? ⟨w.heap.size, 0, none⟩ = some (.slice AC m.codes.length cC) ∧ w'.cell? ⟨w.heap.size, 1, none⟩ = some (.slice AT m.texts.length cT)) := fun w' hb => by
    have hx : w'.heap[w.heap.size]? = some (.cells #[.slice AC m.codes.length cC, .slice AT m.texts.length cT] 25) := by rw [hb.block _ (Nat.lt_succ_self _)]; exact heap_alloc_new w _
    exact ⟨by rw [cell_of_row _ _ _ _ _ _ hx]; rfl, by rw [cell_of_row _ _ _ _ _ _ hx]; rfl⟩
  go_enter Tryd.func12, Tryd.ntmps12
  go_wp2_with fail
  refine K1.out.mono ?_
  clear K1
  rintro e w1 ⟨rfl, hb1⟩
  have B1 : Hid (Below w.heap.size w w1) := Lib.hid (HW.out.trans (hb1.mono HW.out.size))
  have C1 : Hid (Below (w.heap.size + 1) (w.alloc (.cells #[.slice AC m.codes.length cC, .slice AT m.texts.length cT] 25)) w1) := Lib.hid (hb1.mono (by simp))
  have d0 := (CE.out _ C1.out).1
  have d1 := (CE.out _ C1.out).2
  clear hb1 HW
  cases hq : okMd m with
  | false =>
    go_wp2
    go_ret2
    exact ⟨B1.out, .inr ⟨hq, rfl⟩⟩
  | true =>
    obtain ⟨h1, h2, h3, h4⟩ := okMd_is hq
    have h3 := List.all_eq_true.1 h3
    have hx := okTexts hq
    have HO := Lib.hid h3
    have HZ := Lib.hid (cdsN_le h3)
    have hzt := szX_le hx _ (Nat.le_refl _)
    have HX : Hid (∀ l ∈ m.texts, l.length ≤ 65536) := fun l hl => by have := hx l hl; omega
    have HLN := Lib.hid (mdB_len m)
    have hzall := HZ.out m.codes.length (Nat.le_refl _)
    rw [List.take_length] at hzall
    have hs1 := C1.out.size
    simp only [World.size_alloc] at hs1
    have K1 := Lib.hid (putNumO (m.codes.length : Int) w1 (w.heap.size + 1) hs1)
    have HQ := Lib.hid hq
    clear h3 h4 hx hq HM
    go_wp2_with fail
    refine K1.out.mono ?_
    clear K1
    rintro e w2 ⟨v2, rfl, ho2, hb2⟩
    have C2 := Lib.hid (C1.out.trans (hb2.mono hs1))
    have B2 := Lib.hid (B1.out.trans (hb2.mono B1.out.size))
    have O2 := Lib.hid ho2
    have e0 := (CE.out _ C2.out).1
    clear ho2 hb2 d0 d1 C1 B1
    go_wp2_with fail
    go_loopw [4, 19] (fun v i wr => ∃ k : Nat, k ≤ m.codes.length ∧ i = .int .i64 k ∧ wr.ownsRow (w.heap.size + 1) 5 1 v (8 + cdsN (m.codes.take k)) (cellsOf (be (m.codes.length : Int) 7 8 ++ (m.codes.take k).flatMap cdB)) ∧ Below (w.heap.size + 1) (w.alloc (.cells #[.slice AC m.codes.length cC, .slice AT m.texts.length cT] 25)) wr) (fun _ i _ => m.codes.length - (intOf i).toNat)
    case atStart => exact ⟨0, Nat.zero_le _, rfl, by simpa [cdsN] using O2.out, C2.out⟩
    case round =>
      clear O2 e0 C2
      obtain ⟨k, hk, rfl, ho, hb⟩ := hrel
      have hsz := HZ.out k hk
      have hwr := hb.size
      simp only [World.size_alloc] at hwr
      have HB := Lib.hid hb
      have HOW := Lib.hid ho
      clear hb ho
      have HBW : Hid (Below w.heap.size w wr) := Lib.hid (((Below.refl _ _).alloc (Nat.le_refl _) _).trans (HB.out.mono (Nat.le_succ _)))
      by_cases hkl : k < m.codes.length
      · obtain ⟨x, hx⟩ : ∃ x, m.codes[k]? = some x := ⟨_, List.getElem?_eq_getElem hkl⟩
        have hmem := List.mem_of_getElem? hx
        obtain ⟨g1, g2, g3, _⟩ := okCd_is (HO.out x hmem)
        have HXN := Lib.hid (cdsN_next hx)
        have HXB := Lib.hid (flat_snoc cdB hx)
        obtain ⟨P, I, hP, hI, hget⟩ := HS.out.get hx
        obtain ⟨AP, cP, rfl, r1, r2, r3⟩ := hP
        obtain ⟨AI, cI, rfl, s1, s2, s3⟩ := hI
        obtain ⟨b, o, rfl, hB, hcc⟩ := lies_flat HL.out (hget 0 _ rfl)
        have HR : Hid (wr.rangeAt b (o + k * 5) (coC x (.slice AP x.params.length cP) (.slice AI x.instrs.length cI))) := fun j u hu => by
          show wr.cell? ⟨b, o + k * 5 + j, none⟩ = some u
          rw [Nat.add_assoc, HBW.out.cell hB]
          exact hcc _ _ (hget j u hu)
        have HV : Hid (CodeV w w.heap.size x (.agg #[.string (strOfNums x.name), .slice AP x.params.length cP, .int .i64 x.result, .int .i64 x.slots, .slice AI x.instrs.length cI])) := ⟨_, _, rfl, ⟨AP, cP, rfl, r1, r2, r3⟩, ⟨AI, cI, rfl, s1, s2, s3⟩⟩
        have hnx := HN.out x hmem
        clear r3 s3 hget hx hcc hmem
        unfold maxLen at r2 s2
        go_wp2_with (first | (refine wpList_load_mid rfl 46 (.tmp 21) rfl b (o + k * 5) rfl [.string (strOfNums x.name), .slice AP x.params.length cP, .int .i64 x.result, .int .i64 x.slots, .slice AI x.instrs.length cI] _ HR.out Tryd.underlying46 rfl info46s ?_; refine Hid.out ?_) | fail)
        refine Lib.hid ?_
        go_wp2_with fail
        have hal := (Below.refl wr.heap.size wr).alloc (Nat.le_refl _) (.cells #[.string (strOfNums x.name), .slice AP x.params.length cP, .int .i64 x.result, .int .i64 x.slots, .slice AI x.instrs.length cI] 46)
        refine (appendCode _ _ _ x _ _ (w.heap.size + 1) (own_below HOW.out hal (Nat.le_refl _)) (by omega) (by simp; omega) ((HV.out.below (HBW.out.trans (hal.mono HBW.out.size)) (Nat.le_refl _)).below (Below.refl _ _) (by omega)) hnx g1 g2 g3).mono ?_
        rintro e w5 ⟨v5, rfl, ho5, hb5⟩
        have O5 : Hid (w5.ownsRow (w.heap.size + 1) 5 1 v5 (8 + cdsN (m.codes.take (k + 1))) (cellsOf (be (m.codes.length : Int) 7 8 ++ (m.codes.take (k + 1)).flatMap cdB))) := Lib.hid (own_eq ho5 (by rw [HXN.out]; omega) (by rw [HXB.out]; simp [cellsOf]))
        have B5 := Lib.hid ((HB.out.trans (hal.mono hwr)).trans hb5)
        clear ho5 hb5 hal
        go_wp2
        go_roundw
        case rel => exact ⟨k + 1, by omega, by go_num, O5.out, B5.out⟩
        case measure => simp [intOf]; omega
      · obtain rfl : k = m.codes.length := by omega
        have d1 := (CE.out _ HB.out).2
        have K2 := Lib.hid (putRow AT cT m.texts wr (((HG.out.below HBW.out)).more HBW.out.size) h2 HX.out)
        go_wp2_with fail
        refine K2.out.mono ?_
        rintro e w6 ⟨A6, c6, rfl, t1, t2, t3, hb6⟩
        have O6 := Lib.hid (own_below HOW.out hb6 (Nat.le_refl _))
        have T6 := Lib.hid t3
        have B6 := Lib.hid (HBW.out.trans (hb6.mono HBW.out.size))
        have hwr6 := Nat.le_trans hwr hb6.size
        have HRL := Lib.hid (rowBytes_length m.texts)
        have hrb : (rowBytes m.texts).length ≤ 100000 := by rw [HRL.out]; omega
        clear t3 hb6 K2 d1
        rw [List.take_length] at O6
        go_wp2_with (at_builtin; (refine wpList_append_gro _ rfl (.tmp 33) (.tmp 34) 26 rfl (w.heap.size + 1) 5 i0 (.int .u8 0) 1 1 Tryd.underlying26 hi hz0 hz1 hz2 rfl (by omega) u4 _ _ rfl O6.out w6.heap.size A6 (rowBytes m.texts).length c6 (cellsOf (rowBytes m.texts)) rfl (by simp) T6.out (bytes_oneCell _) (by unfold maxLen; omega) (by omega) hwr6 ?_); intro v7 w7 ho7 hg7)
        have B7 := Lib.hid (B6.out.trans ((hg7.below O6.out hwr6).mono (Nat.le_succ _)))
        have O7 : w7.ownsRow (w.heap.size + 1) 5 1 v7 (mdB m).length (cellsOf (mdB m)) := own_eq ho7 (by rw [HLN.out, HRL.out]; omega) (by simp [cellsOf, mdB])
        obtain ⟨A7, c7, rfl, z1, z2, z3⟩ := own_lies O7
        have O8 := Lib.hid (own_mono O7 (Nat.le_succ w.heap.size))
        clear O7
        clear ho7 hg7
        go_wp2
        go_ret2
        exact ⟨B7.out, .inl ⟨HQ.out, A7, c7, rfl, z1, z2, z3, O8.out⟩⟩

end Go.Proofs.YtecjkmemihmkcaaDoor
