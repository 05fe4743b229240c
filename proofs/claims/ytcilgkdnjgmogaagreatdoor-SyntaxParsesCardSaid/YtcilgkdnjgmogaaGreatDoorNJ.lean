/- What the program's writer does with a block. -/
import Derived.Test.YtcilgkdnjgmogaaGreatDoorNI
import Derived.Test.YtcilgkdnjgmogaaGreatDoorNG
namespace Go.Proofs.YtcilgkdnjgmogaaGreatDoor
section
section
open Go.RowKit
set_option maxRecDepth 100000
set_option linter.unusedSimpArgs false
set_option linter.unusedVariables false
theorem StsC.get {w : World} {D : Nat → Prop} {l : List St} {V : Value} (h : StsC w D l V) {i : Nat} {s : St} (he : l[i]? = some s) : ∃ (b o c : Nat) (k : Three), V = .slice (some ⟨b, o, none⟩) l.length c ∧ l.length ≤ c ∧ c ≤ maxLen ∧ D b ∧ w.rangeAt b (o + i * 6) (stC s k.e k.b k.f) ∧ ExsC w D s.exprs k.e ∧ StsC w D s.body k.b ∧ StsC w D s.els k.f := by
 cases h with
 | mk _ ks _ hk h1 h2 h3 h4 =>
  have hi := (List.getElem?_eq_some_iff.1 he).1
  have hk' : ks[i]? = some ks[i] := List.getElem?_eq_getElem (by omega)
  generalize ks[i] = k at hk'
  have hg := fun j hj => zip_get (f := fun (s : St) (k : Three) => stC s k.e k.b k.f) (m := 6) (fun _ _ => rfl) l ks i j s k he hk' hj
  obtain ⟨b, o, c, rfl, a1, a2, a3, a4⟩ := h1.plain (by
   intro e0
   have := hg 0 (by omega)
   unfold stsC at e0
   rw [e0] at this
   simp [stC] at this)
  refine ⟨b, o, c, k, rfl, a1, a2, a3, fun j v hv => ?_, h2 i s k he hk', h3 i s k he hk', h4 i s k he hk'⟩
  have hj : j < 6 := by
   have := (List.getElem?_eq_some_iff.1 hv).1
   simpa [stC] using this
  rw [Nat.add_assoc]
  exact a4 _ v ((hg j hj).trans hv)
theorem range_below {R b o : Nat} {w w' : World} {cs : List Value} (h : w.rangeAt b o cs) (hb : Below R w w') (hR : b < R) : w'.rangeAt b o cs := fun j v hv => by
 rw [hb.cell (p := ⟨b, o + j, none⟩) hR]
 exact h j v hv
theorem showB_take (l : List St) (k : Nat) (s : St) (h : l[k]? = some s) : showB (l.take (k + 1)) = showB (l.take k) ++ [32] ++ showS s := by
 rw [List.take_add_one, h]
 exact showB_snoc _ _
theorem showB_append : ∀ a b : List St, showB (a ++ b) = showB a ++ showB b
 | [], b => by simp [showB]
 | x :: a, b => by simp [showB, showB_append a b]
theorem showB_le (l : List St) (k : Nat) : (showB (l.take k)).length ≤ (showB l).length := by
 have : showB l = showB (l.take k) ++ showB (l.drop k) := by rw [← showB_append, List.take_append_drop]
 rw [this]
 simp
set_option maxHeartbeats 1600000 in
theorem block_of {R : Nat} {T : World → Prop} (hT0 : ∀ w w', T w → Below R w w' → T w') (l : List St) (hS : ∀ s ∈ l, StmtOk R T s) : BlockWr R T l := by
 intro V t w hW hT hV hlen
 obtain ⟨A, c, rfl⟩ := stsC_sl hV
 have hlR := hW.lt
 have hl2 : t.length + (1 + (showB l).length + 2) ≤ 140737488355328 := by simp [blockT] at hlen; omega
 have K := Lib.hid (put1z R ⟨#[123]⟩ [123] t w hW (by kernel_rfl) (by simp; omega) w.heap.size rfl)
 have HW := Lib.hid hW
 have HV := Lib.hid hV
 have HT := Lib.hid hT
 have HL := Lib.hid hl2
 have HM := Lib.hid hS
 clear hW hV hT hl2 hlen hS
 go_enter Tryz.func100, Tryz.ntmps100
 go_wp2_with fail
 (with_reducible refine K.out.mono ?_)
 clear K
 rintro e' w1 hp1
 have hr1 := hp1.1
 subst hr1
 have HS1 : Hid (Stp R w (t ++ [123] ++ showB (l.take 0)) w1) := by
  have := (Stp.start HW.out).next hp1
  show Stp _ _ _ _
  simpa [showB] using this
 clear hp1
 go_wp2
 go_loopw [5, 11] (fun _ i wr => ∃ k : Nat, k ≤ l.length ∧ i = .int .i64 k ∧ Stp R w (t ++ [123] ++ showB (l.take k)) wr) (fun _ i _ => l.length - (intOf i).toNat)
 case atStart => exact ⟨0, Nat.zero_le _, rfl, HS1.out⟩
 case round =>
  obtain ⟨k, hk, rfl, hS⟩ := hrel
  have HS2 := Lib.hid hS
  clear hS
  by_cases hlt : k < l.length
  ·have he : l[k]? = some l[k] := List.getElem?_eq_getElem hlt
   generalize l[k] = s at he
   obtain ⟨b, o, c', q, hVe, a1, a2, a3, a4, a5, a6, a7⟩ := HV.out.get he
   injection hVe with e1 e2 e3
   subst e1 e3
   obtain ⟨qe, qb, qf⟩ := q
   obtain ⟨Ae, ce, rfl⟩ := exsC_slice a5
   obtain ⟨Ab, cb, rfl⟩ := stsC_sl a6
   obtain ⟨Af, cf, rfl⟩ := stsC_sl a7
   have hR : wr.rangeAt b (o + k * 6) [.int .i64 s.op, .string (strN s.text), .slice Ae s.exprs.length ce, .slice Ab s.body.length cb, .slice Af s.els.length cf, .int .i64 s.place] := range_below a4 HS2.out.2.1 a3
   have HR := Lib.hid hR
   have hsB := showB_take l k s he
   have hle := showB_le l (k + 1)
   rw [hsB] at hle
   simp only [List.length_append, List.length_cons, List.length_nil] at hle
   have HSB := Lib.hid hsB
   have HLE := Lib.hid hle
   have hmem := List.mem_of_getElem? he
   unfold maxLen at a2
   have hWr := HS2.out.1
   have S3 := HS2.out.trans (Stp.alloc hWr (.cells #[.int .i64 s.op, .string (strN s.text), .slice Ae s.exprs.length ce, .slice Ab s.body.length cb, .slice Af s.els.length cf, .int .i64 s.place] 145))
   have hll := HL.out
   have K := Lib.hid (put1z R ⟨#[32]⟩ [32] _ _ S3.1 (by kernel_rfl) (by simp only [List.length_append, List.length_cons, List.length_nil]; omega) (wr.heap.size + 1) (by simp))
   have HBk := Lib.hid (heap_alloc_new wr (.cells #[.int .i64 s.op, .string (strN s.text), .slice Ae s.exprs.length ce, .slice Ab s.body.length cb, .slice Af s.els.length cf, .int .i64 s.place] 145))
   have hlr := hWr.lt
   have HS3 := Lib.hid S3
   have HA : Hid (ExsC w (· < R) s.exprs (.slice Ae s.exprs.length ce) ∧ StsC w (· < R) s.body (.slice Ab s.body.length cb) ∧ StsC w (· < R) s.els (.slice Af s.els.length cf)) := ⟨a5, a6, a7⟩
   have hst := HM.out s hmem
   clear a4 a5 a6 a7 hR he hsB hle hWr S3 hll
   have HSt := Lib.hid hst
   clear hst
   go_wp2_with (first | (refine wpList_load_mid rfl 145 (.tmp 13) rfl b (o + k * 6) rfl [.int .i64 s.op, .string (strN s.text), .slice Ae s.exprs.length ce, .slice Ab s.body.length cb, .slice Af s.els.length cf, .int .i64 s.place] _ HR.out Tryz.underlying145 rfl info43s ?_; refine Hid.out ?_) | fail)
   refine Lib.hid ?_
   go_wp2_with fail
   generalize wr.alloc (.cells #[.int .i64 s.op, .string (strN s.text), .slice Ae s.exprs.length ce, .slice Ab s.body.length cb, .slice Af s.els.length cf, .int .i64 s.place] 145) = w3 at *
   (with_reducible refine K.out.mono ?_)
   clear K
   rintro e' w4 hp1
   have hr1 := hp1.1
   subst hr1
   have h4 := (Stp.start HS3.out.1).next hp1
   have b4 := h4.block HBk.out (by omega) (by decide)
   have HS4 := Lib.hid (HS3.out.trans h4)
   have HR4 := Lib.hid (range_of (cs := [.int .i64 s.op, .string (strN s.text), .slice Ae s.exprs.length ce, .slice Ab s.body.length cb, .slice Af s.els.length cf, .int .i64 s.place]) b4)
   have hll := HL.out
   have hle := HLE.out
   have hbl := HS4.out.2.1
   have K := Lib.hid (HSt.out ⟨_, _, _⟩ _ w4 HS4.out.1 (hT0 _ _ HT.out hbl) (HA.out.1.same (below_same hbl)) (HA.out.2.1.same (below_same hbl)) (HA.out.2.2.same (below_same hbl)) (by simp only [List.length_append, List.length_cons, List.length_nil]; omega))
   clear hp1 h4 b4 hll hle hbl
   change Hid (Calls Tryz.prog 138 #[.pointer (some ⟨R, 0, none⟩), .agg #[.int .i64 s.op, .string (strN s.text), .slice Ae s.exprs.length ce, .slice Ab s.body.length cb, .slice Af s.els.length cf, .int .i64 s.place]] w4 _) at K
   go_wp2_with (first | (refine wpList_load_mid rfl 145 (.tmp 5) rfl wr.heap.size 0 rfl [.int .i64 s.op, .string (strN s.text), .slice Ae s.exprs.length ce, .slice Ab s.body.length cb, .slice Af s.els.length cf, .int .i64 s.place] _ HR4.out Tryz.underlying145 rfl info43s ?_; refine Hid.out ?_) | fail)
   refine Lib.hid ?_
   go_wp2_with fail
   (with_reducible refine K.out.mono ?_)
   clear K
   rintro e' w5 hp1
   have hr1 := hp1.1
   subst hr1
   have HS5 : Hid (Stp R w (t ++ [123] ++ showB (l.take (k + 1))) w5) := by
    have := HS4.out.next hp1
    rw [HSB.out]
    show Stp _ _ _ _
    simpa using this
   clear hp1
   go_wp2
   go_roundw
   case rel => exact ⟨k + 1, by omega, by go_num, HS5.out⟩
   case measure => simp [intOf]; omega
  ·have hkn : k = l.length := by omega
   have HS3 : Hid (Stp R w (t ++ [123] ++ showB l) wr) := by
    have := HS2.out
    rw [hkn, List.take_length] at this
    exact this
   have hll := HL.out
   have K := Lib.hid (put1z R ⟨#[32, 125]⟩ [32, 125] _ wr HS3.out.1 (by kernel_rfl) (by simp; omega) wr.heap.size rfl)
   clear hkn hll
   go_wp2_with fail
   (with_reducible refine K.out.mono ?_)
   clear K
   rintro e' w5 hp1
   have hr1 := hp1.1
   subst hr1
   have HS5 : Hid (Stp R w (t ++ blockT (showB l)) w5) := by
    have := HS3.out.next hp1
    show Stp _ _ _ _
    simpa [blockT] using this
   clear hp1
   go_wp2
   first | go_end0 | skip
   exact HS5.out.puts
mutual
def numsS (p : Nat → Bool) : St → Bool
 | .mk _ _ e b f _ => numsL p e && numsB p b && numsB p f
def numsB (p : Nat → Bool) : List St → Bool
 | [] => true
 | s :: r => numsS p s && numsB p r
end
theorem numsB_mem {p : Nat → Bool} : ∀ {l : List St}, numsB p l = true → ∀ s ∈ l, numsS p s = true
 | [], _, s, h => by simp at h
 | x :: r, hl, s, h => by
  simp [numsB] at hl
  rcases List.mem_cons.1 h with rfl | h
  ·exact hl.1
  ·exact numsB_mem hl.2 s h
theorem stmt_ok {R : Nat} {T : World → Prop} {p : Nat → Bool} (hF : Fm R p T) : ∀ s : St, numsS p s = true → StmtOk R T s
 | .mk op text exprs body els place, h => by
  simp only [numsS, Bool.and_eq_true] at h
  have hE : ∀ x ∈ exprs, ExprWr R T x := fun x hx => expr_wr hF x (numsL_mem h.1.1 x hx)
  have hB : BlockWr R T body := block_of hF.kept body fun s hs => stmt_ok hF s (numsB_mem h.1.2 s hs)
  have hL : BlockWr R T els := block_of hF.kept els fun s hs => stmt_ok hF s (numsB_mem h.2 s hs)
  by_cases h0 : op = 0 ∨ 8 < op
  ·exact stmt0 op text exprs body els place h0
  by_cases h1 : op = 1
  ·exact stmt1 hF.kept op text exprs body els place h1 hE hB hL
  by_cases h2 : op = 2
  ·exact stmt2 hF.kept op text exprs body els place h2 hE hB hL
  by_cases h3 : op = 3
  ·exact stmt3 hF.kept op text exprs body els place h3 hE hB hL
  by_cases h4 : op = 4
  ·exact stmt4 hF.kept op text exprs body els place h4 hE hB hL
  by_cases h5 : op = 5
  ·by_cases hc : exprs = []
   ·exact stmt5n hF.kept op text exprs body els place h5 hc hE hB hL
   ·exact stmt5y hF.kept op text exprs body els place h5 hc hE hB hL
  by_cases h6 : op = 6
  ·exact stmt6 hF.kept op text exprs body els place h6 hE hB hL
  by_cases h7 : op = 7
  ·exact stmt7 hF.kept op text exprs body els place h7 hE hB hL
  exact stmt8 hF.kept op text exprs body els place (by omega) hE hB hL
termination_by s => SizeOf.sizeOf s
decreasing_by
 ·have := List.sizeOf_lt_of_mem hs
  simp
  omega
 ·have := List.sizeOf_lt_of_mem hs
  simp
  omega
theorem block_ok {R : Nat} {T : World → Prop} {p : Nat → Bool} (hF : Fm R p T) (l : List St) (h : numsB p l = true) : BlockWr R T l := block_of hF.kept l fun s hs => stmt_ok hF s (numsB_mem h s hs)
end
section
open Go.RowKit
set_option maxRecDepth 100000
set_option linter.unusedSimpArgs false
set_option linter.unusedVariables false
theorem typeN1 : strN [105, 110, 116] = ⟨#[105, 110, 116]⟩ := by kernel_rfl
theorem typeN2 : strN [98, 111, 111, 108] = ⟨#[98, 111, 111, 108]⟩ := by kernel_rfl
theorem typeN3 : strN [98, 121, 116, 101, 115] = ⟨#[98, 121, 116, 101, 115]⟩ := by kernel_rfl
theorem typeN0 : strN [] = ⟨#[]⟩ := by kernel_rfl
theorem typeName (t : Nat) (w : World) : Calls Tryz.prog 99 #[.int .i64 t] w fun e w' => e = .returned (.string (strN (typeT t))) ∧ w = w' := by
 by_cases h1 : t = 1
 ·have q1 : (((t : Nat) : Int) == 1) = true := by rw [h1]; rfl
  rw [show typeT t = [105, 110, 116] by subst h1; rfl, typeN1]
  clear h1
  go_enter Tryz.func99, Tryz.ntmps99
  go_wp2
  go_ret
  exact ⟨rfl, rfl⟩
 by_cases h2 : t = 2
 ·have q1 : (((t : Nat) : Int) == 1) = false := by rw [h2]; rfl
  have q2 : (((t : Nat) : Int) == 2) = true := by rw [h2]; rfl
  rw [show typeT t = [98, 111, 111, 108] by subst h2; rfl, typeN2]
  clear h1 h2
  go_enter Tryz.func99, Tryz.ntmps99
  go_wp2
  go_ret
  exact ⟨rfl, rfl⟩
 by_cases h3 : t = 3
 ·have q1 : (((t : Nat) : Int) == 1) = false := by rw [h3]; rfl
  have q2 : (((t : Nat) : Int) == 2) = false := by rw [h3]; rfl
  have q3 : (((t : Nat) : Int) == 3) = true := by rw [h3]; rfl
  rw [show typeT t = [98, 121, 116, 101, 115] by subst h3; rfl, typeN3]
  clear h1 h2 h3
  go_enter Tryz.func99, Tryz.ntmps99
  go_wp2
  go_ret
  exact ⟨rfl, rfl⟩
 ·have q1 : (((t : Nat) : Int) == 1) = false := by rw [beq_eq_false_iff_ne]; omega
  have q2 : (((t : Nat) : Int) == 2) = false := by rw [beq_eq_false_iff_ne]; omega
  have q3 : (((t : Nat) : Int) == 3) = false := by rw [beq_eq_false_iff_ne]; omega
  rw [show typeT t = [] by unfold typeT; rw [if_neg h1, if_neg h2, if_neg h3], typeN0]
  clear h1 h2 h3
  go_enter Tryz.func99, Tryz.ntmps99
  go_wp2
  go_ret
  exact ⟨rfl, rfl⟩
theorem pasC_get : ∀ (l : List (List Nat × Nat)) (i j : Nat) (p : List Nat × Nat), l[i]? = some p → j < 2 → (pasC l)[i * 2 + j]? = (paC p)[j]?
 | [], i, j, p, h, _ => by simp at h
 | x :: l, 0, j, p, h, hj => by
  simp at h
  subst h
  show (paC x ++ pasC l)[0 * 2 + j]? = _
  rw [List.getElem?_append_left (by simp [paC]; omega)]
  simp
 | x :: l, i + 1, j, p, h, hj => by
  have ih := pasC_get l i j p (by simpa using h) hj
  show (paC x ++ pasC l)[(i + 1) * 2 + j]? = _
  rw [List.getElem?_append_right (by simp [paC]; omega)]
  rw [show (i + 1) * 2 + j - (paC x).length = i * 2 + j by simp [paC]; omega]
  exact ih
theorem param_get {w : World} {D : Nat → Prop} {l : List (List Nat × Nat)} {V : Value} (h : RowF w D l.length (pasC l) V) {i : Nat} {p : List Nat × Nat} (he : l[i]? = some p) : ∃ (b o c : Nat), V = .slice (some ⟨b, o, none⟩) l.length c ∧ l.length ≤ c ∧ c ≤ maxLen ∧ D b ∧ w.cell? ⟨b, o + i * 2, none⟩ = some (.string (strN p.1)) ∧ w.cell? ⟨b, o + i * 2 + 1, none⟩ = some (.int .i64 p.2) := by
 have hg := fun j hj => pasC_get l i j p he hj
 obtain ⟨b, o, c, rfl, a1, a2, a3, a4⟩ := h.plain (by
  intro e0
  have := hg 0 (by omega)
  rw [e0] at this
  simp [paC] at this)
 exact ⟨b, o, c, rfl, a1, a2, a3, a4 _ _ (hg 0 (by omega)), a4 _ _ (hg 1 (by omega))⟩
theorem Stp.drew {R : Nat} {w0 w : World} {t : List Nat} (h : Stp R w0 t w) : Stp R w0 t w.drew := ⟨h.1, h.2.1.drew, h.2.2.drew⟩
def FnI (R b c : Nat) (T : World → Prop) (f : Fu) (P B : Value) (w : World) : Prop :=
 w.heap[b]? = some (.cells #[.pointer (some ⟨R, 0, none⟩)] 123 (0, 0)) ∧ w.heap[c]? = some (.cells #[.string (strN f.name), P, .int .i64 f.result, B, .int .i64 f.place] 69 (0, 0)) ∧ T w ∧ RowF w (· < R) f.params.length (pasC f.params) P ∧ StsC w (· < R) f.body B
theorem FnI.kept {R b c : Nat} {T : World → Prop} {f : Fu} {P B : Value} {w w' : World} (hT : ∀ w w', T w → Below R w w' → T w') (hb : b ≠ R) (hc : c ≠ R) (h : FnI R b c T f P B w) (h1 : Below R w w') (h2 : Lib.OthersKept 5 (some R) w w') : FnI R b c T f P B w' :=
 ⟨h2 b _ h.1 (by simpa using hb) (by intro a z e; injection e with e1 e2 e3; cases e2), h2 c _ h.2.1 (by simpa using hc) (by intro a z e; injection e with e1 e2 e3; cases e2), hT _ _ h.2.2.1 h1, h.2.2.2.1.same (below_same h1), h.2.2.2.2.same (below_same h1)⟩
theorem ent24 : EntC 98 := by intro args w; simp
theorem paramT_at {l : List (List Nat × Nat)} {i : Nat} {p : List Nat × Nat} (h : l[i]? = some p) : paramT l i = p.1 ++ [58, 32] ++ typeT p.2 := by
 unfold paramT
 rw [h]
theorem row_slice {w : World} {D : Nat → Prop} {n : Nat} {xs : List Value} {V : Value} (h : RowF w D n xs V) : ∃ A c, V = .slice A n c := by
 obtain ⟨A, c, e, _⟩ := h
 exact ⟨A, c, e⟩
set_option maxHeartbeats 1600000 in
theorem paramW (R b c : Nat) (T : World → Prop) (f : Fu) (P B : Value) (i : Nat) (hi : i < f.params.length) (t : List Nat) (w : World) (hW : Wr R t w) (hI : FnI R b c T f P B w) (hbR : b ≠ R) (hcR : c ≠ R) (hlen : (t ++ paramT f.params i).length ≤ 140737488355328) :
  Calls Tryz.prog 98 #[.int .i64 i, .pointer (some ⟨b, 0, none⟩), .pointer (some ⟨c, 0, none⟩)] w (Puts R t (paramT f.params i) w) := by
 have he : f.params[i]? = some f.params[i] := List.getElem?_eq_getElem hi
 generalize f.params[i] = p at he
 rw [paramT_at he] at hlen ⊢
 obtain ⟨g, o, cp, rfl, a1, a2, a3, a4, a5⟩ := param_get hI.2.2.2.1 he
 have c1 : w.cell? ⟨b, 0, none⟩ = some (.pointer (some ⟨R, 0, none⟩)) := by rw [Lib.cell_of_heap hI.1]; rfl
 have c2 : w.cell? ⟨c, 1, none⟩ = some (.slice (some ⟨g, o, none⟩) f.params.length cp) := by rw [Lib.cell_of_heap hI.2.1]; rfl
 have HD : Hid (Stp R w t w.drew) := (Stp.start hW).drew
 have HS : Hid (∀ u w', Stp R w u w' → w'.cell? ⟨b, 0, none⟩ = some (.pointer (some ⟨R, 0, none⟩)) ∧ w'.cell? ⟨c, 1, none⟩ = some (.slice (some ⟨g, o, none⟩) f.params.length cp) ∧ w'.cell? ⟨g, o + i * 2, none⟩ = some (.string (strN p.1)) ∧ w'.cell? ⟨g, o + i * 2 + 1, none⟩ = some (.int .i64 p.2)) := fun u w' h => by
  have b1 := h.block hI.1 hbR (by decide)
  have b2 := h.block hI.2.1 hcR (by decide)
  refine ⟨by rw [Lib.cell_of_heap b1]; rfl, by rw [Lib.cell_of_heap b2]; rfl, ?_, ?_⟩
  ·rw [h.2.1.cell (p := ⟨g, o + i * 2, none⟩) a3]; exact a4
  ·rw [h.2.1.cell (p := ⟨g, o + i * 2 + 1, none⟩) a3]; exact a5
 unfold maxLen at a2
 generalize f.params.length = n at *
 have HLn := Lib.hid hlen
 clear hW hI hlen he c1 c2 a4 a5
 go_enter Tryz.func98, Tryz.ntmps98
 go_wp2_with fail
 refine wp_region_held_drew (S := fun w' => w'.cell? ⟨b, 0, none⟩ = some (.pointer (some ⟨R, 0, none⟩)) ∧ w'.cell? ⟨c, 1, none⟩ = some (.slice (some ⟨g, o, none⟩) n cp) ∧ w'.cell? ⟨g, o + i * 2, none⟩ = some (.string (strN p.1)) ∧ w'.cell? ⟨g, o + i * 2 + 1, none⟩ = some (.int .i64 p.2)) (by kernel_rfl) (HS.out _ _ HD.out) (fun hHeld => ?_)
 refine wpAnyH_take (i := 0) (v := ?va0) rfl (by kernel_rfl) (by kernel_rfl) (by kernel_rfl) (fun _ _ _ h => h) (Or.inl ⟨by kernel_rfl, ?ya0⟩) (by assumption) ?ra0
 case ya0 => (intro w hSw; (try dsimp only at hSw); obtain ⟨s1, s2, s3, s4⟩ := hSw; go_simp; (try with_reducible rfl))
 try simp only [Act.put, List.getElem_toArray, List.getElem_cons_zero, List.getElem_cons_succ, List.setIfInBounds_toArray, List.set_cons_zero, List.set_cons_succ]
 refine wpAnyH_take (i := 1) (v := ?va1) rfl (by kernel_rfl) (by kernel_rfl) (by kernel_rfl) (fun _ _ _ h => h) (Or.inl ⟨by kernel_rfl, ?ya1⟩) (by assumption) ?ra1
 case ya1 => (intro w hSw; (try dsimp only at hSw); obtain ⟨s1, s2, s3, s4⟩ := hSw; go_simp; (try with_reducible rfl))
 try simp only [Act.put, List.getElem_toArray, List.getElem_cons_zero, List.getElem_cons_succ, List.setIfInBounds_toArray, List.set_cons_zero, List.set_cons_succ]
 refine wpAnyH_take (i := 2) (v := ?va2) rfl (by kernel_rfl) (by kernel_rfl) (by kernel_rfl) (fun _ _ _ h => h) (Or.inl ⟨by kernel_rfl, ?ya2⟩) (by assumption) ?ra2
 case ya2 => (intro w hSw; (try dsimp only at hSw); obtain ⟨s1, s2, s3, s4⟩ := hSw; go_simp; (try with_reducible rfl))
 try simp only [Act.put, List.getElem_toArray, List.getElem_cons_zero, List.getElem_cons_succ, List.setIfInBounds_toArray, List.set_cons_zero, List.set_cons_succ]
 refine wpAnyH_take (i := 3) (v := ?va3) rfl (by kernel_rfl) (by kernel_rfl) (by kernel_rfl) (fun _ _ _ h => h) (Or.inl ⟨by kernel_rfl, ?ya3⟩) (by assumption) ?ra3
 case ya3 => (intro w hSw; (try dsimp only at hSw); obtain ⟨s1, s2, s3, s4⟩ := hSw; go_simp; (try with_reducible rfl))
 try simp only [Act.put, List.getElem_toArray, List.getElem_cons_zero, List.getElem_cons_succ, List.setIfInBounds_toArray, List.set_cons_zero, List.set_cons_succ]
 refine wpAnyH_take (i := 4) (v := ?va4) rfl (by kernel_rfl) (by kernel_rfl) (by kernel_rfl) (fun _ _ _ h => h) (Or.inl ⟨by kernel_rfl, ?ya4⟩) (by assumption) ?ra4
 case ya4 => (intro w hSw; (try dsimp only at hSw); obtain ⟨s1, s2, s3, s4⟩ := hSw; go_simp; (try with_reducible rfl))
 try simp only [Act.put, List.getElem_toArray, List.getElem_cons_zero, List.getElem_cons_succ, List.setIfInBounds_toArray, List.set_cons_zero, List.set_cons_succ]
 refine wpAnyH_take (i := 5) (v := ?va5) rfl (by kernel_rfl) (by kernel_rfl) (by kernel_rfl) (fun _ _ _ h => h) (Or.inl ⟨by kernel_rfl, ?ya5⟩) (by assumption) ?ra5
 case ya5 => (intro w hSw; (try dsimp only at hSw); obtain ⟨s1, s2, s3, s4⟩ := hSw; go_simp; (try with_reducible rfl))
 try simp only [Act.put, List.getElem_toArray, List.getElem_cons_zero, List.getElem_cons_succ, List.setIfInBounds_toArray, List.set_cons_zero, List.set_cons_succ]
 refine wpAnyH_take (i := 6) (v := ?va6) rfl (by kernel_rfl) (by kernel_rfl) (by kernel_rfl) (fun _ _ _ h => h) (Or.inl ⟨by kernel_rfl, ?ya6⟩) (by assumption) ?ra6
 case ya6 => (intro w hSw; (try dsimp only at hSw); obtain ⟨s1, s2, s3, s4⟩ := hSw; go_simp; (try with_reducible rfl))
 try simp only [Act.put, List.getElem_toArray, List.getElem_cons_zero, List.getElem_cons_succ, List.setIfInBounds_toArray, List.set_cons_zero, List.set_cons_succ]
 refine wpAnyH_take (i := 7) (v := ?va7) rfl (by kernel_rfl) (by kernel_rfl) (by kernel_rfl) (fun _ _ _ h => h) (Or.inl ⟨by kernel_rfl, ?ya7⟩) (by assumption) ?ra7
 case ya7 => (intro w hSw; (try dsimp only at hSw); obtain ⟨s1, s2, s3, s4⟩ := hSw; go_simp; (try with_reducible rfl))
 try simp only [Act.put, List.getElem_toArray, List.getElem_cons_zero, List.getElem_cons_succ, List.setIfInBounds_toArray, List.set_cons_zero, List.set_cons_succ]
 refine wpAnyH_take (i := 8) (v := ?va8) rfl (by kernel_rfl) (by kernel_rfl) (by kernel_rfl) (fun _ _ _ h => h) (Or.inl ⟨by kernel_rfl, ?ya8⟩) (by assumption) ?ra8
 case ya8 => (intro w hSw; (try dsimp only at hSw); obtain ⟨s1, s2, s3, s4⟩ := hSw; go_simp; (try with_reducible rfl))
 try simp only [Act.put, List.getElem_toArray, List.getElem_cons_zero, List.getElem_cons_succ, List.setIfInBounds_toArray, List.set_cons_zero, List.set_cons_succ]
 refine wpAnyH_take (i := 9) (v := ?va9) rfl (by kernel_rfl) (by kernel_rfl) (by kernel_rfl) (fun _ _ _ h => h) (Or.inl ⟨by kernel_rfl, ?ya9⟩) (by assumption) ?ra9
 case ya9 => (intro w hSw; (try dsimp only at hSw); obtain ⟨s1, s2, s3, s4⟩ := hSw; go_simp; (try with_reducible rfl))
 try simp only [Act.put, List.getElem_toArray, List.getElem_cons_zero, List.getElem_cons_succ, List.setIfInBounds_toArray, List.set_cons_zero, List.set_cons_succ]
 refine wpAnyH_take (i := 10) (v := ?va10) rfl (by kernel_rfl) (by kernel_rfl) (by kernel_rfl) (fun _ _ _ h => h) (Or.inl ⟨by kernel_rfl, ?ya10⟩) (by assumption) ?ra10
 case ya10 => (intro w hSw; (try dsimp only at hSw); obtain ⟨s1, s2, s3, s4⟩ := hSw; go_simp; (try with_reducible rfl))
 try simp only [Act.put, List.getElem_toArray, List.getElem_cons_zero, List.getElem_cons_succ, List.setIfInBounds_toArray, List.set_cons_zero, List.set_cons_succ]
 refine wpAnyH_take (i := 11) (v := ?va11) rfl (by kernel_rfl) (by kernel_rfl) (by kernel_rfl) (fun _ _ _ h => h) (Or.inl ⟨by kernel_rfl, ?ya11⟩) (by assumption) ?ra11
 case ya11 => (intro w hSw; (try dsimp only at hSw); obtain ⟨s1, s2, s3, s4⟩ := hSw; go_simp; (try with_reducible rfl))
 try simp only [Act.put, List.getElem_toArray, List.getElem_cons_zero, List.getElem_cons_succ, List.setIfInBounds_toArray, List.set_cons_zero, List.set_cons_succ]
 refine wpAnyH_take (i := 12) (v := ?va12) rfl (by kernel_rfl) (by kernel_rfl) (by kernel_rfl) (fun _ _ _ h => h) (Or.inl ⟨by kernel_rfl, ?ya12⟩) (by assumption) ?ra12
 case ya12 => (intro w hSw; (try dsimp only at hSw); obtain ⟨s1, s2, s3, s4⟩ := hSw; go_simp; (try with_reducible rfl))
 try simp only [Act.put, List.getElem_toArray, List.getElem_cons_zero, List.getElem_cons_succ, List.setIfInBounds_toArray, List.set_cons_zero, List.set_cons_succ]
 generalize w.drew = wd at *
 refine wpAnyH_ready (rs := [13]) (by kernel_rfl) (by simp) ?_
 refine AllReadyH.cons rfl (fun K hK => ?_) AllReadyH.nil
 go_simp
 refine (typeName p.2 _).mono ?_
 rintro e' wx ⟨rfl, rfl⟩
 go_wp2_with fail
 refine hK.out _ _ hHeld (fun hHeld => ?_)
 clear hK K
 refine wpAnyH_ready (rs := [14]) (by kernel_rfl) (by simp) ?_
 refine AllReadyH.cons rfl (fun K hK => ?_) AllReadyH.nil
 go_simp
 have h14 := HS.out _ _ (HD.out.trans (Stp.alloc HD.out.1 (.cells #[.string (strN p.1), .string ⟨#[58, 32]⟩, .string (strN (typeT p.2))] 9)))
 refine hK.out _ _ h14 (fun hHeld => ?_)
 clear hK K h14
 refine wpAnyH_ready (rs := [15]) (by kernel_rfl) (by simp) ?_
 refine AllReadyH.cons rfl (fun K hK => ?_) AllReadyH.nil
 go_simp
 have K5 := Lib.hid (put3z R _ ⟨#[58, 32]⟩ _ p.1 [58, 32] (typeT p.2) t wd HD.out.1 rfl (by kernel_rfl) rfl HLn.out wd.heap.size rfl)
 (with_reducible refine K5.out.mono ?_)
 clear K5
 rintro e' w5 hp1
 have hr1 := hp1.1
 subst hr1
 have HS5 := Lib.hid (HD.out.next hp1)
 clear hp1
 go_wp2_with fail
 refine hK.out _ _ (HS.out _ _ HS5.out) (fun hHeld => ?_)
 clear hK K hHeld
 refine wpAnyH_done (by kernel_rfl) ?_ _
 go_wp2
 go_end0
 exact HS5.out.puts
set_option maxHeartbeats 1600000 in
theorem funcn {R : Nat} {T : World → Prop} (hT0 : ∀ w w', T w → Below R w w' → T w') (f : Fu) (hB : BlockWr R T f.body) (hc : f.result = 0) (P B : Value) (t : List Nat) (w : World) (hW : Wr R t w) (hT : T w) (hP : RowF w (· < R) f.params.length (pasC f.params) P) (hV : StsC w (· < R) f.body B) (hlen : (t ++ showF f).length ≤ 140737488355328) :
  Calls Tryz.prog 60 #[.pointer (some ⟨R, 0, none⟩), .agg #[.string (strN f.name), P, .int .i64 f.result, B, .int .i64 f.place]] w (Puts R t (showF f) w) := by
 obtain ⟨Ap, cp, rfl⟩ := row_slice hP
 obtain ⟨Ab, cb, rfl⟩ := stsC_sl hV
 have hsh : showF f = ([102, 110, 32] ++ f.name) ++ listT (paramT f.params) f.params.length ++ ([]) ++ [32] ++ blockT (showB f.body) ++ [10] := by
  unfold showF
  rw [if_pos hc]
 rw [hsh] at hlen ⊢
 have hq : (((f.result : Nat) : Int) != 0) = false := by rw [hc]; rfl
 have hlR := hW.lt
 have S0 := (Stp.alloc hW (.cells #[.pointer (some ⟨R, 0, none⟩)] 123)).trans (Stp.alloc (hW.alloc _) (.cells #[.string (strN f.name), .slice Ap f.params.length cp, .int .i64 f.result, .slice Ab f.body.length cb, .int .i64 f.place] 69))
 have hI : FnI R w.heap.size (w.heap.size + 1) T f (.slice Ap f.params.length cp) (.slice Ab f.body.length cb) ((w.alloc (.cells #[.pointer (some ⟨R, 0, none⟩)] 123)).alloc (.cells #[.string (strN f.name), .slice Ap f.params.length cp, .int .i64 f.result, .slice Ab f.body.length cb, .int .i64 f.place] 69)) := by
  refine ⟨?_, ?_, hT0 _ _ hT S0.2.1, hP.same (below_same S0.2.1), hV.same (below_same S0.2.1)⟩
  ·rw [Below.heap_alloc _ _ _ (by simp)]
   exact heap_alloc_new w _
  ·have := heap_alloc_new (w.alloc (.cells #[.pointer (some ⟨R, 0, none⟩)] 123)) (.cells #[.string (strN f.name), .slice Ap f.params.length cp, .int .i64 f.result, .slice Ab f.body.length cb, .int .i64 f.place] 69)
   simpa using this
 have hll := hlen
 simp only [List.length_append, List.length_cons, List.length_nil] at hll
 have K := Lib.hid (put2z R ⟨#[102, 110, 32]⟩ _ [102, 110, 32] f.name t _ S0.1 (by kernel_rfl) rfl (by simp only [List.length_append, List.length_cons, List.length_nil]; omega) (w.heap.size + 1 + 1) (by simp))
 have HI0 := Lib.hid hI
 have HS0 := Lib.hid S0
 have HLL := Lib.hid hll
 have HK : Hid (∀ u w', Stp R ((w.alloc (.cells #[.pointer (some ⟨R, 0, none⟩)] 123)).alloc (.cells #[.string (strN f.name), .slice Ap f.params.length cp, .int .i64 f.result, .slice Ab f.body.length cb, .int .i64 f.place] 69)) u w' → FnI R w.heap.size (w.heap.size + 1) T f (.slice Ap f.params.length cp) (.slice Ab f.body.length cb) w' ∧ w'.cell? ⟨w.heap.size, 0, none⟩ = some (.pointer (some ⟨R, 0, none⟩)) ∧ w'.cell? ⟨w.heap.size + 1, 1, none⟩ = some (.slice Ap f.params.length cp) ∧ w'.cell? ⟨w.heap.size + 1, 2, none⟩ = some (.int .i64 f.result) ∧ w'.cell? ⟨w.heap.size + 1, 3, none⟩ = some (.slice Ab f.body.length cb)) := fun u w' h => by
  have g := hI.kept hT0 (by omega) (by omega) h.2.1 h.2.2
  exact ⟨g, by rw [Lib.cell_of_heap g.1]; rfl, by rw [Lib.cell_of_heap g.2.1]; rfl, by rw [Lib.cell_of_heap g.2.1]; rfl, by rw [Lib.cell_of_heap g.2.1]; rfl⟩
 clear hI S0 hlen hV hP hT hsh hc hll
 go_enter Tryz.func60, Tryz.ntmps60
 go_wp2_with fail
 generalize (w.alloc (.cells #[.pointer (some ⟨R, 0, none⟩)] 123)).alloc (.cells #[.string (strN f.name), .slice Ap f.params.length cp, .int .i64 f.result, .slice Ab f.body.length cb, .int .i64 f.place] 69) = w1 at *
 (with_reducible refine K.out.mono ?_)
 clear K
 rintro e' w2 hp1
 have hr1 := hp1.1
 subst hr1
 have HS2 := Lib.hid ((Stp.start HS0.out.1).next hp1)
 clear hp1
 obtain ⟨i2, c0, c1, _, _⟩ := HK.out _ _ HS2.out
 have hpw : PartW R 98 #[.pointer (some ⟨w.heap.size, 0, none⟩), .pointer (some ⟨w.heap.size + 1, 0, none⟩)] (paramT f.params) f.params.length (FnI R w.heap.size (w.heap.size + 1) T f (.slice Ap f.params.length cp) (.slice Ab f.body.length cb)) :=
  ⟨ent24, fun a b _ h1 _ h2 h3 => h1.kept hT0 (by omega) (by omega) h2 h3, fun i l' a hi h1 h2 h3 => paramW R _ _ T f _ _ i hi l' a h2 h1 (by omega) (by omega) h3⟩
 have hll := HLL.out
 have K := Lib.hid (listW R 98 _ _ _ _ hpw _ w2 HS2.out.1 i2 (by simp only [List.length_append, List.length_cons, List.length_nil]; omega))
 clear i2 hpw hll
 go_wp2_with fail
 (with_reducible refine K.out.mono ?_)
 clear K c0 c1
 rintro e' w3 hp1
 have hr1 := hp1.1
 subst hr1
 have HS3 := Lib.hid (HS2.out.next hp1)
 clear hp1
 obtain ⟨i3, c0, _, c2, _⟩ := HK.out _ _ HS3.out
 have hll := HLL.out
 have K := Lib.hid (put1z R ⟨#[32]⟩ [32] _ w3 HS3.out.1 (by kernel_rfl) (by simp only [List.length_append, List.length_cons, List.length_nil]; omega) w3.heap.size rfl)
 clear i3 hll
 go_wp2_with fail
 (with_reducible refine K.out.mono ?_)
 clear K c0 c2
 rintro e' w5 hp1
 have hr1 := hp1.1
 subst hr1
 have HS5 := Lib.hid (HS3.out.next hp1)
 clear hp1
 obtain ⟨i5, c0, _, _, c3⟩ := HK.out _ _ HS5.out
 have hll := HLL.out
 have K := Lib.hid (hB (.slice Ab f.body.length cb) _ w5 HS5.out.1 i5.2.2.1 i5.2.2.2.2 (by simp only [List.length_append, List.length_cons, List.length_nil]; omega))
 clear i5 hll
 go_wp2_with fail
 (with_reducible refine K.out.mono ?_)
 clear K c0 c3
 rintro e' w6 hp1
 have hr1 := hp1.1
 subst hr1
 have HS6 := Lib.hid (HS5.out.next hp1)
 clear hp1
 obtain ⟨i6, c0, _, _, _⟩ := HK.out _ _ HS6.out
 have hll := HLL.out
 have K := Lib.hid (put1z R ⟨#[10]⟩ [10] _ w6 HS6.out.1 (by kernel_rfl) (by simp only [List.length_append, List.length_cons, List.length_nil]; omega) w6.heap.size rfl)
 clear i6 hll
 go_wp2_with fail
 (with_reducible refine K.out.mono ?_)
 clear K c0
 rintro e' w7 hp1
 have hr1 := hp1.1
 subst hr1
 have HS7 := Lib.hid (HS6.out.next hp1)
 clear hp1
 go_wp2
 go_end0
 have hfin := HS0.out.trans HS7.out
 refine Stp.puts ?_
 simpa using hfin
set_option maxHeartbeats 1600000 in
theorem funcy {R : Nat} {T : World → Prop} (hT0 : ∀ w w', T w → Below R w w' → T w') (f : Fu) (hB : BlockWr R T f.body) (hc : f.result ≠ 0) (P B : Value) (t : List Nat) (w : World) (hW : Wr R t w) (hT : T w) (hP : RowF w (· < R) f.params.length (pasC f.params) P) (hV : StsC w (· < R) f.body B) (hlen : (t ++ showF f).length ≤ 140737488355328) :
  Calls Tryz.prog 60 #[.pointer (some ⟨R, 0, none⟩), .agg #[.string (strN f.name), P, .int .i64 f.result, B, .int .i64 f.place]] w (Puts R t (showF f) w) := by
 obtain ⟨Ap, cp, rfl⟩ := row_slice hP
 obtain ⟨Ab, cb, rfl⟩ := stsC_sl hV
 have hsh : showF f = ([102, 110, 32] ++ f.name) ++ listT (paramT f.params) f.params.length ++ ([58, 32] ++ typeT f.result) ++ [32] ++ blockT (showB f.body) ++ [10] := by
  unfold showF
  rw [if_neg hc]
 rw [hsh] at hlen ⊢
 have hq : (((f.result : Nat) : Int) != 0) = true := by rw [bne_iff_ne]; omega
 have hlR := hW.lt
 have S0 := (Stp.alloc hW (.cells #[.pointer (some ⟨R, 0, none⟩)] 123)).trans (Stp.alloc (hW.alloc _) (.cells #[.string (strN f.name), .slice Ap f.params.length cp, .int .i64 f.result, .slice Ab f.body.length cb, .int .i64 f.place] 69))
 have hI : FnI R w.heap.size (w.heap.size + 1) T f (.slice Ap f.params.length cp) (.slice Ab f.body.length cb) ((w.alloc (.cells #[.pointer (some ⟨R, 0, none⟩)] 123)).alloc (.cells #[.string (strN f.name), .slice Ap f.params.length cp, .int .i64 f.result, .slice Ab f.body.length cb, .int .i64 f.place] 69)) := by
  refine ⟨?_, ?_, hT0 _ _ hT S0.2.1, hP.same (below_same S0.2.1), hV.same (below_same S0.2.1)⟩
  ·rw [Below.heap_alloc _ _ _ (by simp)]
   exact heap_alloc_new w _
  ·have := heap_alloc_new (w.alloc (.cells #[.pointer (some ⟨R, 0, none⟩)] 123)) (.cells #[.string (strN f.name), .slice Ap f.params.length cp, .int .i64 f.result, .slice Ab f.body.length cb, .int .i64 f.place] 69)
   simpa using this
 have hll := hlen
 simp only [List.length_append, List.length_cons, List.length_nil] at hll
 have K := Lib.hid (put2z R ⟨#[102, 110, 32]⟩ _ [102, 110, 32] f.name t _ S0.1 (by kernel_rfl) rfl (by simp only [List.length_append, List.length_cons, List.length_nil]; omega) (w.heap.size + 1 + 1) (by simp))
 have HI0 := Lib.hid hI
 have HS0 := Lib.hid S0
 have HLL := Lib.hid hll
 have HK : Hid (∀ u w', Stp R ((w.alloc (.cells #[.pointer (some ⟨R, 0, none⟩)] 123)).alloc (.cells #[.string (strN f.name), .slice Ap f.params.length cp, .int .i64 f.result, .slice Ab f.body.length cb, .int .i64 f.place] 69)) u w' → FnI R w.heap.size (w.heap.size + 1) T f (.slice Ap f.params.length cp) (.slice Ab f.body.length cb) w' ∧ w'.cell? ⟨w.heap.size, 0, none⟩ = some (.pointer (some ⟨R, 0, none⟩)) ∧ w'.cell? ⟨w.heap.size + 1, 1, none⟩ = some (.slice Ap f.params.length cp) ∧ w'.cell? ⟨w.heap.size + 1, 2, none⟩ = some (.int .i64 f.result) ∧ w'.cell? ⟨w.heap.size + 1, 3, none⟩ = some (.slice Ab f.body.length cb)) := fun u w' h => by
  have g := hI.kept hT0 (by omega) (by omega) h.2.1 h.2.2
  exact ⟨g, by rw [Lib.cell_of_heap g.1]; rfl, by rw [Lib.cell_of_heap g.2.1]; rfl, by rw [Lib.cell_of_heap g.2.1]; rfl, by rw [Lib.cell_of_heap g.2.1]; rfl⟩
 clear hI S0 hlen hV hP hT hsh hc hll
 go_enter Tryz.func60, Tryz.ntmps60
 go_wp2_with fail
 generalize (w.alloc (.cells #[.pointer (some ⟨R, 0, none⟩)] 123)).alloc (.cells #[.string (strN f.name), .slice Ap f.params.length cp, .int .i64 f.result, .slice Ab f.body.length cb, .int .i64 f.place] 69) = w1 at *
 (with_reducible refine K.out.mono ?_)
 clear K
 rintro e' w2 hp1
 have hr1 := hp1.1
 subst hr1
 have HS2 := Lib.hid ((Stp.start HS0.out.1).next hp1)
 clear hp1
 obtain ⟨i2, c0, c1, _, _⟩ := HK.out _ _ HS2.out
 have hpw : PartW R 98 #[.pointer (some ⟨w.heap.size, 0, none⟩), .pointer (some ⟨w.heap.size + 1, 0, none⟩)] (paramT f.params) f.params.length (FnI R w.heap.size (w.heap.size + 1) T f (.slice Ap f.params.length cp) (.slice Ab f.body.length cb)) :=
  ⟨ent24, fun a b _ h1 _ h2 h3 => h1.kept hT0 (by omega) (by omega) h2 h3, fun i l' a hi h1 h2 h3 => paramW R _ _ T f _ _ i hi l' a h2 h1 (by omega) (by omega) h3⟩
 have hll := HLL.out
 have K := Lib.hid (listW R 98 _ _ _ _ hpw _ w2 HS2.out.1 i2 (by simp only [List.length_append, List.length_cons, List.length_nil]; omega))
 clear i2 hpw hll
 go_wp2_with fail
 (with_reducible refine K.out.mono ?_)
 clear K c0 c1
 rintro e' w3 hp1
 have hr1 := hp1.1
 subst hr1
 have HS3 := Lib.hid (HS2.out.next hp1)
 clear hp1
 obtain ⟨i3, c0, _, c2, _⟩ := HK.out _ _ HS3.out
 clear i3 c0 c2
 obtain ⟨i3, d0, d1, d2, d3⟩ := HK.out _ _ HS3.out
 have HD := Lib.hid HS3.out.drew
 clear i3 d1 d3
 go_wp2_with fail
 refine wp_region_held_drew (S := fun w' => w'.cell? ⟨w.heap.size, 0, none⟩ = some (.pointer (some ⟨R, 0, none⟩)) ∧ w'.cell? ⟨w.heap.size + 1, 2, none⟩ = some (.int .i64 f.result)) (by kernel_rfl) ⟨(HK.out _ _ HD.out).2.1, (HK.out _ _ HD.out).2.2.2.1⟩ (fun hHeld => ?_)
 clear d0 d2
 refine wpAnyH_take (i := 0) (v := ?vb0) rfl (by kernel_rfl) (by kernel_rfl) (by kernel_rfl) (fun _ _ _ h => h) (Or.inl ⟨by kernel_rfl, ?yb0⟩) (by assumption) ?rb0
 case yb0 => (intro w hSw; (try dsimp only at hSw); obtain ⟨s1, s2⟩ := hSw; go_simp; (try with_reducible rfl))
 try simp only [Act.put, List.getElem_toArray, List.getElem_cons_zero, List.getElem_cons_succ, List.setIfInBounds_toArray, List.set_cons_zero, List.set_cons_succ]
 refine wpAnyH_take (i := 1) (v := ?vb1) rfl (by kernel_rfl) (by kernel_rfl) (by kernel_rfl) (fun _ _ _ h => h) (Or.inl ⟨by kernel_rfl, ?yb1⟩) (by assumption) ?rb1
 case yb1 => (intro w hSw; (try dsimp only at hSw); obtain ⟨s1, s2⟩ := hSw; go_simp; (try with_reducible rfl))
 try simp only [Act.put, List.getElem_toArray, List.getElem_cons_zero, List.getElem_cons_succ, List.setIfInBounds_toArray, List.set_cons_zero, List.set_cons_succ]
 refine wpAnyH_take (i := 2) (v := ?vb2) rfl (by kernel_rfl) (by kernel_rfl) (by kernel_rfl) (fun _ _ _ h => h) (Or.inl ⟨by kernel_rfl, ?yb2⟩) (by assumption) ?rb2
 case yb2 => (intro w hSw; (try dsimp only at hSw); obtain ⟨s1, s2⟩ := hSw; go_simp; (try with_reducible rfl))
 try simp only [Act.put, List.getElem_toArray, List.getElem_cons_zero, List.getElem_cons_succ, List.setIfInBounds_toArray, List.set_cons_zero, List.set_cons_succ]
 generalize w3.drew = wd at *
 refine wpAnyH_ready (rs := [3]) (by kernel_rfl) (by simp) ?_
 refine AllReadyH.cons rfl (fun K hK => ?_) AllReadyH.nil
 go_simp
 refine (typeName f.result _).mono ?_
 rintro e' wx ⟨rfl, rfl⟩
 go_wp2_with fail
 refine hK.out _ _ hHeld (fun hHeld => ?_)
 clear hK K
 refine wpAnyH_ready (rs := [4]) (by kernel_rfl) (by simp) ?_
 refine AllReadyH.cons rfl (fun K hK => ?_) AllReadyH.nil
 go_simp
 have h14 := HK.out _ _ (HD.out.trans (Stp.alloc HD.out.1 (.cells #[.string ⟨#[58, 32]⟩, .string (strN (typeT f.result))] 9)))
 refine hK.out _ _ ⟨h14.2.1, h14.2.2.2.1⟩ (fun hHeld => ?_)
 clear hK K h14
 refine wpAnyH_ready (rs := [5]) (by kernel_rfl) (by simp) ?_
 refine AllReadyH.cons rfl (fun K hK => ?_) AllReadyH.nil
 go_simp
 have hll := HLL.out
 have K5 := Lib.hid (put2z R ⟨#[58, 32]⟩ _ [58, 32] (typeT f.result) _ wd HD.out.1 (by kernel_rfl) rfl (by simp only [List.length_append, List.length_cons, List.length_nil]; omega) wd.heap.size rfl)
 (with_reducible refine K5.out.mono ?_)
 clear K5 hll
 rintro e' w4 hp1
 have hr1 := hp1.1
 subst hr1
 have HS4 := Lib.hid (HD.out.next hp1)
 clear hp1
 go_wp2_with fail
 have h15 := HK.out _ _ HS4.out
 refine hK.out _ _ ⟨h15.2.1, h15.2.2.2.1⟩ (fun hHeld => ?_)
 clear hK K hHeld h15
 refine wpAnyH_done (by kernel_rfl) ?_ _
 obtain ⟨i4, c0, _, c2, _⟩ := HK.out _ _ HS4.out
 have hll := HLL.out
 have K := Lib.hid (put1z R ⟨#[32]⟩ [32] _ w4 HS4.out.1 (by kernel_rfl) (by simp only [List.length_append, List.length_cons, List.length_nil]; omega) w4.heap.size rfl)
 clear i4 hll
 go_wp2_with fail
 (with_reducible refine K.out.mono ?_)
 clear K c0 c2
 rintro e' w5 hp1
 have hr1 := hp1.1
 subst hr1
 have HS5 := Lib.hid (HS4.out.next hp1)
 clear hp1
 obtain ⟨i5, c0, _, _, c3⟩ := HK.out _ _ HS5.out
 have hll := HLL.out
 have K := Lib.hid (hB (.slice Ab f.body.length cb) _ w5 HS5.out.1 i5.2.2.1 i5.2.2.2.2 (by simp only [List.length_append, List.length_cons, List.length_nil]; omega))
 clear i5 hll
 go_wp2_with fail
 (with_reducible refine K.out.mono ?_)
 clear K c0 c3
 rintro e' w6 hp1
 have hr1 := hp1.1
 subst hr1
 have HS6 := Lib.hid (HS5.out.next hp1)
 clear hp1
 obtain ⟨i6, c0, _, _, _⟩ := HK.out _ _ HS6.out
 have hll := HLL.out
 have K := Lib.hid (put1z R ⟨#[10]⟩ [10] _ w6 HS6.out.1 (by kernel_rfl) (by simp only [List.length_append, List.length_cons, List.length_nil]; omega) w6.heap.size rfl)
 clear i6 hll
 go_wp2_with fail
 (with_reducible refine K.out.mono ?_)
 clear K c0
 rintro e' w7 hp1
 have hr1 := hp1.1
 subst hr1
 have HS7 := Lib.hid (HS6.out.next hp1)
 clear hp1
 go_wp2
 go_end0
 have hfin := HS0.out.trans HS7.out
 refine Stp.puts ?_
 simpa using hfin
end
section
open Go.RowKit
set_option maxRecDepth 100000
set_option linter.unusedSimpArgs false
set_option linter.unusedVariables false
theorem cells5 : Tryz.prog.cellsOf 5 = 1 := by kernel_rfl
set_option maxHeartbeats 1600000 in
theorem stringW (R : Nat) (t : List Nat) (w : World) (hW : Wr R t w) (h0 : t ≠ []) :
  Calls Tryz.prog 61 #[.pointer (some ⟨R, 0, none⟩)] w fun e w' => e = .returned (.string (strN t)) ∧ Below R w w' := by
 obtain ⟨p, hp, hAt⟩ : ∃ p, (p = .pointer none ∨ p = .pointer (some ⟨R, 0, none⟩)) ∧ Lib.BuilderAtF 128 5 R R p (Lib.byteCells (u8s t)) w := by
  rcases hW with h | h
  ·exact ⟨_, .inl rfl, h⟩
  ·exact ⟨_, .inr rfl, h⟩
 obtain ⟨hB, v, hbk, hown, hne⟩ := hAt
 rw [strN_u8]
 have h0' : u8s t ≠ [] := by intro e; exact h0 (by simpa [u8s] using e)
 generalize u8s t = l at *
 have hl0 : l.length ≠ 0 := by simpa using h0'
 rw [Lib.byteCells_length] at hown
 obtain ⟨g, cap, cur, fz, rfl, hbg, hg, hfz, hnc, hcm, hcs, htake⟩ : ∃ g cap cur fz, v = .slice (some ⟨g, 0, none⟩) l.length cap ∧ R ≤ g ∧ w.heap[g]? = some (.cells cur 5 fz) ∧ fz.2 ≤ l.length * 1 ∧ l.length ≤ cap ∧ cap ≤ maxLen ∧ cur.size = cap * 1 ∧ cur.toList.take (l.length * 1) = Lib.byteCells l := by
  rcases hown.2 with ⟨_, hz⟩ | ⟨g, cap, cur, fz, hv, r⟩
  ·exact absurd hz hl0
  ·exact ⟨g, cap, cur, fz, hv, r⟩
 have c1 : w.drew.cell? ⟨R, 1, none⟩ = some (.slice (some ⟨g, 0, none⟩) l.length cap) := by
  have : w.drew.heap[R]? = some (.cells #[p, .slice (some ⟨g, 0, none⟩) l.length cap] 128 (0, 0)) := hbk
  rw [Lib.cell_of_heap this]; rfl
 have hSD : (Builtin.unsafeSliceData_ #[22] 192 #[.slice (some ⟨g, 0, none⟩) l.length cap]).run Tryz.prog w.drew = .ok (.pointer (some ⟨g, 0, none⟩)) w.drew :=
  Lib.run_unsafeSliceData_row _ _ _ _ _ _ (by omega)
 have hUS : (Builtin.unsafeString_ #[192, 3] 9 #[.pointer (some ⟨g, 0, none⟩), .int .i64 l.length]).run Tryz.prog w.drew = .ok (.string ⟨l.toArray⟩) (w.drew.freeze ⟨g, 0, none⟩ l.length) := by
  refine Lib.run_unsafeString_row w.drew 192 3 9 5 Tryz.underlying192 cells5 g cur.size (by have hg' : w.drew.heap[g]? = some (.cells cur 5 fz) := hg; simp [World.shape?, hg']) l h0' (by omega) (by unfold maxLen at hcm; omega) ?_
  intro j x hx
  have := hown.cells (g := g) rfl j (.int .u8 x.toNat) (by simp [Lib.byteCells, hx])
  exact this
 have HF : Hid (Below R w (w.drew.freeze ⟨g, 0, none⟩ l.length)) := Lib.below_freeze (Below.drew (Below.refl R w)) (p := ⟨g, 0, none⟩) hbg _
 clear hW h0 h0' hl0 hbk hown hne hg hfz hcm hcs htake hp hB
 go_enter Tryz.func61, Tryz.ntmps61
 go_wp2_with fail
 go_region
 all_goals (go_wp2; go_ret; exact ⟨rfl, HF.out⟩)
theorem func_ok {R : Nat} {T : World → Prop} {p : Nat → Bool} (hF : Fm R p T) (f : Fu) (hn : numsB p f.body = true) (P B : Value) (t : List Nat) (w : World) (hW : Wr R t w) (hT : T w) (hP : RowF w (· < R) f.params.length (pasC f.params) P) (hV : StsC w (· < R) f.body B) (hlen : (t ++ showF f).length ≤ 140737488355328) :
  Calls Tryz.prog 60 #[.pointer (some ⟨R, 0, none⟩), .agg #[.string (strN f.name), P, .int .i64 f.result, B, .int .i64 f.place]] w (Puts R t (showF f) w) := by
 by_cases hc : f.result = 0
 ·exact funcn hF.kept f (block_ok hF _ hn) hc P B t w hW hT hP hV hlen
 ·exact funcy hF.kept f (block_ok hF _ hn) hc P B t w hW hT hP hV hlen
theorem FusC.get {w : World} {D : Nat → Prop} {l : List Fu} {V : Value} (h : FusC w D l V) {i : Nat} {f : Fu} (he : l[i]? = some f) : ∃ (b o c : Nat) (k : Two), V = .slice (some ⟨b, o, none⟩) l.length c ∧ l.length ≤ c ∧ c ≤ maxLen ∧ D b ∧ w.rangeAt b (o + i * 5) (fuC f k.p k.b) ∧ FuK w D f k := by
 obtain ⟨ks, hk, h1, h2⟩ := h
 have hi := (List.getElem?_eq_some_iff.1 he).1
 have hk' : ks[i]? = some ks[i] := List.getElem?_eq_getElem (by omega)
 generalize ks[i] = k at hk'
 have hg := fun j hj => zip_get (f := fun (s : Fu) (k : Two) => fuC s k.p k.b) (m := 5) (fun _ _ => rfl) l ks i j f k he hk' hj
 obtain ⟨b, o, c, rfl, a1, a2, a3, a4⟩ := h1.plain (by
  intro e0
  have := hg 0 (by omega)
  unfold fusC at e0
  rw [e0] at this
  simp [fuC] at this)
 refine ⟨b, o, c, k, rfl, a1, a2, a3, fun j v hv => ?_, h2 i f k he hk'⟩
 have hj : j < 5 := by
  have := (List.getElem?_eq_some_iff.1 hv).1
  simpa [fuC] using this
 rw [Nat.add_assoc]
 exact a4 _ v ((hg j hj).trans hv)
theorem shown_take (l : List Fu) (k : Nat) (f : Fu) (h : l[k]? = some f) : shown (l.take (k + 1)) = shown (l.take k) ++ showF f := by
 simp [shown, List.take_add_one, h]
theorem shown_le (l : List Fu) (k : Nat) : (shown (l.take k)).length ≤ (shown l).length := by
 have : shown l = shown (l.take k) ++ shown (l.drop k) := by
  unfold shown
  rw [← List.flatMap_append, List.take_append_drop]
 rw [this]
 simp
theorem shown_ne {l : List Fu} (h : l ≠ []) : shown l ≠ [] := by
 cases l with
 | nil => exact absurd rfl h
 | cons f r => simp [shown, showF]
def numsFs (p : Nat → Bool) (l : List Fu) : Bool := l.all fun f => numsB p f.body
theorem numsFs_mem {p : Nat → Bool} {l : List Fu} (h : numsFs p l = true) {f : Fu} (hf : f ∈ l) : numsB p f.body = true := by
 unfold numsFs at h
 rw [List.all_eq_true] at h
 exact h f hf
theorem fresh_writer (w : World) : Wr w.heap.size [] (w.alloc (.cells #[.pointer none, .slice none 0 0] 128)) := by
 refine .inl ⟨Nat.le_refl _, .slice none 0 0, heap_alloc_new w _, ?_, by simp [Value.ownBlock]⟩
 exact World.ownsRowF_of (World.ownsRow_nil _ _ _ _)
set_option maxHeartbeats 1600000 in
theorem showW {T : World → Prop} {p : Nat → Bool} (fs : List Fu) (hn : numsFs p fs = true) (V : Value) (w : World) (hF : Fm (w.heap.size + 1) p T) (hT : ∀ w', Below w.heap.size w w' → T w') (hV : FusC w (· < w.heap.size) fs V) (hne : fs ≠ []) (hlen : (shown fs).length ≤ 140737488355328) :
  Calls Tryz.prog 32 #[.agg #[V]] w fun e w' => e = .returned (.string (strN (shown fs))) ∧ Below w.heap.size w w' := by
 obtain ⟨A, c, rfl⟩ : ∃ A c, V = .slice A fs.length c := by
  obtain ⟨_, _, h, _⟩ := hV
  exact row_slice h
 have s1 : (w.alloc (.cells #[.slice A fs.length c] 26)).heap.size = w.heap.size + 1 := by simp
 have hb0 := ((Below.refl w.heap.size w).alloc (Nat.le_refl _) (.cells #[.slice A fs.length c] 26)).alloc (by rw [s1]; omega) (.cells #[.pointer none, .slice none 0 0] 128)
 have hwr := fresh_writer (w.alloc (.cells #[.slice A fs.length c] 26))
 rw [s1] at hwr
 have hV1 : FusC ((w.alloc (.cells #[.slice A fs.length c] 26)).alloc (.cells #[.pointer none, .slice none 0 0] 128)) (· < w.heap.size + 1) fs (.slice A fs.length c) := (hV.same fun k hk => hb0.block k hk).more fun k hk => Nat.lt_succ_of_lt hk
 have HV := Lib.hid hV1
 have HT := Lib.hid (hT _ hb0)
 have HB := Lib.hid hb0
 have HF := Lib.hid hF
 have HN := Lib.hid hn
 have HL := Lib.hid hlen
 have HNE := Lib.hid hne
 have HW : Hid (Stp (w.heap.size + 1) ((w.alloc (.cells #[.slice A fs.length c] 26)).alloc (.cells #[.pointer none, .slice none 0 0] 128)) (shown (fs.take 0)) ((w.alloc (.cells #[.slice A fs.length c] 26)).alloc (.cells #[.pointer none, .slice none 0 0] 128))) := Stp.start (by simpa [shown] using hwr)
 clear hV1 hb0 hwr hT hF hn hlen hne hV s1
 go_enter Tryz.func32, Tryz.ntmps32
 go_wp2
 generalize (w.alloc (.cells #[.slice A fs.length c] 26)).alloc (.cells #[.pointer none, .slice none 0 0] 128) = w1 at *
 go_loopw [5, 11] (fun _ i wr => ∃ k : Nat, k ≤ fs.length ∧ i = .int .i64 k ∧ Stp (w.heap.size + 1) w1 (shown (fs.take k)) wr) (fun _ i _ => fs.length - (intOf i).toNat)
 case atStart => exact ⟨0, Nat.zero_le _, rfl, HW.out⟩
 case round =>
  obtain ⟨k, hk, rfl, hS⟩ := hrel
  have HS2 := Lib.hid hS
  clear hS
  by_cases hlt : k < fs.length
  ·have he : fs[k]? = some fs[k] := List.getElem?_eq_getElem hlt
   generalize fs[k] = f at he
   obtain ⟨b, o, c', q, hVe, a1, a2, a3, a4, a5, a6⟩ := HV.out.get he
   injection hVe with e1 e2 e3
   subst e1 e3
   obtain ⟨qp, qb⟩ := q
   obtain ⟨Ap, cp, rfl⟩ := row_slice a5
   obtain ⟨Ab, cb, rfl⟩ := stsC_sl a6
   have hR : wr.rangeAt b (o + k * 5) [.string (strN f.name), .slice Ap f.params.length cp, .int .i64 f.result, .slice Ab f.body.length cb, .int .i64 f.place] := range_below a4 HS2.out.2.1 a3
   have HR := Lib.hid hR
   have hsB := shown_take fs k f he
   have hle := shown_le fs (k + 1)
   rw [hsB] at hle
   have HSB := Lib.hid hsB
   have HLE := Lib.hid hle
   have hmem := List.mem_of_getElem? he
   have HNf := Lib.hid (numsFs_mem HN.out hmem)
   unfold maxLen at a2
   have hWr := HS2.out.1
   have S3 := HS2.out.trans (Stp.alloc hWr (.cells #[.string (strN f.name), .slice Ap f.params.length cp, .int .i64 f.result, .slice Ab f.body.length cb, .int .i64 f.place] 69))
   have hll := HL.out
   have HBk := Lib.hid (heap_alloc_new wr (.cells #[.string (strN f.name), .slice Ap f.params.length cp, .int .i64 f.result, .slice Ab f.body.length cb, .int .i64 f.place] 69))
   have hlr := hWr.lt
   have HS3 := Lib.hid S3
   have hbl := S3.2.1
   have K := Lib.hid (func_ok HF.out f HNf.out _ _ _ _ S3.1 (HF.out.kept _ _ HT.out hbl) (a5.same (below_same hbl)) (a6.same (below_same hbl)) (by omega))
   clear a4 a5 a6 hR he hsB hle hWr S3 hll hbl
   go_wp2_with (first | (refine wpList_load_mid rfl 69 (.tmp 13) rfl b (o + k * 5) rfl [.string (strN f.name), .slice Ap f.params.length cp, .int .i64 f.result, .slice Ab f.body.length cb, .int .i64 f.place] _ HR.out Tryz.underlying69 rfl info47s ?_; refine Hid.out ?_) | fail)
   refine Lib.hid ?_
   go_wp2_with fail
   generalize wr.alloc (.cells #[.string (strN f.name), .slice Ap f.params.length cp, .int .i64 f.result, .slice Ab f.body.length cb, .int .i64 f.place] 69) = w3 at *
   (with_reducible refine K.out.mono ?_)
   clear K
   rintro e' w5 hp1
   have hr1 := hp1.1
   subst hr1
   have HS5 : Hid (Stp (w.heap.size + 1) w1 (shown (fs.take (k + 1))) w5) := by
    have := HS3.out.next hp1
    rw [HSB.out]
    exact this
   clear hp1
   go_wp2
   go_roundw
   case rel => exact ⟨k + 1, by omega, by go_num, HS5.out⟩
   case measure => simp [intOf]; omega
  ·have hkn : k = fs.length := by omega
   have HS3 : Hid (Stp (w.heap.size + 1) w1 (shown fs) wr) := by
    have := HS2.out
    rw [hkn, List.take_length] at this
    exact this
   have K := Lib.hid (stringW _ _ wr HS3.out.1 (shown_ne HNE.out))
   clear hkn
   go_wp2_with fail
   (with_reducible refine K.out.mono ?_)
   clear K
   rintro e' w5 ⟨rfl, hb5⟩
   have HB5 : Hid (Below w.heap.size w w5) := (HB.out.trans (HS3.out.2.1.mono (by omega))).trans (hb5.mono (by omega))
   clear hb5
   go_wp2
   go_ret
   exact ⟨rfl, HB5.out⟩
end
end
section
open Go.RowKit
set_option maxRecDepth 100000
set_option linter.unusedSimpArgs false
set_option linter.unusedVariables false
theorem push_modify (a : Array Obj) (x : Obj) (f : Obj → Obj) : (a.push x).modify a.size f = a.push (f x) := by
 apply Array.ext
 ·simp
 ·intro i h1 h2
  simp only [Array.getElem_modify, Array.getElem_push]
  by_cases h : a.size = i
  ·subst h
   simp
  ·have hi : i < a.size := by simp at h1; omega
   simp [h, hi]
theorem run_marked (w : World) (C : Array Value) (n c : Nat) :
  (convert 22 22 (.slice (some ⟨w.heap.size, 0, none⟩) n c)).run Tryz.prog (w.alloc (.cells C 5)) = .ok (.slice (some ⟨w.heap.size, 0, none⟩) n c) (w.alloc (.cells C 5 (C.size, C.size + 1))) := by
 have hsh : (w.alloc (.cells C 5)).shape? w.heap.size = some (5, C.size) := by
  have : (w.alloc (.cells C 5)).heap[w.heap.size]? = some (.cells C 5) := heap_alloc_new w _
  unfold World.shape?
  rw [this]
 have hfr : (w.alloc (.cells C 5)).freeze ⟨w.heap.size, C.size, none⟩ 1 = w.alloc (.cells C 5 (C.size, C.size + 1)) := by
  unfold World.freeze
  rw [if_neg (by decide)]
  show ({ w.alloc (.cells C 5) with heap := (w.heap.push (.cells C 5)).modify w.heap.size _ } : World) = _
  rw [push_modify]
  rfl
 simp [convert, run_underlying Tryz.underlying22, run_underlying Tryz.underlying5, markStringish, hsh]
 exact hfr
theorem lies_new (w : World) (l : List Nat) (c : Nat) (t : TypeId) (fr : Nat × Nat) : Lies (w.alloc (.cells (bts l).toArray t fr)) (w.heap.size + 1) (some ⟨w.heap.size, 0, none⟩) c (bts l) := by
 refine ⟨(fun e => by cases e), fun j u hu => ⟨_, rfl, by simp, ?_⟩⟩
 have hb : (w.alloc (.cells (bts l).toArray t fr)).heap[w.heap.size]? = some (.cells (bts l).toArray t fr) := heap_alloc_new w _
 rw [Addr.add_lit, cell_of_row _ _ _ _ _ _ hb]
 simpa using hu
theorem fmt0 (w : World) : Calls Tryz.prog 252 #[.int .i64 0, .int .i64 10] w fun e w' => e = .returned (.string ⟨#[48]⟩) ∧ w = w' := by
 go_enter Tryz.func252, Tryz.ntmps252
 go_wp2
 go_ret
 exact ⟨rfl, rfl⟩
theorem fmt1 (w : World) : Calls Tryz.prog 252 #[.int .i64 1, .int .i64 10] w fun e w' => e = .returned (.string ⟨#[49]⟩) ∧ w = w' := by
 go_enter Tryz.func252, Tryz.ntmps252
 go_wp2
 go_ret
 exact ⟨rfl, rfl⟩
theorem fmt2 (w : World) : Calls Tryz.prog 252 #[.int .i64 2, .int .i64 10] w fun e w' => e = .returned (.string ⟨#[50]⟩) ∧ w = w' := by
 go_enter Tryz.func252, Tryz.ntmps252
 go_wp2
 go_ret
 exact ⟨rfl, rfl⟩
theorem fmt3 (w : World) : Calls Tryz.prog 252 #[.int .i64 3, .int .i64 10] w fun e w' => e = .returned (.string ⟨#[51]⟩) ∧ w = w' := by
 go_enter Tryz.func252, Tryz.ntmps252
 go_wp2
 go_ret
 exact ⟨rfl, rfl⟩
theorem fmt4 (w : World) : Calls Tryz.prog 252 #[.int .i64 4, .int .i64 10] w fun e w' => e = .returned (.string ⟨#[52]⟩) ∧ w = w' := by
 go_enter Tryz.func252, Tryz.ntmps252
 go_wp2
 go_ret
 exact ⟨rfl, rfl⟩
theorem fmt5 (w : World) : Calls Tryz.prog 252 #[.int .i64 5, .int .i64 10] w fun e w' => e = .returned (.string ⟨#[53]⟩) ∧ w = w' := by
 go_enter Tryz.func252, Tryz.ntmps252
 go_wp2
 go_ret
 exact ⟨rfl, rfl⟩
theorem fmt6 (w : World) : Calls Tryz.prog 252 #[.int .i64 6, .int .i64 10] w fun e w' => e = .returned (.string ⟨#[54]⟩) ∧ w = w' := by
 go_enter Tryz.func252, Tryz.ntmps252
 go_wp2
 go_ret
 exact ⟨rfl, rfl⟩
theorem fmt7 (w : World) : Calls Tryz.prog 252 #[.int .i64 7, .int .i64 10] w fun e w' => e = .returned (.string ⟨#[55]⟩) ∧ w = w' := by
 go_enter Tryz.func252, Tryz.ntmps252
 go_wp2
 go_ret
 exact ⟨rfl, rfl⟩
theorem fmt8 (w : World) : Calls Tryz.prog 252 #[.int .i64 8, .int .i64 10] w fun e w' => e = .returned (.string ⟨#[56]⟩) ∧ w = w' := by
 go_enter Tryz.func252, Tryz.ntmps252
 go_wp2
 go_ret
 exact ⟨rfl, rfl⟩
theorem fmt9 (w : World) : Calls Tryz.prog 252 #[.int .i64 9, .int .i64 10] w fun e w' => e = .returned (.string ⟨#[57]⟩) ∧ w = w' := by
 go_enter Tryz.func252, Tryz.ntmps252
 go_wp2
 go_ret
 exact ⟨rfl, rfl⟩
theorem fm_digits (R : Nat) : Fm R (fun n => decide (n < 10)) (fun _ => True) := by
 refine ⟨fun _ _ _ _ => trivial, fun n w hn _ => ?_⟩
 have hn' : n < 10 := by simpa using hn
 have h : n = 0 ∨ n = 1 ∨ n = 2 ∨ n = 3 ∨ n = 4 ∨ n = 5 ∨ n = 6 ∨ n = 7 ∨ n = 8 ∨ n = 9 := by omega
 rcases h with rfl | rfl | rfl | rfl | rfl | rfl | rfl | rfl | rfl | rfl
 ·refine (fmt0 w).mono ?_
  rintro e w' ⟨rfl, rfl⟩
  exact ⟨by rw [show strN (decN 0) = ⟨#[48]⟩ by kernel_rfl], Below.refl _ _⟩
 ·refine (fmt1 w).mono ?_
  rintro e w' ⟨rfl, rfl⟩
  exact ⟨by rw [show strN (decN 1) = ⟨#[49]⟩ by kernel_rfl], Below.refl _ _⟩
 ·refine (fmt2 w).mono ?_
  rintro e w' ⟨rfl, rfl⟩
  exact ⟨by rw [show strN (decN 2) = ⟨#[50]⟩ by kernel_rfl], Below.refl _ _⟩
 ·refine (fmt3 w).mono ?_
  rintro e w' ⟨rfl, rfl⟩
  exact ⟨by rw [show strN (decN 3) = ⟨#[51]⟩ by kernel_rfl], Below.refl _ _⟩
 ·refine (fmt4 w).mono ?_
  rintro e w' ⟨rfl, rfl⟩
  exact ⟨by rw [show strN (decN 4) = ⟨#[52]⟩ by kernel_rfl], Below.refl _ _⟩
 ·refine (fmt5 w).mono ?_
  rintro e w' ⟨rfl, rfl⟩
  exact ⟨by rw [show strN (decN 5) = ⟨#[53]⟩ by kernel_rfl], Below.refl _ _⟩
 ·refine (fmt6 w).mono ?_
  rintro e w' ⟨rfl, rfl⟩
  exact ⟨by rw [show strN (decN 6) = ⟨#[54]⟩ by kernel_rfl], Below.refl _ _⟩
 ·refine (fmt7 w).mono ?_
  rintro e w' ⟨rfl, rfl⟩
  exact ⟨by rw [show strN (decN 7) = ⟨#[55]⟩ by kernel_rfl], Below.refl _ _⟩
 ·refine (fmt8 w).mono ?_
  rintro e w' ⟨rfl, rfl⟩
  exact ⟨by rw [show strN (decN 8) = ⟨#[56]⟩ by kernel_rfl], Below.refl _ _⟩
 ·refine (fmt9 w).mono ?_
  rintro e w' ⟨rfl, rfl⟩
  exact ⟨by rw [show strN (decN 9) = ⟨#[57]⟩ by kernel_rfl], Below.refl _ _⟩
def ParseZ (w : World) (fs : List Fu) (ze zp : Int) (e : Ending) (w' : World) : Prop :=
 ∃ V, e = .returned (.tuple #[.agg #[V], .int .i64 ze, .int .i64 zp]) ∧ FusC w' (Rng w.heap.size w'.heap.size) fs V ∧ Below w.heap.size w w'
theorem parseZ (A : Option Addr) (l : List Nat) (n c : Nat) (w : World) (hn : l.length = n) (hc : n ≤ c) (hcm : c ≤ maxLen) (hl : Lies w w.heap.size A c (bts l)) (hy : Byn l) (ht : Tab w) (err place : Nat) (fs : List Fu) (hp : parsed l = ⟨err, fs, place⟩) (ze zp : Int) (h1 : ze = err) (h2 : zp = place) :
  Calls Tryz.prog 12 #[.slice A n c] w (ParseZ w fs ze zp) := by
 subst hn h1 h2
 have h := parse A l c w hc hcm hl hy ht
 rw [hp] at h
 exact h
def headF : Fu := ⟨[102], [], 1, [.mk 5 [] [.mk 6 0 [43] [.mk 1 1 [] [] 21, .mk 6 0 [42] [.mk 1 2 [] [] 25, .mk 1 3 [] [] 29] 27] 23] [] [] 14], 0⟩
theorem head1 : parsed [102, 110, 32, 102, 40, 41, 58, 32, 105, 110, 116, 32, 123, 32, 114, 101, 116, 117, 114, 110, 32, 49, 32, 43, 32, 50, 32, 42, 32, 51, 59, 32, 125] = ⟨0, [headF], 0⟩ := by kernel_rfl
theorem head2 : parsed [102, 110, 32, 102, 40, 41, 32, 123, 32, 49, 32, 125] = ⟨41, [], 11⟩ := by kernel_rfl
theorem head3 : strN (shown [headF]) = ⟨#[102, 110, 32, 102, 40, 41, 58, 32, 105, 110, 116, 32, 123, 32, 114, 101, 116, 117, 114, 110, 32, 40, 49, 32, 43, 32, 40, 50, 32, 42, 32, 51, 41, 41, 59, 32, 125, 10]⟩ := by kernel_rfl
theorem head4 : numsFs (fun n => decide (n < 10)) [headF] = true := by kernel_rfl
theorem head5 : (shown [headF]).length = 38 := by kernel_rfl
theorem hbyn1 : Byn [102, 110, 32, 102, 40, 41, 58, 32, 105, 110, 116, 32, 123, 32, 114, 101, 116, 117, 114, 110, 32, 49, 32, 43, 32, 50, 32, 42, 32, 51, 59, 32, 125] := by unfold Byn; decide
theorem hbyn2 : Byn [102, 110, 32, 102, 40, 41, 32, 123, 32, 49, 32, 125] := by unfold Byn; decide
set_option maxHeartbeats 1600000 in
theorem head_true (w : World) (ht : Tab w) : Calls Tryz.prog 11 #[] w fun e w' => e = .returned (.bool true) ∧ Below w.heap.size w w' := by
 have hm : (convert 22 22 (.slice (some ⟨w.heap.size, 0, none⟩) 33 33)).run Tryz.prog (w.alloc (.cells #[.int .u8 102, .int .u8 110, .int .u8 32, .int .u8 102, .int .u8 40, .int .u8 41, .int .u8 58, .int .u8 32, .int .u8 105, .int .u8 110, .int .u8 116, .int .u8 32, .int .u8 123, .int .u8 32, .int .u8 114, .int .u8 101, .int .u8 116, .int .u8 117, .int .u8 114, .int .u8 110, .int .u8 32, .int .u8 49, .int .u8 32, .int .u8 43, .int .u8 32, .int .u8 50, .int .u8 32, .int .u8 42, .int .u8 32, .int .u8 51, .int .u8 59, .int .u8 32, .int .u8 125] 5)) = .ok (.slice (some ⟨w.heap.size, 0, none⟩) 33 33) (w.alloc (.cells #[.int .u8 102, .int .u8 110, .int .u8 32, .int .u8 102, .int .u8 40, .int .u8 41, .int .u8 58, .int .u8 32, .int .u8 105, .int .u8 110, .int .u8 116, .int .u8 32, .int .u8 123, .int .u8 32, .int .u8 114, .int .u8 101, .int .u8 116, .int .u8 117, .int .u8 114, .int .u8 110, .int .u8 32, .int .u8 49, .int .u8 32, .int .u8 43, .int .u8 32, .int .u8 50, .int .u8 32, .int .u8 42, .int .u8 32, .int .u8 51, .int .u8 59, .int .u8 32, .int .u8 125] 5 (33, 34))) := run_marked w _ 33 33
 have B0 := Lib.hid (below_alloc w (.cells #[.int .u8 102, .int .u8 110, .int .u8 32, .int .u8 102, .int .u8 40, .int .u8 41, .int .u8 58, .int .u8 32, .int .u8 105, .int .u8 110, .int .u8 116, .int .u8 32, .int .u8 123, .int .u8 32, .int .u8 114, .int .u8 101, .int .u8 116, .int .u8 117, .int .u8 114, .int .u8 110, .int .u8 32, .int .u8 49, .int .u8 32, .int .u8 43, .int .u8 32, .int .u8 50, .int .u8 32, .int .u8 42, .int .u8 32, .int .u8 51, .int .u8 59, .int .u8 32, .int .u8 125] 5 (33, 34)))
 have L0 : Hid (Lies (w.alloc (.cells #[.int .u8 102, .int .u8 110, .int .u8 32, .int .u8 102, .int .u8 40, .int .u8 41, .int .u8 58, .int .u8 32, .int .u8 105, .int .u8 110, .int .u8 116, .int .u8 32, .int .u8 123, .int .u8 32, .int .u8 114, .int .u8 101, .int .u8 116, .int .u8 117, .int .u8 114, .int .u8 110, .int .u8 32, .int .u8 49, .int .u8 32, .int .u8 43, .int .u8 32, .int .u8 50, .int .u8 32, .int .u8 42, .int .u8 32, .int .u8 51, .int .u8 59, .int .u8 32, .int .u8 125] 5 (33, 34))) (w.heap.size + 1) (some ⟨w.heap.size, 0, none⟩) 33 (bts [102, 110, 32, 102, 40, 41, 58, 32, 105, 110, 116, 32, 123, 32, 114, 101, 116, 117, 114, 110, 32, 49, 32, 43, 32, 50, 32, 42, 32, 51, 59, 32, 125])) := lies_new w [102, 110, 32, 102, 40, 41, 58, 32, 105, 110, 116, 32, 123, 32, 114, 101, 116, 117, 114, 110, 32, 49, 32, 43, 32, 50, 32, 42, 32, 51, 59, 32, 125] 33 5 (33, 34)
 have HT := Lib.hid ht
 have hpos := ht.1
 clear ht
 have K := Lib.hid (parseZ (some ⟨w.heap.size, 0, none⟩) [102, 110, 32, 102, 40, 41, 58, 32, 105, 110, 116, 32, 123, 32, 114, 101, 116, 117, 114, 110, 32, 49, 32, 43, 32, 50, 32, 42, 32, 51, 59, 32, 125] 33 33 (w.alloc (.cells #[.int .u8 102, .int .u8 110, .int .u8 32, .int .u8 102, .int .u8 40, .int .u8 41, .int .u8 58, .int .u8 32, .int .u8 105, .int .u8 110, .int .u8 116, .int .u8 32, .int .u8 123, .int .u8 32, .int .u8 114, .int .u8 101, .int .u8 116, .int .u8 117, .int .u8 114, .int .u8 110, .int .u8 32, .int .u8 49, .int .u8 32, .int .u8 43, .int .u8 32, .int .u8 50, .int .u8 32, .int .u8 42, .int .u8 32, .int .u8 51, .int .u8 59, .int .u8 32, .int .u8 125] 5 (33, 34))) rfl (by omega) (by unfold maxLen; omega) (L0.out.more (by simp)) hbyn1 (HT.out.below B0.out hpos) 0 0 [headF] head1 0 0 rfl rfl)
 go_enter Tryz.func11, Tryz.ntmps11
 go_wp2_with fail
 clear hm
 generalize w.alloc (.cells #[.int .u8 102, .int .u8 110, .int .u8 32, .int .u8 102, .int .u8 40, .int .u8 41, .int .u8 58, .int .u8 32, .int .u8 105, .int .u8 110, .int .u8 116, .int .u8 32, .int .u8 123, .int .u8 32, .int .u8 114, .int .u8 101, .int .u8 116, .int .u8 117, .int .u8 114, .int .u8 110, .int .u8 32, .int .u8 49, .int .u8 32, .int .u8 43, .int .u8 32, .int .u8 50, .int .u8 32, .int .u8 42, .int .u8 32, .int .u8 51, .int .u8 59, .int .u8 32, .int .u8 125] 5 (33, 34)) = w0 at *
 (with_reducible refine K.out.mono ?_)
 clear K
 rintro e w1 ⟨v1, rfl, ho1, hb1⟩
 have bw1 := B0.out.trans (hb1.mono B0.out.size)
 obtain ⟨b, o, c, k, hV, a1, a2, a3, a4, a5, a6⟩ := ho1.get (i := 0) (f := headF) rfl
 have hV' : v1 = .slice (some ⟨b, o, none⟩) 1 c := hV
 subst hV'
 obtain ⟨kp, kb⟩ := k
 obtain ⟨Ab, cb, hkb⟩ := stsC_sl a6
 have hkb' : kb = .slice Ab 1 cb := hkb
 subst hkb'
 have c3 : w1.cell? ⟨b, o + 3, none⟩ = some (.slice Ab 1 cb) := by
  have := a4 3 _ rfl
  rw [Nat.zero_mul, Nat.add_zero] at this
  exact this
 have s0 := B0.out.size
 have s1 := hb1.size
 have hbl : b < w1.heap.size := a3.2
 have HFu := Lib.hid ho1
 have BW1 := Lib.hid bw1
 have hc1 : 1 ≤ c := a1
 unfold maxLen at a2
 have C3 := Lib.hid c3
 have B1 := Lib.hid (below_alloc w1 (.cells #[.slice (some ⟨b, o, none⟩) 1 c] 26))
 have V1 := Lib.hid (heap_alloc_new w1 (.cells #[.slice (some ⟨b, o, none⟩) 1 c] 26))
 have hsa : (w1.alloc (.cells #[.slice (some ⟨b, o, none⟩) 1 c] 26)).heap.size = w1.heap.size + 1 := by simp
 have HSA := Lib.hid hsa
 have hm := run_marked (w1.alloc (.cells #[.slice (some ⟨b, o, none⟩) 1 c] 26)) #[.int .u8 102, .int .u8 110, .int .u8 32, .int .u8 102, .int .u8 40, .int .u8 41, .int .u8 32, .int .u8 123, .int .u8 32, .int .u8 49, .int .u8 32, .int .u8 125] 12 12
 have L2 := lies_new (w1.alloc (.cells #[.slice (some ⟨b, o, none⟩) 1 c] 26)) [102, 110, 32, 102, 40, 41, 32, 123, 32, 49, 32, 125] 12 5 (12, 13)
 have B2 := below_alloc (w1.alloc (.cells #[.slice (some ⟨b, o, none⟩) 1 c] 26)) (.cells #[.int .u8 102, .int .u8 110, .int .u8 32, .int .u8 102, .int .u8 40, .int .u8 41, .int .u8 32, .int .u8 123, .int .u8 32, .int .u8 49, .int .u8 32, .int .u8 125] 5 (12, 13))
 rw [hsa] at hm L2 B2
 have K := Lib.hid (parseZ (some ⟨w1.heap.size + 1, 0, none⟩) [102, 110, 32, 102, 40, 41, 32, 123, 32, 49, 32, 125] 12 12 ((w1.alloc (.cells #[.slice (some ⟨b, o, none⟩) 1 c] 26)).alloc (.cells #[.int .u8 102, .int .u8 110, .int .u8 32, .int .u8 102, .int .u8 40, .int .u8 41, .int .u8 32, .int .u8 123, .int .u8 32, .int .u8 49, .int .u8 32, .int .u8 125] 5 (12, 13))) rfl (by omega) (by unfold maxLen; omega) (L2.more (by simp)) hbyn2 (((HT.out.below BW1.out hpos).below B1.out (by have := BW1.out.size; omega)).below B2 (by have := BW1.out.size; omega)) 41 11 [] head2 41 11 rfl rfl)
 have HB2 := Lib.hid B2
 clear ho1 hb1 bw1 a3 a4 a5 a6 hV hkb L0 L2 B2 hsa c3
 go_wp2_with fail
 clear hm
 generalize (w1.alloc (.cells #[.slice (some ⟨b, o, none⟩) 1 c] 26)).alloc (.cells #[.int .u8 102, .int .u8 110, .int .u8 32, .int .u8 102, .int .u8 40, .int .u8 41, .int .u8 32, .int .u8 123, .int .u8 32, .int .u8 49, .int .u8 32, .int .u8 125] 5 (12, 13)) = w2 at *
 generalize w1.alloc (.cells #[.slice (some ⟨b, o, none⟩) 1 c] 26) = wa at *
 (with_reducible refine K.out.mono ?_)
 clear K
 rintro e w3 ⟨v3, rfl, ho3, hb3⟩
 obtain ⟨A3, c3, rfl⟩ : ∃ A c, v3 = .slice A 0 c := by
  obtain ⟨_, _, h, _⟩ := ho3
  exact row_slice h
 have hsa := HSA.out
 have b4 := below_alloc w3 (.cells #[.slice A3 0 c3] 26)
 have e2 := HB2.out.size
 have e3 := hb3.size
 have ba3 : Below (w1.heap.size + 1) wa w3 := HB2.out.trans (hb3.mono (by omega))
 have ba4 := ba3.trans (b4.mono (by have := ba3.size; omega))
 have b14 : Below w1.heap.size w1 (w3.alloc (.cells #[.slice A3 0 c3] 26)) := B1.out.trans (ba4.mono (by omega))
 have d0 : (w3.alloc (.cells #[.slice A3 0 c3] 26)).cell? ⟨w1.heap.size, 0, none⟩ = some (.slice (some ⟨b, o, none⟩) 1 c) := by
  rw [ba4.cell (p := ⟨w1.heap.size, 0, none⟩) (show w1.heap.size < _ by omega), Lib.cell_of_heap V1.out]
  rfl
 have d3 : (w3.alloc (.cells #[.slice A3 0 c3] 26)).cell? ⟨b, o + 3, none⟩ = some (.slice Ab 1 cb) := by
  rw [b14.cell (p := ⟨b, o + 3, none⟩) hbl]
  exact C3.out
 have hV4 : FusC (w3.alloc (.cells #[.slice A3 0 c3] 26)) (· < (w3.alloc (.cells #[.slice A3 0 c3] 26)).heap.size) [headF] (.slice (some ⟨b, o, none⟩) 1 c) :=
  (HFu.out.same fun k hk => b14.block k hk.2).more fun k hk => by have := hk.2; have := b14.size; omega
 have K := Lib.hid (showW [headF] head4 _ _ (fm_digits _) (fun _ _ => trivial) hV4 (by simp) (by rw [head5]; omega))
 rw [head3] at K
 have HB4 := Lib.hid (BW1.out.trans (b14.mono (by have := BW1.out.size; omega)))
 clear ho3 hb3 hsa b4 ba3 ba4 b14 hV4 e2 e3
 go_wp2_with fail
 generalize w3.alloc (.cells #[.slice A3 0 c3] 26) = w4 at *
 (with_reducible refine K.out.mono ?_)
 clear K
 rintro e w5 ⟨rfl, hb5⟩
 have HB5 := Lib.hid (HB4.out.trans (hb5.mono HB4.out.size))
 clear hb5
 go_wp2
 go_ret
 exact ⟨rfl, HB5.out⟩
end
end Go.Proofs.YtcilgkdnjgmogaaGreatDoor
