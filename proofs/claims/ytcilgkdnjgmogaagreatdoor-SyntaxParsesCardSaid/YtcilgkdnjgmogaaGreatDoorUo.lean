/- What the document's 'Same' says, with places, of a program twice. -/
import Derived.Test.YtcilgkdnjgmogaaGreatDoorNK
namespace Go.Proofs.YtcilgkdnjgmogaaGreatDoor
open Go.RowKit
set_option maxRecDepth 100000
set_option linter.unusedSimpArgs false
set_option linter.unusedVariables false
mutual
theorem alsoL_refl (p : Bool) : ∀ l : List Ex, AlsoL p l l
 | [] => .nil
 | e :: l => .cons rfl rfl rfl (fun _ => rfl) (alsoK_refl p e) (alsoL_refl p l)
theorem alsoK_refl (p : Bool) : ∀ e : Ex, AlsoL p e.kids e.kids
 | .mk _ _ _ k _ => alsoL_refl p k
end
mutual
theorem alsoB_refl (p : Bool) : ∀ l : List St, AlsoB p l l
 | [] => .nil
 | s :: l => .cons rfl rfl (fun _ => rfl) (alsoL_refl p _) (alsoBo_refl p s) (alsoEl_refl p s) (alsoB_refl p l)
theorem alsoBo_refl (p : Bool) : ∀ s : St, AlsoB p s.body s.body
 | .mk _ _ _ b _ _ => alsoB_refl p b
theorem alsoEl_refl (p : Bool) : ∀ s : St, AlsoB p s.els s.els
 | .mk _ _ _ _ b _ => alsoB_refl p b
end
theorem alsoFs_refl (p : Bool) (l : List Fu) : AlsoFs p l l := ⟨rfl, fun i f f' h h' => by
 rw [h] at h'
 injection h' with h'
 subst h'
 exact ⟨rfl, rfl, rfl, fun _ => rfl, alsoB_refl p _⟩⟩
set_option maxHeartbeats 3200000 in
theorem sameT (l l' : List Fu) (hQ : AlsoFs true l l') (V V' : Value) (w : World) (B : Nat) (hB : B ≤ w.heap.size) (hV : FusC w (· < B) l V) (hV' : FusC w (· < B) l' V') :
  Calls Tryz.prog 14 #[.agg #[V], .agg #[V'], .bool true] w (Yes w) := by
 obtain ⟨A, c, rfl⟩ : ∃ A c, V = .slice A l.length c := by
  obtain ⟨_, _, h, _⟩ := hV
  exact row_slice h
 obtain ⟨A', c', rfl⟩ : ∃ A c, V' = .slice A l'.length c := by
  obtain ⟨_, _, h, _⟩ := hV'
  exact row_slice h
 have HQ := Lib.hid hQ
 have HV : Hid (FusC w (· < B) l (.slice A l.length c) ∧ FusC w (· < B) l' (.slice A' l'.length c')) := ⟨hV, hV'⟩
 have hle := hQ.1
 have hmx : l.length ≤ 9223372036854775807 := by
  cases l with
  | nil => simp
  | cons x r =>
   obtain ⟨b, o, c0, k, e, h1, h2, _⟩ := hV.get (i := 0) (f := x) rfl
   unfold maxLen at h2
   omega
 clear hV hV' hQ
 have HLE := Lib.hid hle
 rw [← hle] at HV ⊢
 clear hle
 have bx := below_two (Below.refl w.heap.size w) (Nat.le_refl _) (.cells #[.slice A l.length c] 26) (.cells #[.slice A' l.length c'] 26)
 have m1 : ((w.alloc (.cells #[.slice A l.length c] 26)).alloc (.cells #[.slice A' l.length c'] 26)).heap[w.heap.size]? = some (.cells #[.slice A l.length c] 26 (0, 0)) := by
  rw [Below.heap_alloc _ _ _ (by simp)]
  exact heap_alloc_new w _
 have m2 : ((w.alloc (.cells #[.slice A l.length c] 26)).alloc (.cells #[.slice A' l.length c'] 26)).heap[w.heap.size + 1]? = some (.cells #[.slice A' l.length c'] 26 (0, 0)) := by
  have := heap_alloc_new (w.alloc (.cells #[.slice A l.length c] 26)) (.cells #[.slice A' l.length c'] 26)
  simpa using this
 have msz : ((w.alloc (.cells #[.slice A l.length c] 26)).alloc (.cells #[.slice A' l.length c'] 26)).heap.size = w.heap.size + 2 := by simp
 have HBX := Lib.hid bx
 have HMz : Hid (∀ w', Below ((w.alloc (.cells #[.slice A l.length c] 26)).alloc (.cells #[.slice A' l.length c'] 26)).heap.size ((w.alloc (.cells #[.slice A l.length c] 26)).alloc (.cells #[.slice A' l.length c'] 26)) w' → w'.cell? ⟨w.heap.size, 0, none⟩ = some (.slice A l.length c) ∧ w'.cell? ⟨w.heap.size + 1, 0, none⟩ = some (.slice A' l.length c')) := fun w' h =>
  ⟨by rw [Lib.cell_of_heap (show w'.heap[w.heap.size]? = _ by rw [h.block _ (by rw [msz]; omega)]; exact m1)]; rfl, by rw [Lib.cell_of_heap (show w'.heap[w.heap.size + 1]? = _ by rw [h.block _ (by rw [msz]; omega)]; exact m2)]; rfl⟩
 have HMs := Lib.hid msz
 clear bx m1 m2 msz
 go_enter Tryz.func14, Tryz.ntmps14
 go_wp2
 generalize (w.alloc (.cells #[.slice A l.length c] 26)).alloc (.cells #[.slice A' l.length c'] 26) = wx at *
 go_loopw [7, 8, 9, 10] (fun i _ _ _ wr => ∃ k : Nat, k ≤ l.length ∧ i = .int .i64 k ∧ Hid (Below wx.heap.size wx wr)) (fun i _ _ _ _ => l.length - (intOf i).toNat)
 case atStart => exact ⟨0, Nat.zero_le _, rfl, Below.refl _ _⟩
 case round =>
  obtain ⟨k, hk, rfl, HB⟩ := hrel
  obtain ⟨x0, x1⟩ := HMz.out wr HB.out
  by_cases hlt : k < l.length
  ·have he : l[k]? = some l[k] := List.getElem?_eq_getElem hlt
   generalize l[k] = f at he
   have he' : l'[k]? = some (l'[k]'(by have := HLE.out; omega)) := List.getElem?_eq_getElem (by have := HLE.out; omega)
   generalize l'[k]'(by have := HLE.out; omega) = f' at he'
   obtain ⟨b, o, c0, q, e1, a1, a2, a3, a4, a5, a6⟩ := HV.out.1.get he
   obtain ⟨b', o', c0', q', e1', a1', a2', a3', a4', a5', a6'⟩ := HV.out.2.get he'
   injection e1 with e1 _ e2
   injection e1' with e1' z1' e2'
   clear z1'
   subst e1 e2 e1' e2'
   obtain ⟨g1, g2, g3, g4', g5⟩ := HQ.out.2 k f f' he he'
   have g4 := g4' rfl
   clear g4'
   obtain ⟨qp, qb⟩ := q
   obtain ⟨qp', qb'⟩ := q'
   obtain ⟨P, cp, rfl⟩ := row_slice a5
   obtain ⟨Y, cb, rfl⟩ := stsC_sl a6
   obtain ⟨P', cp', hP'⟩ := row_slice a5'
   obtain ⟨Y', cb', rfl⟩ := stsC_sl a6'
   have hP'' : qp' = .slice P' f.params.length cp' := by rw [g2]; exact hP'
   subst hP''
   clear hP'
   have a5'' : RowF w (· < B) f.params.length (pasC f.params) (.slice P' f.params.length cp') := by rw [g2]; rw [g2] at a5'; exact a5'
   have hwx : Below w.heap.size w wr := HBX.out.trans (HB.out.mono HBX.out.size)
   have r1 : wr.rangeAt b (o + k * 5) [.string (strN f.name), .slice P f.params.length cp, .int .i64 f.result, .slice Y f.body.length cb, .int .i64 f.place] := range_kept a4 (hwx.mono hB) a3
   have hB1 : Below B w (wr.alloc (.cells #[.string (strN f.name), .slice P f.params.length cp, .int .i64 f.result, .slice Y f.body.length cb, .int .i64 f.place] 69)) := (hwx.mono hB).alloc (Nat.le_trans hB hwx.size) _
   have r2 : (wr.alloc (.cells #[.string (strN f.name), .slice P f.params.length cp, .int .i64 f.result, .slice Y f.body.length cb, .int .i64 f.place] 69)).rangeAt b' (o' + k * 5) [.string (strN f.name), .slice P' f.params.length cp', .int .i64 f.result, .slice Y' f'.body.length cb', .int .i64 f.place] := by
    have hcs : fuC f' (.slice P' f.params.length cp') (.slice Y' f'.body.length cb') = [.string (strN f.name), .slice P' f.params.length cp', .int .i64 f.result, .slice Y' f'.body.length cb', .int .i64 f.place] := by unfold fuC; rw [g1, g3, g4]
    rw [← hcs]
    exact range_kept a4' hB1 a3'
   have R1 := Lib.hid r1
   have R2 := Lib.hid r2
   have bb := below_two (Below.refl wr.heap.size wr) (Nat.le_refl _) (.cells #[.string (strN f.name), .slice P f.params.length cp, .int .i64 f.result, .slice Y f.body.length cb, .int .i64 f.place] 69) (.cells #[.string (strN f.name), .slice P' f.params.length cp', .int .i64 f.result, .slice Y' f'.body.length cb', .int .i64 f.place] 69)
   have HBB := Lib.hid (HB.out.trans (bb.mono HB.out.size))
   have n1 : ((wr.alloc (.cells #[.string (strN f.name), .slice P f.params.length cp, .int .i64 f.result, .slice Y f.body.length cb, .int .i64 f.place] 69)).alloc (.cells #[.string (strN f.name), .slice P' f.params.length cp', .int .i64 f.result, .slice Y' f'.body.length cb', .int .i64 f.place] 69)).heap[wr.heap.size]? = some (.cells #[.string (strN f.name), .slice P f.params.length cp, .int .i64 f.result, .slice Y f.body.length cb, .int .i64 f.place] 69 (0, 0)) := by
    rw [Below.heap_alloc _ _ _ (by simp)]
    exact heap_alloc_new wr _
   have n2 : ((wr.alloc (.cells #[.string (strN f.name), .slice P f.params.length cp, .int .i64 f.result, .slice Y f.body.length cb, .int .i64 f.place] 69)).alloc (.cells #[.string (strN f.name), .slice P' f.params.length cp', .int .i64 f.result, .slice Y' f'.body.length cb', .int .i64 f.place] 69)).heap[wr.heap.size + 1]? = some (.cells #[.string (strN f.name), .slice P' f.params.length cp', .int .i64 f.result, .slice Y' f'.body.length cb', .int .i64 f.place] 69 (0, 0)) := by
    have := heap_alloc_new (wr.alloc (.cells #[.string (strN f.name), .slice P f.params.length cp, .int .i64 f.result, .slice Y f.body.length cb, .int .i64 f.place] 69)) (.cells #[.string (strN f.name), .slice P' f.params.length cp', .int .i64 f.result, .slice Y' f'.body.length cb', .int .i64 f.place] 69)
    simpa using this
   have nsz : ((wr.alloc (.cells #[.string (strN f.name), .slice P f.params.length cp, .int .i64 f.result, .slice Y f.body.length cb, .int .i64 f.place] 69)).alloc (.cells #[.string (strN f.name), .slice P' f.params.length cp', .int .i64 f.result, .slice Y' f'.body.length cb', .int .i64 f.place] 69)).heap.size = wr.heap.size + 2 := by simp
   have HNz : Hid (∀ w', Below ((wr.alloc (.cells #[.string (strN f.name), .slice P f.params.length cp, .int .i64 f.result, .slice Y f.body.length cb, .int .i64 f.place] 69)).alloc (.cells #[.string (strN f.name), .slice P' f.params.length cp', .int .i64 f.result, .slice Y' f'.body.length cb', .int .i64 f.place] 69)).heap.size ((wr.alloc (.cells #[.string (strN f.name), .slice P f.params.length cp, .int .i64 f.result, .slice Y f.body.length cb, .int .i64 f.place] 69)).alloc (.cells #[.string (strN f.name), .slice P' f.params.length cp', .int .i64 f.result, .slice Y' f'.body.length cb', .int .i64 f.place] 69)) w' → (∀ j, w'.cell? ⟨wr.heap.size, j, none⟩ = (#[.string (strN f.name), .slice P f.params.length cp, .int .i64 f.result, .slice Y f.body.length cb, .int .i64 f.place] : Array Value)[j]?) ∧ (∀ j, w'.cell? ⟨wr.heap.size + 1, j, none⟩ = (#[.string (strN f.name), .slice P' f.params.length cp', .int .i64 f.result, .slice Y' f'.body.length cb', .int .i64 f.place] : Array Value)[j]?)) := fun w' h =>
    ⟨fun j => Lib.cell_of_heap (by rw [h.block _ (by rw [nsz]; omega)]; exact n1) j, fun j => Lib.cell_of_heap (by rw [h.block _ (by rw [nsz]; omega)]; exact n2) j⟩
   have hW2 : Below w.heap.size w ((wr.alloc (.cells #[.string (strN f.name), .slice P f.params.length cp, .int .i64 f.result, .slice Y f.body.length cb, .int .i64 f.place] 69)).alloc (.cells #[.string (strN f.name), .slice P' f.params.length cp', .int .i64 f.result, .slice Y' f'.body.length cb', .int .i64 f.place] 69)) := HBX.out.trans (HBB.out.mono HBX.out.size)
   have x2 := (HMz.out (wr.alloc (.cells #[.string (strN f.name), .slice P f.params.length cp, .int .i64 f.result, .slice Y f.body.length cb, .int .i64 f.place] 69)) (HB.out.alloc HB.out.size _)).2
   have X2 := Lib.hid x2
   have HPr : Hid (RowF w (· < B) f.params.length (pasC f.params) (.slice P f.params.length cp) ∧ RowF w (· < B) f.params.length (pasC f.params) (.slice P' f.params.length cp')) := ⟨a5, a5''⟩
   have q1 : (((f.result : Nat) : Int) != f.result) = false := by simp
   have q2 : (((f.place : Nat) : Int) != f.place) = false := by simp
   have q3 : ((strN f.name).toList == (strN f.name).toList) = true := by simp
   have a1'' : l.length ≤ c' := by have := HLE.out; omega
   unfold maxLen at a2 a2'
   have K := Lib.hid (sameB_ok g5 _ _ _ B (Nat.le_trans hB hW2.size) (a6.same (below_same' (hW2.mono hB))) (a6'.same (below_same' (hW2.mono hB))))
   have s0 := HBB.out.size
   have hplen : f.params.length ≤ 9223372036854775807 := by
    obtain ⟨_, cq, e9, h1, h2, _⟩ := a5
    injection e9 with _ _ e9
    subst e9
    unfold maxLen at h2
    omega
   clear a1' a4 a4' a5 a6 a5' a5'' a6' he he' g1 g2 g3 g4 g5 r1 r2 bb n1 n2 hB1 hwx hW2
   go_wp2_with (first | (refine wpList_load_mid rfl 69 (.tmp 28) rfl b (o + k * 5) rfl [.string (strN f.name), .slice P f.params.length cp, .int .i64 f.result, .slice Y f.body.length cb, .int .i64 f.place] _ R1.out Tryz.underlying69 rfl info47s ?_; refine Hid.out ?_) | fail)
   refine Lib.hid ?_
   clear x0
   go_wp2_with (first | (refine wpList_load_mid rfl 69 (.tmp 33) rfl b' (o' + k * 5) rfl [.string (strN f.name), .slice P' f.params.length cp', .int .i64 f.result, .slice Y' f'.body.length cb', .int .i64 f.place] _ R2.out Tryz.underlying69 rfl info47s ?_; refine Hid.out ?_) | fail)
   refine Lib.hid ?_
   clear x1 x2
   go_wp2_with fail
   generalize (wr.alloc (.cells #[.string (strN f.name), .slice P f.params.length cp, .int .i64 f.result, .slice Y f.body.length cb, .int .i64 f.place] 69)).alloc (.cells #[.string (strN f.name), .slice P' f.params.length cp', .int .i64 f.result, .slice Y' f'.body.length cb', .int .i64 f.place] 69) = w2 at *
   (with_reducible refine K.out.mono ?_)
   clear K
   rintro e5 w5 ⟨rfl, hb5⟩
   have HB5 := Lib.hid (HBB.out.trans (hb5.mono s0))
   have H5 := Lib.hid hb5
   have hc5 := HNz.out w5 hb5
   clear hb5
   go_wp2
   have s5z := H5.out.size
   generalize wr.heap.size = z at *
   go_loopw [10] (fun i wq => ∃ j : Nat, j ≤ f.params.length ∧ i = .int .i64 j ∧ Hid (Below w2.heap.size w2 wq ∧ Below wx.heap.size wx wq)) (fun i _ => f.params.length - (intOf i).toNat)
   case atStart => exact ⟨0, Nat.zero_le _, rfl, H5.out, HB5.out⟩
   case round =>
    obtain ⟨j, hj, rfl, HJ⟩ := hrel
    have hcq := HNz.out wr HJ.out.1
    have u1 : wr.cell? ⟨z, 1, none⟩ = some (.slice P f.params.length cp) := hcq.1 1
    have v1 : wr.cell? ⟨z + 1, 1, none⟩ = some (.slice P' f.params.length cp') := hcq.2 1
    clear hcq
    by_cases hjl : j < f.params.length
    ·have hpj : f.params[j]? = some f.params[j] := List.getElem?_eq_getElem hjl
     generalize f.params[j] = pr at hpj
     have hbx : Below B w wr := (HBX.out.trans (HJ.out.2.mono HBX.out.size)).mono hB
     obtain ⟨y1, o1, d1, e1, t1, t2, _, t3, t4⟩ := param_get (HPr.out.1.same (below_same' hbx)) hpj
     obtain ⟨y2, o2, d2, e2, t1', t2', _, t3', t4'⟩ := param_get (HPr.out.2.same (below_same' hbx)) hpj
     injection e1 with e1 _ e3
     injection e2 with e2 _ e4
     subst e1 e2 e3 e4
     have p1 : ((strN pr.1).toList == (strN pr.1).toList) = true := by simp
     have p2 : (((pr.2 : Nat) : Int) != pr.2) = false := by simp
     unfold maxLen at t2 t2'
     have HJn : Hid (∀ n, Below w2.heap.size w2 (wr.drewN n) ∧ Below wx.heap.size wx (wr.drewN n)) := fun n => ⟨below_drewN HJ.out.1 n, below_drewN HJ.out.2 n⟩
     clear hpj hbx
     go_wp2_with fail
     go_quiet (fail)
     go_wp2
     go_roundw
     case rel => exact ⟨j + 1, by omega, by go_num, HJn.out _⟩
     case measure => simp [intOf]; omega
    ·go_wp2
     go_roundw
     case rel => exact ⟨k + 1, by omega, by go_num, HJ.out.2⟩
     case measure => simp [intOf]; omega
  ·go_wp2
   go_ret
   exact ⟨rfl, HBX.out.trans (HB.out.mono HBX.out.size)⟩
end Go.Proofs.YtcilgkdnjgmogaaGreatDoor
