/- What the document's 'Same' says of expressions that are alike. -/
import Derived.Test.YtcilgkdnjgmogaaGreatDoorNJ
namespace Go.Proofs.YtcilgkdnjgmogaaGreatDoor
section
open Go.RowKit
set_option maxRecDepth 100000
set_option linter.unusedSimpArgs false
set_option linter.unusedVariables false
inductive AlsoL (p : Bool) : List Ex → List Ex → Prop
 | nil : AlsoL p [] []
 | cons {e e' : Ex} {l l' : List Ex} (ho : e.op = e'.op) (hn : e.num = e'.num) (ht : e.text = e'.text) (hp : p = true → e.place = e'.place) (hk : AlsoL p e.kids e'.kids) (hl : AlsoL p l l') : AlsoL p (e :: l) (e' :: l')
def Yes (w : World) (e : Ending) (w' : World) : Prop := e = .returned (.bool true) ∧ Below w.heap.size w w'
def SameLOk (p : Bool) (l l' : List Ex) : Prop := ∀ (V V' : Value) (w : World) (B : Nat), B ≤ w.heap.size → ExsC w (· < B) l V → ExsC w (· < B) l' V' → Calls Tryz.prog 74 #[V, V', .bool p] w (Yes w)
theorem below_same' {B : Nat} {w w' : World} (h : Below B w w') : Same (· < B) w w' := fun k hk => h.block k hk
set_option maxHeartbeats 800000 in
theorem sameExpr (p : Bool) (op num place place' : Nat) (text : List Nat) (kids kids' : List Ex) (hp : p = true → place = place') (hP : SameLOk p kids kids') (k k' : Value) (w : World) (B : Nat) (hB : B ≤ w.heap.size) (hk : ExsC w (· < B) kids k) (hk' : ExsC w (· < B) kids' k') :
  Calls Tryz.prog 126 #[.agg #[.int .i64 op, .int .i64 num, .string (strN text), k, .int .i64 place], .agg #[.int .i64 op, .int .i64 num, .string (strN text), k', .int .i64 place'], .bool p] w (Yes w) := by
 obtain ⟨A, c, rfl⟩ := exsC_slice hk
 obtain ⟨A', c', rfl⟩ := exsC_slice hk'
 have b2 := below_two (Below.refl w.heap.size w) (Nat.le_refl _) (.cells #[.int .i64 op, .int .i64 num, .string (strN text), .slice A kids.length c, .int .i64 place] 202) (.cells #[.int .i64 op, .int .i64 num, .string (strN text), .slice A' kids'.length c', .int .i64 place'] 202)
 have K := Lib.hid (hP _ _ _ B (Nat.le_trans hB b2.size) (hk.same (below_same' (b2.mono hB))) (hk'.same (below_same' (b2.mono hB))))
 have HB := Lib.hid b2
 have q1 : (((op : Nat) : Int) != op) = false := by simp
 have q2 : (((num : Nat) : Int) != num) = false := by simp
 have q3 : ((strN text).toList == (strN text).toList) = true := by simp
 clear hk hk' b2
 cases p with
 | true =>
  have q4 : (((place : Nat) : Int) != place') = false := by rw [hp rfl]; simp
  clear hp
  go_enter Tryz.func126, Tryz.ntmps126
  go_wp2_with fail
  generalize (w.alloc (.cells #[.int .i64 op, .int .i64 num, .string (strN text), .slice A kids.length c, .int .i64 place] 202)).alloc (.cells #[.int .i64 op, .int .i64 num, .string (strN text), .slice A' kids'.length c', .int .i64 place'] 202) = w2 at *
  (with_reducible refine K.out.mono ?_)
  clear K
  rintro e w3 ⟨rfl, hb⟩
  have HB3 := Lib.hid (HB.out.trans (hb.mono HB.out.size))
  clear hb
  go_wp2
  go_ret
  exact ⟨rfl, HB3.out⟩
 | false =>
  clear hp
  go_enter Tryz.func126, Tryz.ntmps126
  go_wp2_with fail
  generalize (w.alloc (.cells #[.int .i64 op, .int .i64 num, .string (strN text), .slice A kids.length c, .int .i64 place] 202)).alloc (.cells #[.int .i64 op, .int .i64 num, .string (strN text), .slice A' kids'.length c', .int .i64 place'] 202) = w2 at *
  (with_reducible refine K.out.mono ?_)
  clear K
  rintro e w3 ⟨rfl, hb⟩
  have HB3 := Lib.hid (HB.out.trans (hb.mono HB.out.size))
  clear hb
  go_wp2
  go_ret
  exact ⟨rfl, HB3.out⟩
def AlsoQ (p : Bool) (l l' : List Ex) : Prop := l.length = l'.length ∧ ∀ (i : Nat) (e e' : Ex), l[i]? = some e → l'[i]? = some e' → e.op = e'.op ∧ e.num = e'.num ∧ e.text = e'.text ∧ (p = true → e.place = e'.place) ∧ SameLOk p e.kids e'.kids
theorem range_kept {B b o : Nat} {w w' : World} {cs : List Value} (h : w.rangeAt b o cs) (hb : Below B w w') (hB : b < B) : w'.rangeAt b o cs := fun j v hv => by
 rw [hb.cell (p := ⟨b, o + j, none⟩) hB]
 exact h j v hv
set_option maxHeartbeats 1600000 in
theorem sameExprs (p : Bool) (l l' : List Ex) (hQ : AlsoQ p l l') : SameLOk p l l' := by
 intro V V' w B hB hV hV'
 obtain ⟨A, c, rfl⟩ := exsC_slice hV
 obtain ⟨A', c', rfl⟩ := exsC_slice hV'
 have HQ := Lib.hid hQ
 have HV : Hid (ExsC w (· < B) l (.slice A l.length c) ∧ ExsC w (· < B) l' (.slice A' l'.length c')) := ⟨hV, hV'⟩
 have hle := hQ.1
 have hmx : l.length ≤ 9223372036854775807 := by
  cases l with
  | nil => simp
  | cons x r =>
   obtain ⟨b, o, c0, k, e, h1, h2, _⟩ := hV.get (i := 0) (e := x) rfl
   unfold maxLen at h2
   omega
 clear hV hV' hQ
 have HLE := Lib.hid hle
 rw [← hle] at HV ⊢
 clear hle
 go_enter Tryz.func74, Tryz.ntmps74
 go_wp2
 go_loopw [7, 8] (fun i _ wr => ∃ k : Nat, k ≤ l.length ∧ i = .int .i64 k ∧ Hid (Below w.heap.size w wr)) (fun i _ _ => l.length - (intOf i).toNat)
 case atStart => exact ⟨0, Nat.zero_le _, rfl, Below.refl _ _⟩
 case round =>
  obtain ⟨k, hk, rfl, HB⟩ := hrel
  by_cases hlt : k < l.length
  ·have he : l[k]? = some l[k] := List.getElem?_eq_getElem hlt
   generalize l[k] = e at he
   have he' : l'[k]? = some (l'[k]'(by have := HLE.out; omega)) := List.getElem?_eq_getElem (by have := HLE.out; omega)
   generalize l'[k]'(by have := HLE.out; omega) = e' at he'
   obtain ⟨b, o, c0, q, e1, a1, a2, a3, a4, a5⟩ := HV.out.1.get he
   obtain ⟨b', o', c0', q', e1', a1', a2', a3', a4', a5'⟩ := HV.out.2.get he'
   injection e1 with e1 _ e2
   injection e1' with e1' z1' e2'
   clear z1'
   subst e1 e2 e1' e2'
   obtain ⟨g1, g2, g3, g4, g5⟩ := HQ.out.2 k e e' he he'
   obtain ⟨X, cx, rfl⟩ := exsC_slice a5
   obtain ⟨X', cx', rfl⟩ := exsC_slice a5'
   have HR : Hid (∀ w', Below B w w' → w'.rangeAt b (o + k * 5) [.int .i64 e.op, .int .i64 e.num, .string (strN e.text), .slice X e.kids.length cx, .int .i64 e.place] ∧ w'.rangeAt b' (o' + k * 5) [.int .i64 e'.op, .int .i64 e'.num, .string (strN e'.text), .slice X' e'.kids.length cx', .int .i64 e'.place]) := fun w' h => ⟨range_kept a4 h a3, range_kept a4' h a3'⟩
   have HD : Hid (Below B w wr.drew) := (HB.out.mono hB).drew
   have K := Lib.hid (sameExpr p e.op e.num e.place e'.place e.text e.kids e'.kids g4 g5 (.slice X e.kids.length cx) (.slice X' e'.kids.length cx') wr.drew B (Nat.le_trans hB HB.out.size) (a5.same (below_same' HD.out)) (a5'.same (below_same' HD.out)))
   rw [g1, g2, g3] at HR K
   have HBd := Lib.hid HB.out.drew
   unfold maxLen at a2 a2'
   clear a4 a4' a5 a5' he he' g1 g2 g3 g4 g5
   have a1'' : l.length ≤ c' := by have := HLE.out; omega
   clear a1'
   go_wp2_with fail
   refine wp_region_held_drew (S := fun w' => w'.rangeAt b (o + k * 5) [.int .i64 e'.op, .int .i64 e'.num, .string (strN e'.text), .slice X e.kids.length cx, .int .i64 e.place] ∧ w'.rangeAt b' (o' + k * 5) [.int .i64 e'.op, .int .i64 e'.num, .string (strN e'.text), .slice X' e'.kids.length cx', .int .i64 e'.place]) (by kernel_rfl) (HR.out _ HD.out) (fun hHeld => ?_)
   refine wpAnyH_take (i := 0) (v := ?v0) rfl (by kernel_rfl) (by kernel_rfl) (by kernel_rfl) (fun _ _ _ h => h) (Or.inl ⟨by kernel_rfl, ?y0⟩) (by assumption) ?r0
   case y0 => (intro w hSw; (try dsimp only at hSw); go_simp; (try with_reducible rfl))
   try simp only [Act.put, List.getElem_toArray, List.getElem_cons_zero, List.getElem_cons_succ, List.setIfInBounds_toArray, List.set_cons_zero, List.set_cons_succ]
   refine wpAnyH_take (i := 1) (v := ?v1) rfl (by kernel_rfl) (by kernel_rfl) (by kernel_rfl) (fun _ _ _ h => h) (Or.inl ⟨by kernel_rfl, ?y1⟩) (by assumption) ?r1
   case y1 => (intro w hSw; (try dsimp only at hSw); go_simp; (try with_reducible rfl))
   try simp only [Act.put, List.getElem_toArray, List.getElem_cons_zero, List.getElem_cons_succ, List.setIfInBounds_toArray, List.set_cons_zero, List.set_cons_succ]
   refine wpAnyH_take (i := 2) (v := ?v2) rfl (by kernel_rfl) (by kernel_rfl) (by kernel_rfl) (fun _ _ _ h => h) (Or.inl ⟨by kernel_rfl, ?y2⟩) (by assumption) ?r2
   case y2 => (intro w hSw; (try dsimp only at hSw); go_simp; (try with_reducible rfl))
   try simp only [Act.put, List.getElem_toArray, List.getElem_cons_zero, List.getElem_cons_succ, List.setIfInBounds_toArray, List.set_cons_zero, List.set_cons_succ]
   refine wpAnyH_take (i := 3) (v := .agg #[.int .i64 e'.op, .int .i64 e'.num, .string (strN e'.text), .slice X e.kids.length cx, .int .i64 e.place]) rfl (by kernel_rfl) (by kernel_rfl) (by kernel_rfl) (fun _ _ _ h => h) (yieldsIf_load_mid (by kernel_rfl) 202 (.tmp 22) rfl b (o + k * 5) rfl [.int .i64 e'.op, .int .i64 e'.num, .string (strN e'.text), .slice X e.kids.length cx, .int .i64 e.place] _ (fun _ h => h.1) Tryz.underlying202 rfl info39s) (by assumption) ?r3
   try simp only [Act.put, List.getElem_toArray, List.getElem_cons_zero, List.getElem_cons_succ, List.setIfInBounds_toArray, List.set_cons_zero, List.set_cons_succ]
   refine wpAnyH_take (i := 4) (v := ?v4) rfl (by kernel_rfl) (by kernel_rfl) (by kernel_rfl) (fun _ _ _ h => h) (Or.inl ⟨by kernel_rfl, ?y4⟩) (by assumption) ?r4
   case y4 => (intro w hSw; (try dsimp only at hSw); go_simp; (try with_reducible rfl))
   try simp only [Act.put, List.getElem_toArray, List.getElem_cons_zero, List.getElem_cons_succ, List.setIfInBounds_toArray, List.set_cons_zero, List.set_cons_succ]
   refine wpAnyH_take (i := 5) (v := ?v5) rfl (by kernel_rfl) (by kernel_rfl) (by kernel_rfl) (fun _ _ _ h => h) (Or.inl ⟨by kernel_rfl, ?y5⟩) (by assumption) ?r5
   case y5 => (intro w hSw; (try dsimp only at hSw); go_simp; (try with_reducible rfl))
   try simp only [Act.put, List.getElem_toArray, List.getElem_cons_zero, List.getElem_cons_succ, List.setIfInBounds_toArray, List.set_cons_zero, List.set_cons_succ]
   refine wpAnyH_take (i := 6) (v := ?v6) rfl (by kernel_rfl) (by kernel_rfl) (by kernel_rfl) (fun _ _ _ h => h) (Or.inl ⟨by kernel_rfl, ?y6⟩) (by assumption) ?r6
   case y6 => (intro w hSw; (try dsimp only at hSw); go_simp; (try with_reducible rfl))
   try simp only [Act.put, List.getElem_toArray, List.getElem_cons_zero, List.getElem_cons_succ, List.setIfInBounds_toArray, List.set_cons_zero, List.set_cons_succ]
   refine wpAnyH_take (i := 7) (v := .agg #[.int .i64 e'.op, .int .i64 e'.num, .string (strN e'.text), .slice X' e'.kids.length cx', .int .i64 e'.place]) rfl (by kernel_rfl) (by kernel_rfl) (by kernel_rfl) (fun _ _ _ h => h) (yieldsIf_load_mid (by kernel_rfl) 202 (.tmp 26) rfl b' (o' + k * 5) rfl [.int .i64 e'.op, .int .i64 e'.num, .string (strN e'.text), .slice X' e'.kids.length cx', .int .i64 e'.place] _ (fun _ h => h.2) Tryz.underlying202 rfl info39s) (by assumption) ?r7
   try simp only [Act.put, List.getElem_toArray, List.getElem_cons_zero, List.getElem_cons_succ, List.setIfInBounds_toArray, List.set_cons_zero, List.set_cons_succ]
   refine wpAnyH_take (i := 8) (v := ?v8) rfl (by kernel_rfl) (by kernel_rfl) (by kernel_rfl) (fun _ _ _ h => h) (Or.inl ⟨by kernel_rfl, ?y8⟩) (by assumption) ?r8
   case y8 => (intro w hSw; (try dsimp only at hSw); go_simp; (try with_reducible rfl))
   try simp only [Act.put, List.getElem_toArray, List.getElem_cons_zero, List.getElem_cons_succ, List.setIfInBounds_toArray, List.set_cons_zero, List.set_cons_succ]
   generalize wr.drew = wd at *
   refine wpAnyH_ready (rs := [9]) (by kernel_rfl) (by simp) ?_
   refine AllReadyH.cons rfl (fun K' hK => ?_) AllReadyH.nil
   go_simp
   (with_reducible refine K.out.mono ?_)
   clear K
   rintro e5 w5 ⟨rfl, hb5⟩
   have HB5 := Lib.hid (HBd.out.trans (hb5.mono HBd.out.size))
   clear hb5
   go_wp2_with fail
   refine hK.out _ _ (HR.out _ (HB5.out.mono hB)) (fun hHeld => ?_)
   clear hK K'
   refine wpAnyH_take (i := 10) (v := ?v10) rfl (by kernel_rfl) (by kernel_rfl) (by kernel_rfl) (fun _ _ _ h => h) (Or.inl ⟨by kernel_rfl, ?y10⟩) (by assumption) ?r10
   case y10 => (intro w hSw; (try dsimp only at hSw); go_simp; (try with_reducible rfl))
   try simp only [Act.put, List.getElem_toArray, List.getElem_cons_zero, List.getElem_cons_succ, List.setIfInBounds_toArray, List.set_cons_zero, List.set_cons_succ]
   clear hHeld
   refine wpAnyH_done (by kernel_rfl) ?_ _
   go_wp2
   go_roundw
   case rel => exact ⟨k + 1, by omega, by go_num, HB5.out⟩
   case measure => simp [intOf]; omega
  ·go_wp2
   go_ret
   exact ⟨rfl, HB.out⟩
theorem AlsoL.all {p : Bool} {l l' : List Ex} (h : AlsoL p l l') : AlsoQ p l l' := by
 induction h with
 | nil => exact ⟨rfl, fun i e e' h => by simp at h⟩
 | cons ho hn ht hp _ _ ihk ihl =>
  refine ⟨by simp [ihl.1], fun i x x' hx hx' => ?_⟩
  cases i with
  | zero =>
   simp at hx hx'
   subst hx hx'
   exact ⟨ho, hn, ht, hp, sameExprs p _ _ ihk⟩
  | succ i => exact ihl.2 i x x' (by simpa using hx) (by simpa using hx')
theorem sameL_ok {p : Bool} {l l' : List Ex} (h : AlsoL p l l') : SameLOk p l l' := sameExprs p l l' h.all
inductive AlsoB (p : Bool) : List St → List St → Prop
 | nil : AlsoB p [] []
 | cons {s s' : St} {l l' : List St} (ho : s.op = s'.op) (ht : s.text = s'.text) (hp : p = true → s.place = s'.place) (he : AlsoL p s.exprs s'.exprs) (hb : AlsoB p s.body s'.body) (hf : AlsoB p s.els s'.els) (hl : AlsoB p l l') : AlsoB p (s :: l) (s' :: l')
def SameBOk (p : Bool) (l l' : List St) : Prop := ∀ (V V' : Value) (w : World) (B : Nat), B ≤ w.heap.size → StsC w (· < B) l V → StsC w (· < B) l' V' → Calls Tryz.prog 38 #[V, V', .bool p] w (Yes w)
def AlsoBQ (p : Bool) (l l' : List St) : Prop := l.length = l'.length ∧ ∀ (i : Nat) (s s' : St), l[i]? = some s → l'[i]? = some s' → s.op = s'.op ∧ s.text = s'.text ∧ (p = true → s.place = s'.place) ∧ SameLOk p s.exprs s'.exprs ∧ SameBOk p s.body s'.body ∧ SameBOk p s.els s'.els
set_option maxHeartbeats 3200000 in
theorem sameStmts (p : Bool) (l l' : List St) (hQ : AlsoBQ p l l') : SameBOk p l l' := by
 intro V V' w B hB hV hV'
 obtain ⟨A, c, rfl⟩ := stsC_sl hV
 obtain ⟨A', c', rfl⟩ := stsC_sl hV'
 have HQ := Lib.hid hQ
 have HV : Hid (StsC w (· < B) l (.slice A l.length c) ∧ StsC w (· < B) l' (.slice A' l'.length c')) := ⟨hV, hV'⟩
 have hle := hQ.1
 have hmx : l.length ≤ 9223372036854775807 := by
  cases l with
  | nil => simp
  | cons x r =>
   obtain ⟨b, o, c0, k, e, h1, h2, _⟩ := hV.get (i := 0) (s := x) rfl
   unfold maxLen at h2
   omega
 clear hV hV' hQ
 have HLE := Lib.hid hle
 rw [← hle] at HV ⊢
 clear hle
 go_enter Tryz.func38, Tryz.ntmps38
 go_wp2
 go_loopw [7, 8, 9] (fun i _ _ wr => ∃ k : Nat, k ≤ l.length ∧ i = .int .i64 k ∧ Hid (Below w.heap.size w wr)) (fun i _ _ _ => l.length - (intOf i).toNat)
 case atStart => exact ⟨0, Nat.zero_le _, rfl, Below.refl _ _⟩
 case round =>
  obtain ⟨k, hk, rfl, HB⟩ := hrel
  by_cases hlt : k < l.length
  ·have he : l[k]? = some l[k] := List.getElem?_eq_getElem hlt
   generalize l[k] = s at he
   have he' : l'[k]? = some (l'[k]'(by have := HLE.out; omega)) := List.getElem?_eq_getElem (by have := HLE.out; omega)
   generalize l'[k]'(by have := HLE.out; omega) = s' at he'
   obtain ⟨b, o, c0, q, e1, a1, a2, a3, a4, a5, a6, a7⟩ := HV.out.1.get he
   obtain ⟨b', o', c0', q', e1', a1', a2', a3', a4', a5', a6', a7'⟩ := HV.out.2.get he'
   injection e1 with e1 _ e2
   injection e1' with e1' z1' e2'
   clear z1'
   subst e1 e2 e1' e2'
   obtain ⟨g1, g2, g3, g4, g5, g6⟩ := HQ.out.2 k s s' he he'
   obtain ⟨qe, qb, qf⟩ := q
   obtain ⟨qe', qb', qf'⟩ := q'
   obtain ⟨E, ce, rfl⟩ := exsC_slice a5
   obtain ⟨Y, cb, rfl⟩ := stsC_sl a6
   obtain ⟨F, cf, rfl⟩ := stsC_sl a7
   obtain ⟨E', ce', rfl⟩ := exsC_slice a5'
   obtain ⟨Y', cb', rfl⟩ := stsC_sl a6'
   obtain ⟨F', cf', rfl⟩ := stsC_sl a7'
   have r1 : wr.rangeAt b (o + k * 6) [.int .i64 s.op, .string (strN s.text), .slice E s.exprs.length ce, .slice Y s.body.length cb, .slice F s.els.length cf, .int .i64 s.place] := range_kept a4 (HB.out.mono hB) a3
   have hB1 : Below B w (wr.alloc (.cells #[.int .i64 s.op, .string (strN s.text), .slice E s.exprs.length ce, .slice Y s.body.length cb, .slice F s.els.length cf, .int .i64 s.place] 145)) := (HB.out.mono hB).alloc (Nat.le_trans hB HB.out.size) _
   have r2 : (wr.alloc (.cells #[.int .i64 s.op, .string (strN s.text), .slice E s.exprs.length ce, .slice Y s.body.length cb, .slice F s.els.length cf, .int .i64 s.place] 145)).rangeAt b' (o' + k * 6) [.int .i64 s.op, .string (strN s.text), .slice E' s'.exprs.length ce', .slice Y' s'.body.length cb', .slice F' s'.els.length cf', .int .i64 s'.place] := by
    have hcs : stC s' (.slice E' s'.exprs.length ce') (.slice Y' s'.body.length cb') (.slice F' s'.els.length cf') = [.int .i64 s.op, .string (strN s.text), .slice E' s'.exprs.length ce', .slice Y' s'.body.length cb', .slice F' s'.els.length cf', .int .i64 s'.place] := by unfold stC; rw [g1, g2]
    rw [← hcs]
    exact range_kept a4' hB1 a3'
   have R1 := Lib.hid r1
   have R2 := Lib.hid r2
   have bb := below_two (Below.refl wr.heap.size wr) (Nat.le_refl _) (.cells #[.int .i64 s.op, .string (strN s.text), .slice E s.exprs.length ce, .slice Y s.body.length cb, .slice F s.els.length cf, .int .i64 s.place] 145) (.cells #[.int .i64 s.op, .string (strN s.text), .slice E' s'.exprs.length ce', .slice Y' s'.body.length cb', .slice F' s'.els.length cf', .int .i64 s'.place] 145)
   have HBB := Lib.hid (HB.out.trans (bb.mono HB.out.size))
   have n1 : ((wr.alloc (.cells #[.int .i64 s.op, .string (strN s.text), .slice E s.exprs.length ce, .slice Y s.body.length cb, .slice F s.els.length cf, .int .i64 s.place] 145)).alloc (.cells #[.int .i64 s.op, .string (strN s.text), .slice E' s'.exprs.length ce', .slice Y' s'.body.length cb', .slice F' s'.els.length cf', .int .i64 s'.place] 145)).heap[wr.heap.size]? = some (.cells #[.int .i64 s.op, .string (strN s.text), .slice E s.exprs.length ce, .slice Y s.body.length cb, .slice F s.els.length cf, .int .i64 s.place] 145 (0, 0)) := by
    rw [Below.heap_alloc _ _ _ (by simp)]
    exact heap_alloc_new wr _
   have n2 : ((wr.alloc (.cells #[.int .i64 s.op, .string (strN s.text), .slice E s.exprs.length ce, .slice Y s.body.length cb, .slice F s.els.length cf, .int .i64 s.place] 145)).alloc (.cells #[.int .i64 s.op, .string (strN s.text), .slice E' s'.exprs.length ce', .slice Y' s'.body.length cb', .slice F' s'.els.length cf', .int .i64 s'.place] 145)).heap[wr.heap.size + 1]? = some (.cells #[.int .i64 s.op, .string (strN s.text), .slice E' s'.exprs.length ce', .slice Y' s'.body.length cb', .slice F' s'.els.length cf', .int .i64 s'.place] 145 (0, 0)) := by
    have := heap_alloc_new (wr.alloc (.cells #[.int .i64 s.op, .string (strN s.text), .slice E s.exprs.length ce, .slice Y s.body.length cb, .slice F s.els.length cf, .int .i64 s.place] 145)) (.cells #[.int .i64 s.op, .string (strN s.text), .slice E' s'.exprs.length ce', .slice Y' s'.body.length cb', .slice F' s'.els.length cf', .int .i64 s'.place] 145)
    simpa using this
   have nsz : ((wr.alloc (.cells #[.int .i64 s.op, .string (strN s.text), .slice E s.exprs.length ce, .slice Y s.body.length cb, .slice F s.els.length cf, .int .i64 s.place] 145)).alloc (.cells #[.int .i64 s.op, .string (strN s.text), .slice E' s'.exprs.length ce', .slice Y' s'.body.length cb', .slice F' s'.els.length cf', .int .i64 s'.place] 145)).heap.size = wr.heap.size + 2 := by simp
   have HNz : Hid (∀ w', Below ((wr.alloc (.cells #[.int .i64 s.op, .string (strN s.text), .slice E s.exprs.length ce, .slice Y s.body.length cb, .slice F s.els.length cf, .int .i64 s.place] 145)).alloc (.cells #[.int .i64 s.op, .string (strN s.text), .slice E' s'.exprs.length ce', .slice Y' s'.body.length cb', .slice F' s'.els.length cf', .int .i64 s'.place] 145)).heap.size ((wr.alloc (.cells #[.int .i64 s.op, .string (strN s.text), .slice E s.exprs.length ce, .slice Y s.body.length cb, .slice F s.els.length cf, .int .i64 s.place] 145)).alloc (.cells #[.int .i64 s.op, .string (strN s.text), .slice E' s'.exprs.length ce', .slice Y' s'.body.length cb', .slice F' s'.els.length cf', .int .i64 s'.place] 145)) w' → (∀ j, w'.cell? ⟨wr.heap.size, j, none⟩ = (#[.int .i64 s.op, .string (strN s.text), .slice E s.exprs.length ce, .slice Y s.body.length cb, .slice F s.els.length cf, .int .i64 s.place] : Array Value)[j]?) ∧ (∀ j, w'.cell? ⟨wr.heap.size + 1, j, none⟩ = (#[.int .i64 s.op, .string (strN s.text), .slice E' s'.exprs.length ce', .slice Y' s'.body.length cb', .slice F' s'.els.length cf', .int .i64 s'.place] : Array Value)[j]?)) := fun w' h =>
    ⟨fun j => Lib.cell_of_heap (by rw [h.block _ (by rw [nsz]; omega)]; exact n1) j, fun j => Lib.cell_of_heap (by rw [h.block _ (by rw [nsz]; omega)]; exact n2) j⟩
   have HA : Hid (∀ w', Below w.heap.size w w' → ExsC w' (· < B) s.exprs (.slice E s.exprs.length ce) ∧ ExsC w' (· < B) s'.exprs (.slice E' s'.exprs.length ce') ∧ StsC w' (· < B) s.body (.slice Y s.body.length cb) ∧ StsC w' (· < B) s'.body (.slice Y' s'.body.length cb') ∧ StsC w' (· < B) s.els (.slice F s.els.length cf) ∧ StsC w' (· < B) s'.els (.slice F' s'.els.length cf')) := fun w' h =>
    ⟨a5.same (below_same' (h.mono hB)), a5'.same (below_same' (h.mono hB)), a6.same (below_same' (h.mono hB)), a6'.same (below_same' (h.mono hB)), a7.same (below_same' (h.mono hB)), a7'.same (below_same' (h.mono hB))⟩
   have HG : Hid (SameLOk p s.exprs s'.exprs ∧ SameBOk p s.body s'.body ∧ SameBOk p s.els s'.els) := ⟨g4, g5, g6⟩
   have q1 : (((s.op : Nat) : Int) != s.op) = false := by simp
   have q3 : ((strN s.text).toList == (strN s.text).toList) = true := by simp
   have HPl := Lib.hid g3
   have a1'' : l.length ≤ c' := by have := HLE.out; omega
   unfold maxLen at a2 a2'
   have hA0 := HA.out _ HBB.out
   have K := Lib.hid (HG.out.1 _ _ _ B (Nat.le_trans hB HBB.out.size) hA0.1 hA0.2.1)
   have s0 := HBB.out.size
   clear hA0 a1' a4 a4' a5 a6 a7 a5' a6' a7' he he' g1 g2 g3 g4 g5 g6 r1 r2 bb n1 n2 hB1
   go_wp2_with (first | (refine wpList_load_mid rfl 145 (.tmp 23) rfl b (o + k * 6) rfl [.int .i64 s.op, .string (strN s.text), .slice E s.exprs.length ce, .slice Y s.body.length cb, .slice F s.els.length cf, .int .i64 s.place] _ R1.out Tryz.underlying145 rfl info43s ?_; refine Hid.out ?_) | fail)
   refine Lib.hid ?_
   go_wp2_with (first | (refine wpList_load_mid rfl 145 (.tmp 27) rfl b' (o' + k * 6) rfl [.int .i64 s.op, .string (strN s.text), .slice E' s'.exprs.length ce', .slice Y' s'.body.length cb', .slice F' s'.els.length cf', .int .i64 s'.place] _ R2.out Tryz.underlying145 rfl info43s ?_; refine Hid.out ?_) | fail)
   refine Lib.hid ?_
   have hz0 := HNz.out _ (Below.refl _ _)
   cases p with
   | true =>
    have q4 : (((s.place : Nat) : Int) != s'.place) = false := by rw [HPl.out rfl]; simp
    clear hz0
    go_wp2_with fail
    generalize (wr.alloc (.cells #[.int .i64 s.op, .string (strN s.text), .slice E s.exprs.length ce, .slice Y s.body.length cb, .slice F s.els.length cf, .int .i64 s.place] 145)).alloc (.cells #[.int .i64 s.op, .string (strN s.text), .slice E' s'.exprs.length ce', .slice Y' s'.body.length cb', .slice F' s'.els.length cf', .int .i64 s'.place] 145) = w2 at *
    (with_reducible refine K.out.mono ?_)
    clear K
    rintro e5 w5 ⟨rfl, hb5⟩
    have HB5 := Lib.hid (HBB.out.trans (hb5.mono s0))
    have H5 := Lib.hid hb5
    have s5 := hb5.size
    have hc5 := HNz.out w5 hb5
    have u3 : w5.cell? ⟨wr.heap.size, 3, none⟩ = some (.slice Y s.body.length cb) := hc5.1 3
    have v3 : w5.cell? ⟨wr.heap.size + 1, 3, none⟩ = some (.slice Y' s'.body.length cb') := hc5.2 3
    have hA5 := HA.out _ HB5.out
    have K := Lib.hid (HG.out.2.1 _ _ w5 B (Nat.le_trans hB HB5.out.size) hA5.2.2.1 hA5.2.2.2.1)
    clear hb5 hc5 hA5
    go_wp2_with fail
    (with_reducible refine K.out.mono ?_)
    clear K u3 v3
    rintro e6 w6 ⟨rfl, hb6⟩
    have HB6 := Lib.hid (HB5.out.trans (hb6.mono HB5.out.size))
    have H6 := Lib.hid (H5.out.trans (hb6.mono s5))
    have hc6 := HNz.out w6 H6.out
    have u4 : w6.cell? ⟨wr.heap.size, 4, none⟩ = some (.slice F s.els.length cf) := hc6.1 4
    have v4 : w6.cell? ⟨wr.heap.size + 1, 4, none⟩ = some (.slice F' s'.els.length cf') := hc6.2 4
    have hA6 := HA.out _ HB6.out
    have K := Lib.hid (HG.out.2.2 _ _ w6 B (Nat.le_trans hB HB6.out.size) hA6.2.2.2.2.1 hA6.2.2.2.2.2)
    clear hb6 hc6 hA6
    go_wp2_with fail
    (with_reducible refine K.out.mono ?_)
    clear K u4 v4
    rintro e7 w7 ⟨rfl, hb7⟩
    have HB7 := Lib.hid (HB6.out.trans (hb7.mono HB6.out.size))
    clear hb7
    go_wp2
    go_roundw
    case rel => exact ⟨k + 1, by omega, by go_num, HB7.out⟩
    case measure => simp [intOf]; omega
   | false =>
    clear hz0
    go_wp2_with fail
    generalize (wr.alloc (.cells #[.int .i64 s.op, .string (strN s.text), .slice E s.exprs.length ce, .slice Y s.body.length cb, .slice F s.els.length cf, .int .i64 s.place] 145)).alloc (.cells #[.int .i64 s.op, .string (strN s.text), .slice E' s'.exprs.length ce', .slice Y' s'.body.length cb', .slice F' s'.els.length cf', .int .i64 s'.place] 145) = w2 at *
    (with_reducible refine K.out.mono ?_)
    clear K
    rintro e5 w5 ⟨rfl, hb5⟩
    have HB5 := Lib.hid (HBB.out.trans (hb5.mono s0))
    have H5 := Lib.hid hb5
    have s5 := hb5.size
    have hc5 := HNz.out w5 hb5
    have u3 : w5.cell? ⟨wr.heap.size, 3, none⟩ = some (.slice Y s.body.length cb) := hc5.1 3
    have v3 : w5.cell? ⟨wr.heap.size + 1, 3, none⟩ = some (.slice Y' s'.body.length cb') := hc5.2 3
    have hA5 := HA.out _ HB5.out
    have K := Lib.hid (HG.out.2.1 _ _ w5 B (Nat.le_trans hB HB5.out.size) hA5.2.2.1 hA5.2.2.2.1)
    clear hb5 hc5 hA5
    go_wp2_with fail
    (with_reducible refine K.out.mono ?_)
    clear K u3 v3
    rintro e6 w6 ⟨rfl, hb6⟩
    have HB6 := Lib.hid (HB5.out.trans (hb6.mono HB5.out.size))
    have H6 := Lib.hid (H5.out.trans (hb6.mono s5))
    have hc6 := HNz.out w6 H6.out
    have u4 : w6.cell? ⟨wr.heap.size, 4, none⟩ = some (.slice F s.els.length cf) := hc6.1 4
    have v4 : w6.cell? ⟨wr.heap.size + 1, 4, none⟩ = some (.slice F' s'.els.length cf') := hc6.2 4
    have hA6 := HA.out _ HB6.out
    have K := Lib.hid (HG.out.2.2 _ _ w6 B (Nat.le_trans hB HB6.out.size) hA6.2.2.2.2.1 hA6.2.2.2.2.2)
    clear hb6 hc6 hA6
    go_wp2_with fail
    (with_reducible refine K.out.mono ?_)
    clear K u4 v4
    rintro e7 w7 ⟨rfl, hb7⟩
    have HB7 := Lib.hid (HB6.out.trans (hb7.mono HB6.out.size))
    clear hb7
    go_wp2
    go_roundw
    case rel => exact ⟨k + 1, by omega, by go_num, HB7.out⟩
    case measure => simp [intOf]; omega
  ·go_wp2
   go_ret
   exact ⟨rfl, HB.out⟩
end
section
open Go.RowKit
set_option maxRecDepth 100000
set_option linter.unusedSimpArgs false
set_option linter.unusedVariables false
theorem AlsoB.all {p : Bool} {l l' : List St} (h : AlsoB p l l') : AlsoBQ p l l' := by
 induction h with
 | nil => exact ⟨rfl, fun i e e' h => by simp at h⟩
 | cons ho ht hp he _ _ _ ihb ihf ihl =>
  refine ⟨by simp [ihl.1], fun i x x' hx hx' => ?_⟩
  cases i with
  | zero =>
   simp at hx hx'
   subst hx hx'
   exact ⟨ho, ht, hp, sameL_ok he, sameStmts p _ _ ihb, sameStmts p _ _ ihf⟩
  | succ i => exact ihl.2 i x x' (by simpa using hx) (by simpa using hx')
theorem sameB_ok {p : Bool} {l l' : List St} (h : AlsoB p l l') : SameBOk p l l' := sameStmts p l l' h.all
def AlsoFs (p : Bool) (l l' : List Fu) : Prop := l.length = l'.length ∧ ∀ (i : Nat) (f f' : Fu), l[i]? = some f → l'[i]? = some f' → f.name = f'.name ∧ f.params = f'.params ∧ f.result = f'.result ∧ (p = true → f.place = f'.place) ∧ AlsoB p f.body f'.body
end
end Go.Proofs.YtcilgkdnjgmogaaGreatDoor
