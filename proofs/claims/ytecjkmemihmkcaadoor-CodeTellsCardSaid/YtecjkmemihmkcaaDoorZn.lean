/- What 'Sign' and 'Number' return, and the live question ahead of every statement. Conditions: the table lies as the program lays it. -/
import Derived.Test.YtecjkmemihmkcaaDoorZm
import Derived.Lib.Bytes
namespace Go.Proofs.YtecjkmemihmkcaaDoor
set_option maxRecDepth 100000
open Go.RowKit
set_option linter.unusedSimpArgs false
set_option linter.unusedVariables false

theorem byt_inj : ∀ {a b : List Int}, Byt a → Byt b → Lib.bytesOf a = Lib.bytesOf b → a = b
  | [], [], _, _, _ => rfl
  | [], _ :: _, _, _, h => by simp [Lib.bytesOf] at h
  | _ :: _, [], _, _, h => by simp [Lib.bytesOf] at h
  | x :: a, y :: b, ha, hb, h => by
    have hx := ha x (List.mem_cons_self ..)
    have hy := hb y (List.mem_cons_self ..)
    simp only [Lib.bytesOf, List.map_cons, List.cons.injEq] at h
    have h1 := congrArg UInt8.toNat h.1
    simp only [UInt8.toNat_ofNat'] at h1
    rw [byt_inj (ha.sub fun z hz => List.mem_cons_of_mem _ hz) (hb.sub fun z hz => List.mem_cons_of_mem _ hz) h.2, show x = y by omega]
theorem str_eq {a b : List Int} (ha : Byt a) (hb : Byt b) : ((strOfNums a).toList == (strOfNums b).toList) = decide (a = b) := by
  rw [Lib.strOfNums_toList, Lib.strOfNums_toList, Bool.eq_iff_iff]
  simp only [beq_iff_eq, decide_eq_true_eq]
  exact ⟨byt_inj ha hb, fun h => by rw [h]⟩

/-- the signs, from 1 on -/
def signsL : List (List Int) := [[43], [45], [42], [47], [37], [60], [60, 61], [62], [62, 61], [61, 61], [33, 61], [33]]
/-- the table of signs lies in memory -/
def Tab (w : World) : Prop := 0 < w.heap.size ∧ w.rangeAt 0 0 (signsL.map fun s => Value.string (strOfNums s))
theorem Tab.below {w w' : World} {B : Nat} (h : Tab w) (hb : Below B w w') (hB : 0 < B) : Tab w' :=
  ⟨Nat.lt_of_lt_of_le h.1 hb.size, fun j u hu => by rw [hb.cell (by show 0 < B; exact hB)]; exact h.2 j u hu⟩
theorem signs_byt : ∀ s ∈ signsL, Byt s := by
  unfold signsL Byt
  decide
/-- the sign with a number -/
def signM (n : Int) : List Int := if 1 ≤ n ∧ n ≤ 12 then signsL.getD (n - 1).toNat [] else []
/-- the number of a sign -/
def numberM (s : List Int) : Int := if s ∈ signsL then (signsL.idxOf s : Int) + 1 else 0
theorem number_at {k : Nat} {s : List Int} (h : signsL[k]? = some s) : numberM s = (k : Int) + 1 := by
  have hk : k < 12 := (List.getElem?_eq_some_iff.1 h).1
  have : k = 0 ∨ k = 1 ∨ k = 2 ∨ k = 3 ∨ k = 4 ∨ k = 5 ∨ k = 6 ∨ k = 7 ∨ k = 8 ∨ k = 9 ∨ k = 10 ∨ k = 11 := by omega
  rcases this with rfl | rfl | rfl | rfl | rfl | rfl | rfl | rfl | rfl | rfl | rfl | rfl <;> (simp [signsL] at h; subst h; decide)
theorem number_none {s : List Int} (h : ∀ j, j < 12 → signsL[j]? ≠ some s) : numberM s = 0 := by
  unfold numberM
  rw [if_neg]
  intro hs
  obtain ⟨j, hj⟩ := List.getElem?_of_mem hs
  exact h j (List.getElem?_eq_some_iff.1 hj).1 hj

set_option maxHeartbeats 400000 in
theorem sign (n : Int) (w : World) (h1 : -9223372036854775808 ≤ n) (h2 : n ≤ 9223372036854775807) (ht : Tab w) : Calls Tryd.prog 19 #[.int .i64 n] w fun e w' => e = .returned (.string (strOfNums (signM n))) ∧ w = w' := by
  by_cases hn : 1 ≤ n ∧ n ≤ 12
  · obtain ⟨k, hkn⟩ : ∃ k : Nat, n = (k : Int) + 1 := ⟨(n - 1).toNat, by omega⟩
    have hk : k < 12 := by omega
    obtain ⟨s, hs⟩ : ∃ s, signsL[k]? = some s := ⟨_, List.getElem?_eq_getElem (show k < signsL.length from hk)⟩
    have hm : strOfNums (signM n) = strOfNums s := by
      unfold signM
      rw [if_pos hn, show (n - 1).toNat = k by omega]
      simp [List.getD, hs]
    have hc : w.cell? ⟨0, n.toNat - 1, none⟩ = some (.string (strOfNums s)) := by
      have := ht.2 k (.string (strOfNums s)) (by simp [hs])
      rw [show n.toNat - 1 = k by omega]
      simpa using this
    rw [hm]
    have e2 : wrap64 (n - 1) = k := by unfold wrap64; omega
    have e3 : ¬ n < 1 := by omega
    have e4 : ¬ 12 < n := by omega
    clear hm hs ht hkn hn h1 h2
    generalize strOfNums s = z at *
    go_enter Tryd.func19, Tryd.ntmps19
    go_wp2
    go_ret
    exact ⟨rfl, rfl⟩
  · have hm : strOfNums (signM n) = ⟨#[]⟩ := by
      unfold signM
      rw [if_neg hn]
      rfl
    rw [hm]
    clear hm ht
    by_cases h0 : n < 1
    · go_enter Tryd.func19, Tryd.ntmps19
      go_wp2
      go_ret
      exact ⟨rfl, rfl⟩
    · have h3 : 12 < n := by omega
      go_enter Tryd.func19, Tryd.ntmps19
      go_wp2
      go_ret
      exact ⟨rfl, rfl⟩

theorem run_index_agg (w : World) {t e : TypeId} {n k : Nat} {cs : List Value} {v : Value} (h : Tryd.prog.underlying t = some (.array n e)) (hi : (Tryd.prog.info? e).map (·.size) = some 1) (hg : (isAgg e).run Tryd.prog w = .ok false w)
    (hk : k < n) (hv : cs[k]? = some v) : (Instr.index t (.agg cs.toArray) (.int .i64 k)).run Tryd.prog w = .ok v w := by
  cases hq : Tryd.prog.info? e with
  | none => simp [hq] at hi
  | some i =>
    have hs : i.size = 1 := by simpa [hq] using hi
    simp [Instr.index, run_underlying h, sizeOf, typeInfo, hq, hs, part, hg, hk, hv, asIntOf]
theorem info9s : (Tryd.prog.info? 9).map (·.size) = some 1 := by kernel_rfl
theorem wpList_load72 {ops : Array Oper} {rest : List Oper} {o : Oper} {a : Act} {w : World} {Q : Exit → Act → World → Prop} (h : Tab w) (hgd : o.guard = none) (ho : o.op = .load 72 (.global 0))
    (hk : wpList Tryd.prog ops Q rest (a.put o.dst (.agg (signsL.map fun s => Value.string (strOfNums s)).toArray)) w) : wpList Tryd.prog ops Q (o :: rest) a w := by
  refine wpList_load_mid hgd 72 (.global 0) ho 0 0 rfl _ _ h.2 Tryd.underlying72 rfl (by kernel_rfl) hk

set_option maxHeartbeats 800000 in
theorem number (s : List Int) (w : World) (hy : Byt s) (ht : Tab w) : Calls Tryd.prog 21 #[.string (strOfNums s)] w fun e w' => e = .returned (.int .i64 (numberM s)) ∧ w = w' := by
  have HA : Hid (∀ (k : Nat) x, signsL[k]? = some x → s = x → numberM s = (k : Int) + 1) := fun k x h1 h2 => number_at (by rw [h2]; exact h1)
  have HN : Hid ((∀ j, j < 12 → signsL[j]? ≠ some s) → numberM s = 0) := number_none
  have HE : Hid (∀ x ∈ signsL, ((strOfNums s).toList == (strOfNums x).toList) = decide (s = x)) := fun x hx => str_eq hy (signs_byt x hx)
  have HL : Hid (∀ k : Nat, k < 12 → ∃ x, signsL[k]? = some x) := fun k hk => ⟨_, List.getElem?_eq_getElem (show k < signsL.length from hk)⟩
  have HV : Hid (∀ (k : Nat) x, signsL[k]? = some x → (signsL.map fun s => Value.string (strOfNums s))[k]? = some (.string (strOfNums x))) := fun k x h => by simp [h]
  have HT := Lib.hid ht
  generalize numberM s = r at *
  generalize strOfNums s = z at *
  go_enter Tryd.func21, Tryd.ntmps21
  go_wp2_with (first | (refine wpList_load72 HT.out rfl rfl ?_; refine Hid.out ?_) | fail)
  refine Lib.hid ?_
  have hlen : (signsL.map fun s => Value.string (strOfNums s)).length = 12 := rfl
  generalize (signsL.map fun s => Value.string (strOfNums s)) = tb at *
  go_wp2
  go_loop [6] (fun i => ∃ k : Nat, k ≤ 12 ∧ i = .int .i64 k ∧ ∀ j, j < k → signsL[j]? ≠ some s) (fun i => 12 - (intOf i).toNat)
  case atStart => exact ⟨0, by omega, rfl, fun j hj => by omega⟩
  case round =>
    obtain ⟨k, hk, rfl, hno⟩ := hrel
    have HNO := Lib.hid hno
    clear hno
    by_cases hkl : k < 12
    · obtain ⟨x, hx⟩ := HL.out k hkl
      have hv := HV.out k x hx
      have he := HE.out x (List.mem_of_getElem? hx)
      have HX := Lib.hid hx
      clear hx
      have hix := run_index_agg w (k := k) Tryd.underlying72 info9s (by simp) hkl hv
      clear hv
      by_cases hsx : s = x
      · rw [decide_eq_true hsx] at he
        have HR := Lib.hid (HA.out k x HX.out hsx)
        clear hsx
        have e5 : wrap64 ((k : Int) + 1) = (k : Int) + 1 := by unfold wrap64; omega
        go_wp2
        go_ret
        refine ⟨?_, rfl⟩
        rw [HR.out]
        rfl
      · rw [decide_eq_false hsx] at he
        have HNX : Hid (∀ j, j < k + 1 → signsL[j]? ≠ some s) := fun j hj => by
          by_cases hjk : j < k
          · exact HNO.out j hjk
          · obtain rfl : j = k := by omega
            rw [HX.out]
            intro e
            injection e with e
            exact hsx e.symm
        clear hsx
        go_wp2
        go_round
        case rel => exact ⟨k + 1, by omega, by go_num, HNX.out⟩
        case measure => simp [intOf]; omega
    · obtain rfl : k = 12 := by omega
      have HR := Lib.hid (HN.out HNO.out)
      go_wp2
      go_ret
      exact ⟨by rw [HR.out]; rfl, rfl⟩

end Go.Proofs.YtecjkmemihmkcaaDoor
