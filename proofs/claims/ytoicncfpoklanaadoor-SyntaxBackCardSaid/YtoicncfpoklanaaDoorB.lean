/- What the program's 'Word' returns. Conditions: the table of the words lies as the program lays it. -/
import Derived.Test.YtoicncfpoklanaaDoorA
import Derived.Deep.MidRow
namespace Go.Proofs.YtoicncfpoklanaaDoor
open Go.RowKit
set_option maxRecDepth 100000

abbrev strV (s : List Nat) : Value := .string (strN s)
/-- the table of words, and that of signs, as the program lays them -/
def Tab (w : World) : Prop := 1 < w.heap.size ∧ w.rangeAt 0 0 (wordsN.map strV) ∧ w.rangeAt 1 0 (signsN.map strV)
theorem Tab.below {w w' : World} {B : Nat} (h : Tab w) (hb : Below B w w') (hB : 1 < B) : Tab w' :=
  ⟨Nat.lt_of_lt_of_le h.1 hb.size, fun k v hk => by rw [hb.cell (show (Addr.mk 0 _ none).block < B by show 0 < B; omega)]; exact h.2.1 k v hk,
   fun k v hk => by rw [hb.cell (show (Addr.mk 1 _ none).block < B by show 1 < B; omega)]; exact h.2.2 k v hk⟩
theorem info108 : (Tryd.prog.info? 108).map (·.size) = some 17 := by kernel_rfl
theorem info109 : (Tryd.prog.info? 109).map (·.size) = some 22 := by kernel_rfl
theorem load41 {w : World} (h : Tab w) : (Instr.loadAt 108 (.pointer (some ⟨0, 0, none⟩))).run Tryd.prog w = .ok (.agg (wordsN.map strV).toArray) w :=
  run_loadAt_mid w 0 0 108 _ _ h.2.1 Tryd.underlying108 rfl info108
theorem load48 {w : World} (h : Tab w) : (Instr.loadAt 109 (.pointer (some ⟨1, 0, none⟩))).run Tryd.prog w = .ok (.agg (signsN.map strV).toArray) w :=
  run_loadAt_mid w 1 0 109 _ _ h.2.2 Tryd.underlying109 rfl info109

theorem wpList_load41 {ops : Array Oper} {rest : List Oper} {o : Oper} {a : Act} {w : World} {Q : Exit → Act → World → Prop} (h : Tab w) (hgd : o.guard = none) (ho : o.op = .load 108 (.global 0))
    (k : wpList Tryd.prog ops Q rest (a.put o.dst (.agg (wordsN.map strV).toArray)) w) : wpList Tryd.prog ops Q (o :: rest) a w :=
  wpList_load_mid hgd 108 (.global 0) ho 0 0 rfl _ _ h.2.1 Tryd.underlying108 rfl info108 k

theorem run_index_agg (w : World) {t e : TypeId} {n k : Nat} {cs : List Value} {v : Value} (h : Tryd.prog.underlying t = some (.array n e)) (hi : (Tryd.prog.info? e).map (·.size) = some 1) (hg : (isAgg e).run Tryd.prog w = .ok false w)
    (hk : k < n) (hv : cs[k]? = some v) : (Instr.index t (.agg cs.toArray) (.int .i64 k)).run Tryd.prog w = .ok v w := by
  cases hq : Tryd.prog.info? e with
  | none => simp [hq] at hi
  | some i =>
    have hs : i.size = 1 := by simpa [hq] using hi
    simp [Instr.index, run_underlying h, sizeOf, typeInfo, hq, hs, part, hg, hk, hv, asIntOf]
theorem info9s : (Tryd.prog.info? 9).map (·.size) = some 1 := by kernel_rfl
theorem words_get {k : Nat} (h : k < 17) : ∃ x, wordsN[k]? = some x ∧ (wordsN.map strV)[k]? = some (.string (strN x)) ∧ Byn x := by
  have hk : k < wordsN.length := h
  refine ⟨wordsN[k], List.getElem?_eq_getElem hk, by simp [hk], ?_⟩
  have hall : ∀ x ∈ wordsN, ∀ b ∈ x, b < 256 := by decide
  exact hall _ (List.getElem_mem hk)

theorem word (s : List Nat) (w : World) (hy : Byn s) (ht : Tab w) :
    Calls Tryd.prog 48 #[.string (strN s)] w fun e w' => e = .returned (.bool (isWord s)) ∧ w = w' := by
  have HT := Lib.hid ht
  have HY := Lib.hid hy
  clear ht hy
  have hlen : (wordsN.map strV).length = 17 := rfl
  have HG : Hid (∀ k, k < 17 → ∃ x, wordsN[k]? = some x ∧ (wordsN.map strV)[k]? = some (.string (strN x)) ∧ Byn x) := fun k h => words_get h
  have HW : Hid (isWord s = wordsN.contains s) := rfl
  have HS : Hid (wordsN.length = 17) := rfl
  go_enter Tryd.func48, Tryd.ntmps48
  go_wp2_with (refine wpList_load41 HT.out rfl rfl ?_; generalize wordsN.map strV = kw at *)
  generalize wordsN = W at *
  go_loop [6] (fun i => ∃ k : Nat, k ≤ 17 ∧ i = .int .i64 k ∧ Hid (s ∉ W.take k)) (fun i => 17 - (intOf i).toNat)
  case atStart => exact ⟨0, Nat.zero_le _, rfl, by simp [Hid]⟩
  case round =>
    obtain ⟨k, hk, rfl, HR⟩ := hrel
    by_cases hlt : k < 17
    · obtain ⟨x, h1, h2, h3⟩ := HG.out k hlt
      have H1 := Lib.hid h1
      have H3 := Lib.hid h3
      have hix := run_index_agg w (k := k) Tryd.underlying108 info9s (by simp) hlt h2
      clear h1 h3 h2
      by_cases he : s = x
      · have heq := strN_eq HY.out H3.out
        rw [decide_eq_true he] at heq
        have HE := Lib.hid he
        clear he
        go_wp2
        go_ret
        refine ⟨ret_bool ?_, rfl⟩
        rw [HW.out, HE.out]
        simp [List.mem_of_getElem? H1.out]
      · have heq := strN_eq HY.out H3.out
        rw [decide_eq_false he] at heq
        have HE := Lib.hid he
        clear he
        go_wp2
        go_round
        case rel =>
          refine ⟨k + 1, by omega, by go_num, ?_⟩
          have h1 := HR.out
          have h2 := HE.out
          show s ∉ W.take (k + 1)
          rw [List.take_add_one, H1.out]
          simp [h1, h2]
        case measure => simp [intOf]; omega
    · obtain rfl : k = 17 := by omega
      go_wp2
      go_ret
      refine ⟨ret_bool ?_, rfl⟩
      rw [HW.out]
      have h1 := HR.out
      rw [List.take_of_length_le (by rw [HS.out]; omega)] at h1
      simpa using h1

/-- a row of strings lies there -/
def Row (w : World) (B : Nat) (ad : Addr) (l : List (List Nat)) : Prop := ad.block < B ∧ ∀ j s, l[j]? = some s → Byn s ∧ w.cell? (ad.add j) = some (.string (strN s))

end Go.Proofs.YtoicncfpoklanaaDoor
