/- The trees that a text is read as, as trees of any numbers; Front. Conditions: the text and the tables lie in memory. The live question ahead of every statement of stage 5 answers true, and changes nothing that was there. Conditions: the tables lie as the program lays them. The programs that TypesScope makes, and what the check tells of them, for any name. No program. -/
import Derived.Test.YtfcpabhkconjmaaGreatDoorMM
import Derived.Test.YtfcpabhkconjmaaGreatDoorMG
namespace Go.Proofs.YtfcpabhkconjmaaGreatDoor
section
open Go.RowKit
set_option maxRecDepth 100000
set_option linter.unusedSimpArgs false
set_option linter.unusedVariables false

mutual
def toXe : Ex → Xe
  | .mk op num text kids place => .mk op num text (toXes kids) place
def toXes : List Ex → List Xe
  | [] => []
  | e :: l => toXe e :: toXes l
end
mutual
def toXs : St → Xs
  | .mk op text exprs body els place => .mk op text (toXes exprs) (toXss body) (toXss els) place
def toXss : List St → List Xs
  | [] => []
  | s :: l => toXs s :: toXss l
end
def toXf (f : Fu) : Xf := ⟨f.name, f.params.map fun p => (p.1, (p.2 : Int)), f.result, toXss f.body, f.place⟩
theorem toXes_map : ∀ l, toXes l = l.map toXe
  | [] => by simp [toXes]
  | e :: l => by simp [toXes, toXes_map l]
theorem toXss_map : ∀ l, toXss l = l.map toXs
  | [] => by simp [toXss]
  | e :: l => by simp [toXss, toXss_map l]
def bynB (s : List Nat) : Bool := s.all fun b => decide (b < 256)
theorem bynB_iff {s : List Nat} : bynB s = true ↔ Byn s := by simp [bynB, Byn]
mutual
/-- each text is one of bytes -/
def okE : Ex → Bool
  | .mk _ _ text kids _ => bynB text && okEs kids
def okEs : List Ex → Bool
  | [] => true
  | e :: l => okE e && okEs l
end
mutual
def okS : St → Bool
  | .mk _ text exprs body els _ => bynB text && okEs exprs && okSs body && okSs els
def okSs : List St → Bool
  | [] => true
  | e :: l => okS e && okSs l
end
def okF (f : Fu) : Bool := bynB f.name && f.params.all (fun p => bynB p.1) && okSs f.body
theorem okEs_mem : ∀ {l : List Ex}, okEs l = true → ∀ e ∈ l, okE e = true
  | [], _, e, h => by simp at h
  | x :: r, hl, e, h => by
    simp [okEs] at hl
    rcases List.mem_cons.1 h with rfl | h
    · exact hl.1
    · exact okEs_mem hl.2 e h
theorem okSs_mem : ∀ {l : List St}, okSs l = true → ∀ e ∈ l, okS e = true
  | [], _, e, h => by simp at h
  | x :: r, hl, e, h => by
    simp [okSs] at hl
    rcases List.mem_cons.1 h with rfl | h
    · exact hl.1
    · exact okSs_mem hl.2 e h
theorem exsC_toX : ∀ (l : List Ex) (ks : List Value), xesC (toXes l) ks = exsC l ks
  | [], _ => by simp [xesC, exsC, toXes]
  | _ :: _, [] => by simp [xesC, exsC, toXes]
  | .mk op num text kids place :: l, k :: ks => by
    have := exsC_toX l ks
    unfold xesC exsC at *
    simp only [toXes, List.zipWith_cons_cons, List.flatten_cons, this]
    simp [xeC, exC, toXe, Xe.op, Xe.num, Xe.text, Xe.place, Ex.op, Ex.num, Ex.text, Ex.place]
theorem toXes_len (l : List Ex) : (toXes l).length = l.length := by rw [toXes_map]; simp
theorem toXss_len (l : List St) : (toXss l).length = l.length := by rw [toXss_map]; simp
theorem ExsC.toX {w : World} {D : Nat → Prop} {l : List Ex} {V : Value} (h : ExsC w D l V) : okEs l = true → XesC w D (toXes l) V := by
  induction h with
  | mk l ks V hk h1 _ ih =>
    intro ho
    refine .mk _ ks V (by rw [toXes_len]; exact hk) (by rw [toXes_len, exsC_toX]; exact h1) ?_ ?_
    · intro e he
      rw [toXes_map] at he
      obtain ⟨x, hx, rfl⟩ := List.mem_map.1 he
      have := okEs_mem ho x hx
      obtain ⟨op, num, text, kids, place⟩ := x
      simp [okE] at this
      exact bynB_iff.1 this.1
    · intro i e k he hk'
      rw [toXes_map, List.getElem?_map] at he
      cases hx : l[i]? with
      | none => rw [hx] at he; cases he
      | some x =>
        rw [hx] at he
        injection he with he
        subst he
        have h3 := ih i x k hx hk'
        have := okEs_mem ho x (List.mem_of_getElem? hx)
        obtain ⟨op, num, text, kids, place⟩ := x
        simp [okE] at this
        exact h3 this.2
theorem stsC_toX : ∀ (l : List St) (ks : List Three), xssC (toXss l) ks = stsC l ks
  | [], _ => by simp [xssC, stsC, toXss]
  | _ :: _, [] => by simp [xssC, stsC, toXss]
  | .mk op text exprs body els place :: l, k :: ks => by
    have := stsC_toX l ks
    unfold xssC stsC at *
    simp only [toXss, List.zipWith_cons_cons, List.flatten_cons, this]
    simp [xsC, stC, toXs, Xs.op, Xs.text, Xs.place, St.op, St.text, St.place]
theorem StsC.toX {w : World} {D : Nat → Prop} {l : List St} {V : Value} (h : StsC w D l V) : okSs l = true → XssC w D (toXss l) V := by
  induction h with
  | mk l ks V hk h1 he _ _ ib iF =>
    intro ho
    refine .mk _ ks V (by rw [toXss_len]; exact hk) (by rw [toXss_len, stsC_toX]; exact h1) ?_ ?_ ?_ ?_
    · intro e he
      rw [toXss_map] at he
      obtain ⟨x, hx, rfl⟩ := List.mem_map.1 he
      have := okSs_mem ho x hx
      obtain ⟨op, text, exprs, body, els, place⟩ := x
      simp [okS] at this
      exact bynB_iff.1 this.1.1.1
    all_goals
      intro i e k hq hk'
      rw [toXss_map, List.getElem?_map] at hq
      cases hx : l[i]? with
      | none => rw [hx] at hq; cases hq
      | some x =>
        rw [hx] at hq
        injection hq with hq
        subst hq
        have h3 := ib i x k hx hk'
        have h4 := iF i x k hx hk'
        have h5 := he i x k hx hk'
        have := okSs_mem ho x (List.mem_of_getElem? hx)
        obtain ⟨op, text, exprs, body, els, place⟩ := x
        simp [okS] at this
        first | exact ExsC.toX h5 this.1.1.2 | exact h3 this.1.2 | exact h4 this.2
theorem pasC_toX (l : List (List Nat × Nat)) : xpsC (l.map fun p => (p.1, (p.2 : Int))) = pasC l := by
  simp [xpsC, pasC, List.flatMap_map, xpC]
  rfl
theorem fusC_toX : ∀ (l : List Fu) (ks : List Two), xfsC (l.map toXf) ks = fusC l ks
  | [], _ => by simp [xfsC, fusC]
  | _ :: _, [] => by simp [xfsC, fusC]
  | f :: l, k :: ks => by
    have := fusC_toX l ks
    unfold xfsC fusC at *
    simp only [List.map_cons, List.zipWith_cons_cons, List.flatten_cons, this]
    simp [xfC, fuC, toXf]
theorem FusC.toX {w : World} {D : Nat → Prop} {l : List Fu} {V : Value} (h : FusC w D l V) (ho : ∀ f ∈ l, okF f = true) : ∃ ks, XfsC w D (l.map toXf) ks V := by
  obtain ⟨ks, h1, h2, h3⟩ := h
  refine ⟨ks, by simpa using h1, by rw [fusC_toX]; simpa using h2, fun i f k hf hk => ?_⟩
  rw [List.getElem?_map] at hf
  cases hx : l[i]? with
  | none => rw [hx] at hf; cases hf
  | some x =>
    rw [hx] at hf
    injection hf with hf
    subst hf
    obtain ⟨g1, g2⟩ := h3 i x k hx hk
    have := ho x (List.mem_of_getElem? hx)
    simp only [okF, Bool.and_eq_true] at this
    refine ⟨bynB_iff.1 this.1.1, ?_, ?_, g2.toX this.2⟩
    · show RowF w D (x.params.map _).length (xpsC (x.params.map _)) k.p
      rw [pasC_toX]
      simpa using g1
    · intro p hp
      simp only [toXf] at hp
      obtain ⟨q, hq, rfl⟩ := List.mem_map.1 hp
      exact bynB_iff.1 (by have h9 := List.all_eq_true.1 this.1.2 q hq; exact h9)
theorem XfsC.more {w : World} {D D' : Nat → Prop} {l : List Xf} {ks : List Two} {V : Value} (h : XfsC w D l ks V) (g1 : ∀ k, D k → D' k) : XfsC w D' l ks V := by
  have hX : ∀ {l : List Xe} {V : Value}, XesC w D l V → XesC w D' l V := by
    intro l V h
    induction h with
    | mk l ks V hk h1 ht _ ih => exact .mk l ks V hk (h1.more g1) ht ih
  have hS : ∀ {l : List Xs} {V : Value}, XssC w D l V → XssC w D' l V := by
    intro l V h
    induction h with
    | mk l ks V hk h1 ht he _ _ ib iF => exact .mk l ks V hk (h1.more g1) ht (fun i s k a b => hX (he i s k a b)) ib iF
  exact ⟨h.1, h.2.1.more g1, fun i f k a b => ⟨(h.2.2 i f k a b).name, (h.2.2 i f k a b).params.more g1, (h.2.2 i f k a b).names, hS (h.2.2 i f k a b).body⟩⟩
/-- what Front tells of a text that is read so -/
structure FrontR where
  funcs : List Fu
  err : Int
  place : Int
def frontR (err : Nat) (fs : List Fu) (place : Nat) : FrontR :=
  if err = 0 then (if (checkM (fs.map toXf)).1 = 0 then ⟨fs, 0, 0⟩ else ⟨[], (checkM (fs.map toXf)).1, (checkM (fs.map toXf)).2⟩) else ⟨[], err, place⟩
def FrontO (w : World) (r : FrontR) (e : Ending) (w' : World) : Prop := ∃ V, e = .returned (.tuple #[.agg #[V], .int .i64 r.err, .int .i64 r.place]) ∧ FusC w' (Rng w.heap.size w'.heap.size) r.funcs V ∧ Below w.heap.size w w'
theorem ret_cell35 {fn : Func} {s T u v : Nat} {d : TypeDesc} {cs : List Value} (h : fn.results = #[.cell s T, .tmp u, .tmp v]) (hu : Tryz.prog.underlying T = some d) (hd : d.isRow = true) (hi : (Tryz.prog.info? T).map (·.size) = some cs.length) (tmps : Array Value) (w : World) (g : Nat) (hp : tmps.getD s undef = .pointer (some ⟨g, 0, none⟩)) (hr : w.rangeAt g 0 cs) :
    (results fn tmps).run Tryz.prog w = .ok (.tuple #[.agg cs.toArray, tmps.getD u undef, tmps.getD v undef]) w := by
  have hp' : tmps[s]?.getD undef = .pointer (some ⟨g, 0, none⟩) := by simpa using hp
  have h1 := run_loadVar_mid (P := Tryz.prog) w g 0 T cs _ hr hu hd hi
  simp [results, h, hp', asAddr, h1]
theorem info26f : (Tryz.prog.info? 26).map (·.size) = some 1 := by kernel_rfl
theorem fusC_slice5 {w : World} {D : Nat → Prop} {l : List Fu} {V : Value} (h : FusC w D l V) : ∃ A c, V = .slice A l.length c := by
  obtain ⟨ks, _, h2, _⟩ := h
  exact h2.slice5
set_option maxHeartbeats 1600000 in
theorem frontC (A : Option Addr) (l : List Nat) (n c : Nat) (w : World) (hn : l.length = n) (hc : n ≤ c) (hcm : c ≤ maxLen) (hl : Lies w w.heap.size A c (bts l)) (hy : Byn l) (ht : Tab w) (err place : Nat) (fs : List Fu) (hp : parsed l = ⟨err, fs, place⟩) (hok : ∀ f ∈ fs, okF f = true) :
    Calls Tryz.prog 14 #[.slice A n c] w (FrontO w (frontR err fs place)) := by
  have BA := below_alloc w (.cells #[.slice none 0 0] 26)
  have HB0 := Lib.hid BA
  have K := Lib.hid (parseZ A l n c (w.alloc (.cells #[.slice none 0 0] 26)) hn hc hcm ((hl.below BA).more (by simp)) hy (ht.below BA ht.1) err place fs hp err place rfl rfl)
  have HT2 : Hid ((w.alloc (.cells #[.slice none 0 0] 26)).there w.heap.size 0 1) := there_cells (cs := [_]) (heap_alloc_new w _) rfl
  have HL0 : Hid (w.heap.size + 1 ≤ (w.alloc (.cells #[.slice none 0 0] 26)).heap.size) := by show _ ≤ _; simp
  have HOk := Lib.hid hok
  clear hl hy ht hp BA hok
  go_enter Tryz.func14, Tryz.ntmps14
  go_wp2_with fail
  generalize w.alloc (.cells #[.slice none 0 0] 26) = w0 at *
  with_reducible refine K.out.mono ?_
  rintro e w1 ⟨V, rfl, hF, b1⟩
  obtain ⟨AV, cV, rfl⟩ := fusC_slice5 hF
  have T1 := Lib.hid (there_below5 HT2.out b1 (by have := HL0.out; omega))
  have HB1 := Lib.hid (bthen5 HB0.out b1 HB0.out.size)
  have HF := Lib.hid hF
  have HL1 : Hid (w.heap.size + 1 ≤ w1.heap.size) := Nat.le_trans HL0.out b1.size
  clear hF b1 K HT2
  by_cases he : err = 0
  · have q : ((err : Int) == 0) = true := by rw [he]; rfl
    have q2 : ((err : Int) = 0) := by omega
    have b2 := below_alloc w1 (.cells #[.slice AV fs.length cV] 26)
    obtain ⟨ks, hX⟩ := FusC.toX HF.out HOk.out
    have hX1 : XfsC w1 (Lo w1.heap.size) (fs.map toXf) ks (.slice AV fs.length cV) := hX.more fun k hk => hk.2
    have KC := checkC (fs.map toXf) ks AV cV _ w1.heap.size b2.size (by rw [List.length_map]; exact hX1.same (same_below b2 (Nat.le_refl _)))
    rw [List.length_map] at KC
    have HKC := Lib.hid KC
    have T2 := Lib.hid (there_below5 T1.out b2 (by have := HL1.out; omega))
    have HB2 := Lib.hid (bthen5 HB1.out b2 HB1.out.size)
    have HF2 : Hid (FusC (w1.alloc (.cells #[.slice AV fs.length cV] 26)) (Rng w0.heap.size w1.heap.size) fs (.slice AV fs.length cV)) := HF.out.same fun k hk => b2.block k hk.2
    have x0 : (w1.alloc (.cells #[.slice AV fs.length cV] 26)).cell? ⟨w1.heap.size, 0, none⟩ = some (.slice AV fs.length cV) := by rw [cell_of_row _ _ _ _ _ _ (heap_alloc_new w1 _)]; rfl
    have HS1 : Hid (w1.heap.size < (w1.alloc (.cells #[.slice AV fs.length cV] 26)).heap.size) := by show _ < _; simp
    have HR : Hid (frontR err fs place = if (checkM (fs.map toXf)).1 = 0 then ⟨fs, 0, 0⟩ else ⟨[], (checkM (fs.map toXf)).1, (checkM (fs.map toXf)).2⟩) := by show _ = _; unfold frontR; rw [if_pos he]
    clear hX hX1 KC b2 T1 HB1 he q2
    go_upto_region 2 with fail
    generalize w1.alloc (.cells #[.slice AV fs.length cV] 26) = w2 at *
    generalize checkM (fs.map toXf) = cm at *
    go_wp2_with fail
    with_reducible refine HKC.out.mono ?_
    rintro e w3 ⟨rfl, b3⟩
    have T3 := Lib.hid (there_below5 T2.out b3 (by have := HL1.out; have := HS1.out; omega))
    have y0 := cell_below x0 b3
    have HB3 := Lib.hid (bthen5 HB2.out b3 HB2.out.size)
    have HF3 : Hid (FusC w3 (Rng w0.heap.size w1.heap.size) fs (.slice AV fs.length cV)) := HF2.out.same fun k hk => b3.block k (by have := hk.2; have := HS1.out; omega)
    have HS3 : Hid (w1.heap.size < w3.heap.size) := Nat.lt_of_lt_of_le HS1.out b3.size
    clear x0 b3 HKC T2 HB2 HF2
    obtain ⟨c1, c2⟩ := cm
    simp only at *
    by_cases h1 : c1 = 0
    · have q3 : (c1 != 0) = false := by rw [h1]; rfl
      have HR2 : Hid (frontR err fs place = ⟨fs, 0, 0⟩) := HR.out.trans (if_pos h1)
      clear h1
      go_wp2_with (refine wpList_storeN info26f rfl (.tmp 2) (.tmp 26) rfl rfl w.heap.size rfl [_] rfl rfl T3.out (by simp [Value.oneCell']) ?_; intro w4 g1 g2 g3 g4 g5)
      refine bodyPost_ret (ret_cell35 (cs := [_]) Tryz.results14 Tryz.underlying26 rfl info26f _ _ w.heap.size rfl g1) rfl ?_
      refine ⟨.slice AV fs.length cV, by rw [HR2.out]; rfl, ?_, HB3.out.trans g3⟩
      rw [HR2.out]
      exact (HF3.out.same fun k hk => g4 k (by have := hk.1; have := HL0.out; omega)).more fun k hk => ⟨by have := hk.1; have := HL0.out; omega, by rw [g5]; have := hk.2; have := HS3.out; omega⟩
    · have q3 : (c1 != 0) = true := by rw [bne_iff_ne]; exact h1
      have HR2 : Hid (frontR err fs place = ⟨[], c1, c2⟩) := HR.out.trans (if_neg h1)
      clear h1
      go_wp2_with (refine wpList_storeN info26f rfl (.tmp 2) (.tmp 23) rfl rfl w.heap.size rfl [_] rfl rfl T3.out (by simp [Value.oneCell']) ?_; intro w4 g1 g2 g3 g4 g5)
      refine bodyPost_ret (ret_cell35 (cs := [_]) Tryz.results14 Tryz.underlying26 rfl info26f _ _ w.heap.size rfl g1) rfl ?_
      refine ⟨.slice none 0 0, by rw [HR2.out]; rfl, ?_, HB3.out.trans g3⟩
      rw [HR2.out]
      exact FusC.nothing _ _
  · have q : ((err : Int) == 0) = false := by rw [beq_eq_false_iff_ne]; omega
    have q3 : ((err : Int) != 0) = true := by rw [bne_iff_ne]; omega
    have HR2 : Hid (frontR err fs place = ⟨[], err, place⟩) := by show _ = _; unfold frontR; rw [if_neg he]
    have b2 := below_alloc w1 (.cells #[.slice AV fs.length cV] 26)
    have T2 := Lib.hid (there_below5 T1.out b2 (by have := HL1.out; omega))
    have HB2 := Lib.hid (bthen5 HB1.out b2 HB1.out.size)
    clear b2 T1 HB1 he
    go_upto_region 2 with fail
    generalize w1.alloc (.cells #[.slice AV fs.length cV] 26) = w2 at *
    go_wp2_with (refine wpList_storeN info26f rfl (.tmp 2) (.tmp 23) rfl rfl w.heap.size rfl [_] rfl rfl T2.out (by simp [Value.oneCell']) ?_; intro w4 g1 g2 g3 g4 g5)
    refine bodyPost_ret (ret_cell35 (cs := [_]) Tryz.results14 Tryz.underlying26 rfl info26f _ _ w.heap.size rfl g1) rfl ?_
    refine ⟨.slice none 0 0, by rw [HR2.out]; rfl, ?_, HB2.out.trans g3⟩
    rw [HR2.out]
    exact FusC.nothing _ _
end

section
open Go.RowKit
set_option maxRecDepth 100000
set_option linter.unusedSimpArgs false
set_option linter.unusedVariables false

def headG : Fu := ⟨[102], [([97], 1)], 1, [.mk 5 [] [.mk 6 0 [43] [.mk 4 0 [97] [] 27, .mk 1 1 [] [] 31] 29] [] [] 20], 0⟩
def headH : Fu := ⟨[102], [], 1, [], 0⟩
theorem headG1 : parsed [102, 110, 32, 102, 40, 97, 58, 32, 105, 110, 116, 41, 58, 32, 105, 110, 116, 32, 123, 32, 114, 101, 116, 117, 114, 110, 32, 97, 32, 43, 32, 49, 59, 32, 125] = ⟨0, [headG], 0⟩ := by kernel_rfl
theorem headG2 : parsed [102, 110, 32, 102, 40, 41, 58, 32, 105, 110, 116, 32, 123, 32, 125] = ⟨0, [headH], 0⟩ := by kernel_rfl
theorem headG3 : okF headG = true := by kernel_rfl
theorem headG4 : okF headH = true := by kernel_rfl
theorem headG5 : frontR 0 [headG] 0 = ⟨[headG], 0, 0⟩ := by kernel_rfl
theorem headG6 : frontR 0 [headH] 0 = ⟨[], 54, 0⟩ := by kernel_rfl
theorem headG7 : checkM [] = (0, 0) := by kernel_rfl
theorem hbynG1 : Byn [102, 110, 32, 102, 40, 97, 58, 32, 105, 110, 116, 41, 58, 32, 105, 110, 116, 32, 123, 32, 114, 101, 116, 117, 114, 110, 32, 97, 32, 43, 32, 49, 59, 32, 125] := by unfold Byn; decide
theorem hbynG2 : Byn [102, 110, 32, 102, 40, 41, 58, 32, 105, 110, 116, 32, 123, 32, 125] := by unfold Byn; decide
theorem XfsC.none (w : World) (D : Nat → Prop) : XfsC w D [] [] (.slice none 0 0) := ⟨rfl, RowF.nothing _ _, fun i e k h => by simp at h⟩
set_option maxHeartbeats 1600000 in
theorem head5_true (w : World) (ht : Tab w) : Calls Tryz.prog 13 #[] w fun e w' => e = .returned (.bool true) ∧ Below w.heap.size w w' := by
  have hm := run_marked w #[.int .u8 102, .int .u8 110, .int .u8 32, .int .u8 102, .int .u8 40, .int .u8 97, .int .u8 58, .int .u8 32, .int .u8 105, .int .u8 110, .int .u8 116, .int .u8 41, .int .u8 58, .int .u8 32, .int .u8 105, .int .u8 110, .int .u8 116, .int .u8 32, .int .u8 123, .int .u8 32, .int .u8 114, .int .u8 101, .int .u8 116, .int .u8 117, .int .u8 114, .int .u8 110, .int .u8 32, .int .u8 97, .int .u8 32, .int .u8 43, .int .u8 32, .int .u8 49, .int .u8 59, .int .u8 32, .int .u8 125] 35 35
  have B0 := Lib.hid (below_alloc w (.cells #[.int .u8 102, .int .u8 110, .int .u8 32, .int .u8 102, .int .u8 40, .int .u8 97, .int .u8 58, .int .u8 32, .int .u8 105, .int .u8 110, .int .u8 116, .int .u8 41, .int .u8 58, .int .u8 32, .int .u8 105, .int .u8 110, .int .u8 116, .int .u8 32, .int .u8 123, .int .u8 32, .int .u8 114, .int .u8 101, .int .u8 116, .int .u8 117, .int .u8 114, .int .u8 110, .int .u8 32, .int .u8 97, .int .u8 32, .int .u8 43, .int .u8 32, .int .u8 49, .int .u8 59, .int .u8 32, .int .u8 125] 5 (35, 36)))
  have L0 : Lies (w.alloc (.cells #[.int .u8 102, .int .u8 110, .int .u8 32, .int .u8 102, .int .u8 40, .int .u8 97, .int .u8 58, .int .u8 32, .int .u8 105, .int .u8 110, .int .u8 116, .int .u8 41, .int .u8 58, .int .u8 32, .int .u8 105, .int .u8 110, .int .u8 116, .int .u8 32, .int .u8 123, .int .u8 32, .int .u8 114, .int .u8 101, .int .u8 116, .int .u8 117, .int .u8 114, .int .u8 110, .int .u8 32, .int .u8 97, .int .u8 32, .int .u8 43, .int .u8 32, .int .u8 49, .int .u8 59, .int .u8 32, .int .u8 125] 5 (35, 36))) (w.heap.size + 1) (some ⟨w.heap.size, 0, none⟩) 35 (bts [102, 110, 32, 102, 40, 97, 58, 32, 105, 110, 116, 41, 58, 32, 105, 110, 116, 32, 123, 32, 114, 101, 116, 117, 114, 110, 32, 97, 32, 43, 32, 49, 59, 32, 125]) := lies_new w [102, 110, 32, 102, 40, 97, 58, 32, 105, 110, 116, 41, 58, 32, 105, 110, 116, 32, 123, 32, 114, 101, 116, 117, 114, 110, 32, 97, 32, 43, 32, 49, 59, 32, 125] 35 5 (35, 36)
  have HT := Lib.hid ht
  have hpos := ht.1
  clear ht
  have K := Lib.hid (frontC (some ⟨w.heap.size, 0, none⟩) [102, 110, 32, 102, 40, 97, 58, 32, 105, 110, 116, 41, 58, 32, 105, 110, 116, 32, 123, 32, 114, 101, 116, 117, 114, 110, 32, 97, 32, 43, 32, 49, 59, 32, 125] 35 35 (w.alloc (.cells #[.int .u8 102, .int .u8 110, .int .u8 32, .int .u8 102, .int .u8 40, .int .u8 97, .int .u8 58, .int .u8 32, .int .u8 105, .int .u8 110, .int .u8 116, .int .u8 41, .int .u8 58, .int .u8 32, .int .u8 105, .int .u8 110, .int .u8 116, .int .u8 32, .int .u8 123, .int .u8 32, .int .u8 114, .int .u8 101, .int .u8 116, .int .u8 117, .int .u8 114, .int .u8 110, .int .u8 32, .int .u8 97, .int .u8 32, .int .u8 43, .int .u8 32, .int .u8 49, .int .u8 59, .int .u8 32, .int .u8 125] 5 (35, 36))) rfl (by omega) (by unfold maxLen; omega) (L0.more (by simp)) hbynG1 (HT.out.below B0.out hpos) 0 0 [headG] headG1 (by intro f hf; rw [List.mem_singleton.1 hf]; exact headG3))
  rw [headG5] at K
  clear L0
  go_enter Tryz.func13, Tryz.ntmps13
  go_wp2_with fail
  clear hm
  generalize w.alloc (.cells #[.int .u8 102, .int .u8 110, .int .u8 32, .int .u8 102, .int .u8 40, .int .u8 97, .int .u8 58, .int .u8 32, .int .u8 105, .int .u8 110, .int .u8 116, .int .u8 41, .int .u8 58, .int .u8 32, .int .u8 105, .int .u8 110, .int .u8 116, .int .u8 32, .int .u8 123, .int .u8 32, .int .u8 114, .int .u8 101, .int .u8 116, .int .u8 117, .int .u8 114, .int .u8 110, .int .u8 32, .int .u8 97, .int .u8 32, .int .u8 43, .int .u8 32, .int .u8 49, .int .u8 59, .int .u8 32, .int .u8 125] 5 (35, 36)) = w0 at *
  with_reducible refine K.out.mono ?_
  clear K
  rintro e w1 ⟨V, rfl, hF, b1⟩
  obtain ⟨AV, cV, rfl⟩ := fusC_slice5 hF
  clear hF
  have HB1 := Lib.hid (bthen5 B0.out b1 B0.out.size)
  have x0 : (w1.alloc (.cells #[.slice AV 1 cV] 26)).cell? ⟨w1.heap.size, 0, none⟩ = some (.slice AV 1 cV) := by rw [cell_of_row _ _ _ _ _ _ (heap_alloc_new w1 _)]; rfl
  have c1 := below_alloc w1 (.cells #[.slice AV 1 cV] 26)
  have HB2 := Lib.hid (bthen5 HB1.out c1 HB1.out.size)
  have X0 := Lib.hid x0
  clear b1 c1 x0
  go_upto_region 2 with fail
  generalize w1.alloc (.cells #[.slice AV 1 cV] 26) = w2 at *
  have hm := run_marked w2 #[.int .u8 102, .int .u8 110, .int .u8 32, .int .u8 102, .int .u8 40, .int .u8 41, .int .u8 58, .int .u8 32, .int .u8 105, .int .u8 110, .int .u8 116, .int .u8 32, .int .u8 123, .int .u8 32, .int .u8 125] 15 15
  have c2 := below_alloc w2 (.cells #[.int .u8 102, .int .u8 110, .int .u8 32, .int .u8 102, .int .u8 40, .int .u8 41, .int .u8 58, .int .u8 32, .int .u8 105, .int .u8 110, .int .u8 116, .int .u8 32, .int .u8 123, .int .u8 32, .int .u8 125] 5 (15, 16))
  have L2 : Lies (w2.alloc (.cells #[.int .u8 102, .int .u8 110, .int .u8 32, .int .u8 102, .int .u8 40, .int .u8 41, .int .u8 58, .int .u8 32, .int .u8 105, .int .u8 110, .int .u8 116, .int .u8 32, .int .u8 123, .int .u8 32, .int .u8 125] 5 (15, 16))) (w2.heap.size + 1) (some ⟨w2.heap.size, 0, none⟩) 15 (bts [102, 110, 32, 102, 40, 41, 58, 32, 105, 110, 116, 32, 123, 32, 125]) := lies_new w2 [102, 110, 32, 102, 40, 41, 58, 32, 105, 110, 116, 32, 123, 32, 125] 15 5 (15, 16)
  have HB3 := Lib.hid (bthen5 HB2.out c2 HB2.out.size)
  have K := Lib.hid (frontC (some ⟨w2.heap.size, 0, none⟩) [102, 110, 32, 102, 40, 41, 58, 32, 105, 110, 116, 32, 123, 32, 125] 15 15 (w2.alloc (.cells #[.int .u8 102, .int .u8 110, .int .u8 32, .int .u8 102, .int .u8 40, .int .u8 41, .int .u8 58, .int .u8 32, .int .u8 105, .int .u8 110, .int .u8 116, .int .u8 32, .int .u8 123, .int .u8 32, .int .u8 125] 5 (15, 16))) rfl (by omega) (by unfold maxLen; omega) (L2.more (by simp)) hbynG2 (HT.out.below HB3.out hpos) 0 0 [headH] headG2 (by intro f hf; rw [List.mem_singleton.1 hf]; exact headG4))
  rw [headG6] at K
  have X1 := Lib.hid (cell_below X0.out c2)
  clear L2 c2 X0
  go_wp2_with fail
  clear hm
  generalize w2.alloc (.cells #[.int .u8 102, .int .u8 110, .int .u8 32, .int .u8 102, .int .u8 40, .int .u8 41, .int .u8 58, .int .u8 32, .int .u8 105, .int .u8 110, .int .u8 116, .int .u8 32, .int .u8 123, .int .u8 32, .int .u8 125] 5 (15, 16)) = w3 at *
  with_reducible refine K.out.mono ?_
  clear K
  rintro e w4 ⟨V2, rfl, hF2, b4⟩
  obtain ⟨A2, c2, rfl⟩ := fusC_slice5 hF2
  clear hF2
  have HB4 := Lib.hid (bthen5 HB3.out b4 HB3.out.size)
  have c4 := below_alloc w4 (.cells #[.slice A2 0 c2] 26)
  have X2 := Lib.hid (cell_below (cell_below X1.out b4) c4)
  have HB5 := Lib.hid (bthen5 HB4.out c4 HB4.out.size)
  clear b4 c4 X1
  go_upto_region 3 with fail
  generalize w4.alloc (.cells #[.slice A2 0 c2] 26) = w5 at *
  have K := Lib.hid (checkC [] [] none 0 w5 w5.heap.size (Nat.le_refl _) (XfsC.none _ _))
  rw [headG7, List.length_nil] at K
  go_wp2_with fail
  with_reducible refine K.out.mono ?_
  clear K
  rintro e w6 ⟨rfl, b6⟩
  have X3 := cell_below X2.out b6
  have HB6 := Lib.hid (bthen5 HB5.out b6 HB5.out.size)
  clear b6 X2
  go_wp2
  go_ret
  exact ⟨rfl, HB6.out⟩
end

section
open Go.RowKit
set_option maxRecDepth 100000
set_option linter.unusedSimpArgs false
set_option linter.unusedVariables false

def oneX : Xe := .mk 1 1 [] [] 0
def yesX : Xe := .mk 2 0 [] [] 0
def letX (s : List Nat) : Xs := .mk 1 s [oneX] [] [] 0
def ifX (l : List Xs) : Xs := .mk 3 [] [yesX] l [] 0
def bodyX (s : List Nat) (b : Bool) : List Xs := if b then [letX s, ifX [letX s]] else [letX s]
def setX (s : List Nat) : Xs := .mk 2 s [oneX] [] [] 9
def funX (l : List Xs) : Xf := ⟨[], [], 0, l, 0⟩
theorem dclA (s : List Nat) (b : Bool) : ¬ wrap64 (0 + dcl [ifX (bodyX s b), ifX (bodyX s b)] 0) > 64 := by cases b <;> exact of_decide_eq_true (by kernel_rfl)
theorem dclB (s : List Nat) (b : Bool) : ¬ wrap64 (0 + dcl [ifX (bodyX s b), setX s] 0) > 64 := by cases b <;> exact of_decide_eq_true (by kernel_rfl)
theorem dclC (s : List Nat) (b : Bool) : ¬ wrap64 (0 + dcl [letX s, setX s, ifX (bodyX s b)] 0) > 64 := by cases b <;> exact of_decide_eq_true (by kernel_rfl)
theorem funX_of (l : List Xs) (T : Tab5) (h : ¬ wrap64 (0 + dcl l 0) > 64) : funM T (funX l) = (blockM T 0 l []).1 := by
  unfold funM
  have e : paramsR (funX l) = (none, []) := rfl
  rw [e]
  have h' : ¬ (((funX l).params.length : Int) > 16 ∨ wrap64 (((funX l).params.length : Int) + dcl (funX l).body 0) > 64) := by
    rintro (g | g)
    · have : ((funX l).params.length : Int) = 0 := rfl
      omega
    · exact h g
  have h2 : ¬ ((funX l).params.length > 16 ∨ wrap64 (((funX l).params.length : Int) + dcl (funX l).body 0) > 64) := by
    rintro (g | g)
    · have : (funX l).params.length = 0 := rfl
      omega
    · exact h g
  have k : knownR (funX l).result = true := rfl
  simp only [k, h2, if_false]
  show (match (blockM T 0 l []).1 with | some e => some e | none => if (0 : Int) ≠ 0 ∧ _ then _ else none) = _
  cases (blockM T 0 l []).1 <;> simp
theorem checkX (l : List Xs) (h : ¬ wrap64 (0 + dcl l 0) > 64) : checkM [funX l] = (blockM (tabOf [funX l]) 0 l []).1.getD (0, 0) := by
  unfold checkM progM
  rw [if_neg (by simp)]
  have e : (runL twiceR [] [funX l]).1 = none := rfl
  rw [e]
  simp only [runL]
  rw [funX_of l _ h]
  cases (blockM (tabOf [funX l]) 0 l []).1 <;> rfl
theorem scopeA (s : List Nat) (b : Bool) : checkM [funX [ifX (bodyX s b), ifX (bodyX s b)]] = if b then (53, 0) else (0, 0) := by
  rw [checkX _ (dclA s b)]
  cases b <;> simp [bodyX, blockM, stmM, ifX, letX, partsR, kidsM, exprM, nodeR, hasKidsR, yesX, oneX, allR, operandR, letR, declareR, seek, Xe.place]
theorem scopeB (s : List Nat) (b : Bool) : checkM [funX [ifX (bodyX s b), setX s]] = if b then (53, 0) else (52, 9) := by
  rw [checkX _ (dclB s b)]
  cases b <;> simp [bodyX, blockM, stmM, ifX, letX, setX, partsR, kidsM, exprM, nodeR, hasKidsR, yesX, oneX, allR, operandR, letR, declareR, seek, setR, Xe.place]
theorem scopeC (s : List Nat) (b : Bool) : checkM [funX [letX s, setX s, ifX (bodyX s b)]] = (53, 0) := by
  rw [checkX _ (dclC s b)]
  cases b <;> simp [bodyX, blockM, stmM, ifX, letX, setX, partsR, kidsM, exprM, nodeR, hasKidsR, yesX, oneX, allR, operandR, letR, declareR, seek, setR, Xe.place]
end
end Go.Proofs.YtfcpabhkconjmaaGreatDoor
