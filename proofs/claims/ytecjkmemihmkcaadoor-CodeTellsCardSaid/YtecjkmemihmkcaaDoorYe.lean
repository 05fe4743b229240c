/- What the document's Same of modules returns. Conditions: none beyond what modules are. -/
import Derived.Test.YtecjkmemihmkcaaDoorYd
import Derived.Test.YtecjkmemihmkcaaDoorWz
namespace Go.Proofs.YtecjkmemihmkcaaDoor
set_option maxRecDepth 100000
open Go.RowKit
set_option linter.unusedSimpArgs false
set_option linter.unusedVariables false

def codeV (x : Cd) (AP : Option Addr) (cP : Nat) (AI : Option Addr) (cI : Nat) : List Value := [.string (strOfNums x.name), .slice AP x.params.length cP, .int .i64 x.result, .int .i64 x.slots, .slice AI x.instrs.length cI]

set_option maxHeartbeats 3200000 in
theorem sameMods (m o : Md) (V V' : Value) (w : World) (h : ModV w w.heap.size m V) (h' : ModV w w.heap.size o V') (hy1 : ∀ c ∈ m.codes, Byt c.name) (hy2 : ∀ c ∈ o.codes, Byt c.name) (ht1 : ∀ s ∈ m.texts, Byt s) (ht2 : ∀ s ∈ o.texts, Byt s) (r : Bool) (hr : r = true ↔ m = o) :
    Calls Tryd.prog 16 #[V, V'] w (Says r w) := by
  obtain ⟨C, T, rfl, hC, hT⟩ := h
  obtain ⟨C', T', rfl, hC', hT'⟩ := h'
  obtain ⟨AC, cC, vs, rfl, p1, p2, p3, p4⟩ := hC
  obtain ⟨AT, cT, rfl, q1, q2, q3⟩ := hT
  obtain ⟨AC', cC', vs', rfl, p1', p2', p3', p4'⟩ := hC'
  obtain ⟨AT', cT', rfl, q1', q2', q3'⟩ := hT'
  have HL := Lib.hid p3
  have HS0 := Lib.hid p4
  have HL' := Lib.hid p3'
  have HS0' := Lib.hid p4'
  have HY1 := Lib.hid hy1
  have HY2 := Lib.hid hy2
  have HNO : Hid (m ≠ o → r = false) := fun h => by
    cases hq : r with
    | true => exact absurd (hr.1 hq) h
    | false => rfl
  have HNC : Hid (∀ (k : Nat) x y, m.codes[k]? = some x → o.codes[k]? = some y → x ≠ y → r = false) := fun k x y h1 h2 h3 => HNO.out (fun e => by
    subst e
    rw [h1] at h2
    injection h2 with h2
    exact h3 h2)
  have HRT := Lib.hid hr
  have X0 := Lib.hid (Bx.start w (.slice AC m.codes.length cC) (.slice AT m.texts.length cT))
  have Y0 : Hid (((w.alloc (.cells #[.slice AC m.codes.length cC, .slice AT m.texts.length cT] 25)).alloc (.cells #[.slice AC' o.codes.length cC', .slice AT' o.texts.length cT'] 25)).heap[w.heap.size + 1]? = some (.cells #[.slice AC' o.codes.length cC', .slice AT' o.texts.length cT'] 25)) := Lib.hid (by
    have := heap_alloc_new (w.alloc (.cells #[.slice AC m.codes.length cC, .slice AT m.texts.length cT] 25)) (.cells #[.slice AC' o.codes.length cC', .slice AT' o.texts.length cT'] 25)
    rw [World.size_alloc] at this
    exact this)
  have X1 := Lib.hid (X0.out.on ((Below.refl _ _).alloc (Nat.le_refl _) (.cells #[.slice AC' o.codes.length cC', .slice AT' o.texts.length cT'] 25)))
  have K := fun b hb => sameRows AT AT' cT cT' m.texts o.texts ((w.alloc (.cells #[.slice AC m.codes.length cC, .slice AT m.texts.length cT] 25)).alloc (.cells #[.slice AC' o.codes.length cC', .slice AT' o.texts.length cT'] 25)) q1 q2 q1' q2' ((q3.below X1.out.low).more X1.out.low.size) ((q3'.below X1.out.low).more X1.out.low.size) ht1 ht2 b hb
  have K2 := Lib.hid (K (decide (m.texts = o.texts)) (by simp))
  clear p3 p4 q3 p3' p4' q3' hy1 hy2 ht1 ht2 hr X0 K
  unfold maxLen at p2 q2 p2' q2'
  by_cases hlen : m.codes.length = o.codes.length
  · have HLEN := Lib.hid hlen
    rw [← hlen] at p1' X1 Y0 K2 ⊢
    clear hlen
    go_enter Tryd.func16, Tryd.ntmps16
    go_wp2_with fail
    generalize (w.alloc (.cells #[.slice AC m.codes.length cC, .slice AT m.texts.length cT] 25)).alloc (.cells #[.slice AC' m.codes.length cC', .slice AT' o.texts.length cT'] 25) = wa at *
    refine K2.out.mono ?_
    clear K2
    rintro e w1 ⟨rfl, hb1⟩
    have X2 := Lib.hid (X1.out.on hb1)
    have Y2 : Hid (w1.heap[w.heap.size + 1]? = some (.cells #[.slice AC' m.codes.length cC', .slice AT' o.texts.length cT'] 25)) := Lib.hid (by rw [hb1.block _ (lt_of_some Y0.out)]; exact Y0.out)
    clear hb1 X1 Y0
    by_cases hte : m.texts = o.texts
    · have HTE := Lib.hid hte
      rw [decide_eq_true hte]
      clear hte
      obtain ⟨c0, _⟩ := X2.out.cells
      go_wp2_with fail
      go_loopw [5] (fun i wr => ∃ k : Nat, i = .int .i64 k ∧ k ≤ m.codes.length ∧ Hid (∀ (j : Nat) a b, j < k → m.codes[j]? = some a → o.codes[j]? = some b → a = b) ∧ Bx w (.slice AC m.codes.length cC) (.slice AT m.texts.length cT) wr ∧ wr.heap[w.heap.size + 1]? = some (.cells #[.slice AC' m.codes.length cC', .slice AT' o.texts.length cT'] 25)) (fun i _ => m.codes.length - (intOf i).toNat)
      case atStart => exact ⟨0, rfl, Nat.zero_le _, Lib.hid (fun j a b h => by omega), X2.out, Y2.out⟩
      case round =>
        clear c0 X2 Y2
        obtain ⟨k, rfl, hk, HK, hx2, hy2⟩ := hrel
        have X2 := Lib.hid hx2
        have Y2 := Lib.hid hy2
        obtain ⟨c0, _⟩ := hx2.cells
        have f0 : wr.cell? ⟨w.heap.size + 1, 0, none⟩ = some (.slice AC' m.codes.length cC') := by rw [cell_of_row _ _ _ _ _ _ hy2]; rfl
        clear hx2 hy2
        by_cases hkl : k < m.codes.length
        · obtain ⟨x, hx⟩ : ∃ x, m.codes[k]? = some x := ⟨_, List.getElem?_eq_getElem hkl⟩
          obtain ⟨y, hy⟩ : ∃ y, o.codes[k]? = some y := ⟨_, List.getElem?_eq_getElem (by have := HLEN.out; omega)⟩
          obtain ⟨P, I, hP, hI, hget⟩ := HS0.out.get hx
          obtain ⟨AP, cP, rfl, r1, r2, r3⟩ := hP
          obtain ⟨AI, cI, rfl, s1, s2, s3⟩ := hI
          obtain ⟨P', I', hP', hI', hget'⟩ := HS0'.out.get hy
          obtain ⟨AP', cP', rfl, r1', r2', r3'⟩ := hP'
          obtain ⟨AI', cI', rfl, s1', s2', s3'⟩ := hI'
          obtain ⟨b1, o1, rfl, hB1, hcc1⟩ := lies_flat HL.out (hget 0 _ rfl)
          obtain ⟨b2, o2, rfl, hB2, hcc2⟩ := lies_flat HL'.out (hget' 0 _ rfl)
          have HRX : Hid (wr.rangeAt b1 (o1 + k * 5) (coC x (.slice AP x.params.length cP) (.slice AI x.instrs.length cI))) := fun j u hu => by
            show wr.cell? ⟨b1, o1 + k * 5 + j, none⟩ = some u
            rw [Nat.add_assoc, X2.out.low.cell hB1]
            exact hcc1 _ _ (hget j u hu)
          have HRY : Hid ((wr.alloc (.cells #[.string (strOfNums x.name), .slice AP x.params.length cP, .int .i64 x.result, .int .i64 x.slots, .slice AI x.instrs.length cI] 46)).rangeAt b2 (o2 + k * 5) (coC y (.slice AP' y.params.length cP') (.slice AI' y.instrs.length cI'))) := fun j u hu => by
            show World.cell? _ ⟨b2, o2 + k * 5 + j, none⟩ = some u
            have hbx : Below w.heap.size w (wr.alloc (.cells #[.string (strOfNums x.name), .slice AP x.params.length cP, .int .i64 x.result, .int .i64 x.slots, .slice AI x.instrs.length cI] 46)) := X2.out.low.alloc X2.out.low.size _
            rw [Nat.add_assoc, hbx.cell hB2]
            exact hcc2 _ _ (hget' j u hu)
          have HX := Lib.hid hx
          have HY := Lib.hid hy
          have HLP := Lib.hid r3
          have HLI := Lib.hid s3
          have HLP' := Lib.hid r3'
          have HLI' := Lib.hid s3'
          have he := str_eq (HY1.out x (List.mem_of_getElem? hx)) (HY2.out y (List.mem_of_getElem? hy))
          clear r3 s3 r3' s3' hget hget' hx hy hcc1 hcc2
          unfold maxLen at r2 s2 r2' s2'
          have e5 := (World.cell?_of_block (w := wr) (a := ⟨w.heap.size + 1, 0, none⟩) (Below.heap_alloc _ (.cells #[.string (strOfNums x.name), .slice AP x.params.length cP, .int .i64 x.result, .int .i64 x.slots, .slice AI x.instrs.length cI] 46) _ (lt_of_some Y2.out))).trans f0
          have gX : ((wr.alloc (.cells #[.string (strOfNums x.name), .slice AP x.params.length cP, .int .i64 x.result, .int .i64 x.slots, .slice AI x.instrs.length cI] 46)).alloc (.cells #[.string (strOfNums y.name), .slice AP' y.params.length cP', .int .i64 y.result, .int .i64 y.slots, .slice AI' y.instrs.length cI'] 46)).heap[wr.heap.size]? = some (.cells #[.string (strOfNums x.name), .slice AP x.params.length cP, .int .i64 x.result, .int .i64 x.slots, .slice AI x.instrs.length cI] 46 (0, 0)) := (Below.heap_alloc (wr.alloc (.cells #[.string (strOfNums x.name), .slice AP x.params.length cP, .int .i64 x.result, .int .i64 x.slots, .slice AI x.instrs.length cI] 46)) _ _ (by rw [World.size_alloc]; exact Nat.lt_succ_self _)).trans (heap_alloc_new wr _)
          have gY : ((wr.alloc (.cells #[.string (strOfNums x.name), .slice AP x.params.length cP, .int .i64 x.result, .int .i64 x.slots, .slice AI x.instrs.length cI] 46)).alloc (.cells #[.string (strOfNums y.name), .slice AP' y.params.length cP', .int .i64 y.result, .int .i64 y.slots, .slice AI' y.instrs.length cI'] 46)).heap[wr.heap.size + 1]? = some (.cells #[.string (strOfNums y.name), .slice AP' y.params.length cP', .int .i64 y.result, .int .i64 y.slots, .slice AI' y.instrs.length cI'] 46 (0, 0)) := by
            have := heap_alloc_new (wr.alloc (.cells #[.string (strOfNums x.name), .slice AP x.params.length cP, .int .i64 x.result, .int .i64 x.slots, .slice AI x.instrs.length cI] 46)) (.cells #[.string (strOfNums y.name), .slice AP' y.params.length cP', .int .i64 y.result, .int .i64 y.slots, .slice AI' y.instrs.length cI'] 46)
            rw [World.size_alloc] at this
            exact this
          have cx0 : ((wr.alloc (.cells #[.string (strOfNums x.name), .slice AP x.params.length cP, .int .i64 x.result, .int .i64 x.slots, .slice AI x.instrs.length cI] 46)).alloc (.cells #[.string (strOfNums y.name), .slice AP' y.params.length cP', .int .i64 y.result, .int .i64 y.slots, .slice AI' y.instrs.length cI'] 46)).cell? ⟨wr.heap.size, 0, none⟩ = some (.string (strOfNums x.name)) := by rw [cell_of_row _ _ _ _ _ _ gX]; rfl
          have cy0 : ((wr.alloc (.cells #[.string (strOfNums x.name), .slice AP x.params.length cP, .int .i64 x.result, .int .i64 x.slots, .slice AI x.instrs.length cI] 46)).alloc (.cells #[.string (strOfNums y.name), .slice AP' y.params.length cP', .int .i64 y.result, .int .i64 y.slots, .slice AI' y.instrs.length cI'] 46)).cell? ⟨wr.heap.size + 1, 0, none⟩ = some (.string (strOfNums y.name)) := by rw [cell_of_row _ _ _ _ _ _ gY]; rfl
          have cx1 : ((wr.alloc (.cells #[.string (strOfNums x.name), .slice AP x.params.length cP, .int .i64 x.result, .int .i64 x.slots, .slice AI x.instrs.length cI] 46)).alloc (.cells #[.string (strOfNums y.name), .slice AP' y.params.length cP', .int .i64 y.result, .int .i64 y.slots, .slice AI' y.instrs.length cI'] 46)).cell? ⟨wr.heap.size, 1, none⟩ = some (.slice AP x.params.length cP) := by rw [cell_of_row _ _ _ _ _ _ gX]; rfl
          have cy1 : ((wr.alloc (.cells #[.string (strOfNums x.name), .slice AP x.params.length cP, .int .i64 x.result, .int .i64 x.slots, .slice AI x.instrs.length cI] 46)).alloc (.cells #[.string (strOfNums y.name), .slice AP' y.params.length cP', .int .i64 y.result, .int .i64 y.slots, .slice AI' y.instrs.length cI'] 46)).cell? ⟨wr.heap.size + 1, 1, none⟩ = some (.slice AP' y.params.length cP') := by rw [cell_of_row _ _ _ _ _ _ gY]; rfl
          have cx2 : ((wr.alloc (.cells #[.string (strOfNums x.name), .slice AP x.params.length cP, .int .i64 x.result, .int .i64 x.slots, .slice AI x.instrs.length cI] 46)).alloc (.cells #[.string (strOfNums y.name), .slice AP' y.params.length cP', .int .i64 y.result, .int .i64 y.slots, .slice AI' y.instrs.length cI'] 46)).cell? ⟨wr.heap.size, 2, none⟩ = some (.int .i64 x.result) := by rw [cell_of_row _ _ _ _ _ _ gX]; rfl
          have cy2 : ((wr.alloc (.cells #[.string (strOfNums x.name), .slice AP x.params.length cP, .int .i64 x.result, .int .i64 x.slots, .slice AI x.instrs.length cI] 46)).alloc (.cells #[.string (strOfNums y.name), .slice AP' y.params.length cP', .int .i64 y.result, .int .i64 y.slots, .slice AI' y.instrs.length cI'] 46)).cell? ⟨wr.heap.size + 1, 2, none⟩ = some (.int .i64 y.result) := by rw [cell_of_row _ _ _ _ _ _ gY]; rfl
          have cx3 : ((wr.alloc (.cells #[.string (strOfNums x.name), .slice AP x.params.length cP, .int .i64 x.result, .int .i64 x.slots, .slice AI x.instrs.length cI] 46)).alloc (.cells #[.string (strOfNums y.name), .slice AP' y.params.length cP', .int .i64 y.result, .int .i64 y.slots, .slice AI' y.instrs.length cI'] 46)).cell? ⟨wr.heap.size, 3, none⟩ = some (.int .i64 x.slots) := by rw [cell_of_row _ _ _ _ _ _ gX]; rfl
          have cy3 : ((wr.alloc (.cells #[.string (strOfNums x.name), .slice AP x.params.length cP, .int .i64 x.result, .int .i64 x.slots, .slice AI x.instrs.length cI] 46)).alloc (.cells #[.string (strOfNums y.name), .slice AP' y.params.length cP', .int .i64 y.result, .int .i64 y.slots, .slice AI' y.instrs.length cI'] 46)).cell? ⟨wr.heap.size + 1, 3, none⟩ = some (.int .i64 y.slots) := by rw [cell_of_row _ _ _ _ _ _ gY]; rfl
          have cx4 : ((wr.alloc (.cells #[.string (strOfNums x.name), .slice AP x.params.length cP, .int .i64 x.result, .int .i64 x.slots, .slice AI x.instrs.length cI] 46)).alloc (.cells #[.string (strOfNums y.name), .slice AP' y.params.length cP', .int .i64 y.result, .int .i64 y.slots, .slice AI' y.instrs.length cI'] 46)).cell? ⟨wr.heap.size, 4, none⟩ = some (.slice AI x.instrs.length cI) := by rw [cell_of_row _ _ _ _ _ _ gX]; rfl
          have cy4 : ((wr.alloc (.cells #[.string (strOfNums x.name), .slice AP x.params.length cP, .int .i64 x.result, .int .i64 x.slots, .slice AI x.instrs.length cI] 46)).alloc (.cells #[.string (strOfNums y.name), .slice AP' y.params.length cP', .int .i64 y.result, .int .i64 y.slots, .slice AI' y.instrs.length cI'] 46)).cell? ⟨wr.heap.size + 1, 4, none⟩ = some (.slice AI' y.instrs.length cI') := by rw [cell_of_row _ _ _ _ _ _ gY]; rfl
          have BW : Hid (Below wr.heap.size wr ((wr.alloc (.cells #[.string (strOfNums x.name), .slice AP x.params.length cP, .int .i64 x.result, .int .i64 x.slots, .slice AI x.instrs.length cI] 46)).alloc (.cells #[.string (strOfNums y.name), .slice AP' y.params.length cP', .int .i64 y.result, .int .i64 y.slots, .slice AI' y.instrs.length cI'] 46))) := Lib.hid (((Below.refl _ _).alloc (Nat.le_refl _) _).alloc (by rw [World.size_alloc]; omega) _)
          have BZ := Lib.hid (X2.out.low.trans (BW.out.mono X2.out.low.size))
          have XZ := Lib.hid (And.intro (X2.out.on BW.out) ((BW.out.block _ (lt_of_some Y2.out)).trans Y2.out))
          have CC : Hid ((∀ w', Below ((wr.alloc (.cells #[.string (strOfNums x.name), .slice AP x.params.length cP, .int .i64 x.result, .int .i64 x.slots, .slice AI x.instrs.length cI] 46)).alloc (.cells #[.string (strOfNums y.name), .slice AP' y.params.length cP', .int .i64 y.result, .int .i64 y.slots, .slice AI' y.instrs.length cI'] 46)).heap.size ((wr.alloc (.cells #[.string (strOfNums x.name), .slice AP x.params.length cP, .int .i64 x.result, .int .i64 x.slots, .slice AI x.instrs.length cI] 46)).alloc (.cells #[.string (strOfNums y.name), .slice AP' y.params.length cP', .int .i64 y.result, .int .i64 y.slots, .slice AI' y.instrs.length cI'] 46)) w' → w'.cell? ⟨wr.heap.size, 1, none⟩ = some (.slice AP x.params.length cP) ∧ w'.cell? ⟨wr.heap.size, 4, none⟩ = some (.slice AI x.instrs.length cI) ∧ w'.cell? ⟨wr.heap.size + 1, 1, none⟩ = some (.slice AP' y.params.length cP') ∧ w'.cell? ⟨wr.heap.size + 1, 4, none⟩ = some (.slice AI' y.instrs.length cI'))) := Lib.hid (fun w' hb => ⟨(hb.cell (by have := lt_of_some gX; exact this)).trans cx1, (hb.cell (by have := lt_of_some gX; exact this)).trans cx4, (hb.cell (by have := lt_of_some gY; exact this)).trans cy1, (hb.cell (by have := lt_of_some gY; exact this)).trans cy4⟩)
          clear gX gY
          go_wp2_with (first | (refine wpList_load_mid rfl 46 (.tmp 35) rfl b1 (o1 + k * 5) rfl [.string (strOfNums x.name), .slice AP x.params.length cP, .int .i64 x.result, .int .i64 x.slots, .slice AI x.instrs.length cI] _ HRX.out Tryd.underlying46 rfl info46s ?_; refine Hid.out ?_) | fail)
          refine Lib.hid ?_
          go_wp2_with (first | (refine wpList_load_mid rfl 46 (.tmp 40) rfl b2 (o2 + k * 5) rfl [.string (strOfNums y.name), .slice AP' y.params.length cP', .int .i64 y.result, .int .i64 y.slots, .slice AI' y.instrs.length cI'] _ HRY.out Tryd.underlying46 rfl info46s ?_; refine Hid.out ?_) | fail)
          refine Lib.hid ?_
          by_cases h1 : x.name = y.name
          · have HNE := Lib.hid h1
            rw [decide_eq_true h1] at he
            clear h1
            by_cases h2 : x.result = y.result
            · have HRE := Lib.hid h2
              have q2 : (x.result != y.result) = false := by simpa using h2
              clear h2
              by_cases h3 : x.slots = y.slots
              · have HSE := Lib.hid h3
                have q3 : (x.slots != y.slots) = false := by simpa using h3
                clear h3
                by_cases h4 : x.params.length = y.params.length
                · have HPL := Lib.hid h4
                  have q4 : ((x.params.length : Int) != (y.params.length : Int)) = false := by rw [bne_eq_false_iff_eq]; omega
                  clear h4
                  by_cases h5 : x.instrs.length = y.instrs.length
                  · have HIL := Lib.hid h5
                    have q5 : ((x.instrs.length : Int) != (y.instrs.length : Int)) = false := by rw [bne_eq_false_iff_eq]; omega
                    clear h5
                    go_wp2_with fail
                    generalize ((wr.alloc (.cells #[.string (strOfNums x.name), .slice AP x.params.length cP, .int .i64 x.result, .int .i64 x.slots, .slice AI x.instrs.length cI] 46)).alloc (.cells #[.string (strOfNums y.name), .slice AP' y.params.length cP', .int .i64 y.result, .int .i64 y.slots, .slice AI' y.instrs.length cI'] 46)) = wz at *
                    clear cx0 cx2 cx3 cy0 cy2 cy3
                    go_loopw [8] (fun i wr => ∃ q : Nat, i = .int .i64 q ∧ q ≤ x.params.length ∧ Hid (∀ (j : Nat) a b, j < q → x.params[j]? = some a → y.params[j]? = some b → a = b) ∧ Below wz.heap.size wz wr) (fun i _ => x.params.length - (intOf i).toNat)
                    case atStart => exact ⟨0, rfl, Nat.zero_le _, Lib.hid (fun j a b h => by omega), Below.refl _ _⟩
                    case round =>
                      obtain ⟨q, rfl, hq, HQ, hb2⟩ := hrel
                      obtain ⟨a1, a4, b1, b4⟩ := CC.out wr hb2
                      have HB2 := Lib.hid hb2
                      have BW2 := Lib.hid (BZ.out.trans (hb2.mono BZ.out.size))
                      clear hb2
                      by_cases hql : q < x.params.length
                      · obtain ⟨s, hs⟩ : ∃ s, x.params[q]? = some s := ⟨_, List.getElem?_eq_getElem hql⟩
                        obtain ⟨t, ht⟩ : ∃ t, y.params[q]? = some t := ⟨_, List.getElem?_eq_getElem (by have := HPL.out; omega)⟩
                        obtain ⟨ad1, rfl, hB1, hc1⟩ := HLP.out.2 q _ (tysV_at hs)
                        obtain ⟨ad2, rfl, hB2, hc2⟩ := HLP'.out.2 q _ (tysV_at ht)
                        have e1 : wr.cell? (ad1.add q) = some (.int .i64 s) := by rw [BW2.out.cell (by rw [addr_block]; exact hB1)]; exact hc1
                        have e2 : wr.cell? (ad2.add q) = some (.int .i64 t) := by rw [BW2.out.cell (by rw [addr_block]; exact hB2)]; exact hc2
                        have HS := Lib.hid hs
                        have HTT := Lib.hid ht
                        have i1 : (q : Int) < (x.params.length : Int) := by omega
                        have i2 : (q : Int) < (y.params.length : Int) := by have := HPL.out; omega
                        clear hs ht hc1 hc2
                        by_cases hst : s = t
                        · have HN : Hid (∀ (j : Nat) a b, j < q + 1 → x.params[j]? = some a → y.params[j]? = some b → a = b) := fun j a b hj h1 h2 => by
                            by_cases hjk : j < q
                            · exact HQ.out j a b hjk h1 h2
                            · obtain rfl : j = q := by omega
                              rw [HS.out] at h1
                              rw [HTT.out] at h2
                              injection h1 with h1
                              injection h2 with h2
                              rw [← h1, ← h2, hst]
                          have hst2 : (s != t) = false := by simpa using hst
                          clear hst
                          go_wp2
                          go_quiet (fail)
                          go_wp2
                          go_roundw
                          case rel => exact ⟨q + 1, by go_num, by omega, HN, below_drewN HB2.out _⟩
                          case measure => simp [intOf]; omega
                        · have HRF : Hid (r = false) := Lib.hid (HNC.out k x y HX.out HY.out (fun h => hst (by subst h; have := HS.out.symm.trans HTT.out; injection this)))
                          have hst2 : (s != t) = true := by simpa using hst
                          clear hst
                          go_wp2
                          go_quiet (fail)
                          go_wp2
                          go_ret
                          exact ⟨by rw [HRF.out]; rfl, below_drewN BW2.out _⟩
                      · have HPE : Hid (x.params = y.params) := Lib.hid (same_lists HPL.out (fun j a b h1 h2 => HQ.out j a b (by have := (List.getElem?_eq_some_iff.1 h1).1; omega) h1 h2))
                        go_wp2_with fail
                        go_loopw [9] (fun i wr => ∃ q : Nat, i = .int .i64 q ∧ q ≤ x.instrs.length ∧ Hid (∀ (j : Nat) a b, j < q → x.instrs[j]? = some a → y.instrs[j]? = some b → a = b) ∧ Below wz.heap.size wz wr) (fun i _ => x.instrs.length - (intOf i).toNat)
                        case atStart => exact ⟨0, rfl, Nat.zero_le _, Lib.hid (fun j a b h => by omega), HB2.out⟩
                        case round =>
                          clear a1 a4 b1 b4 HB2 BW2
                          obtain ⟨q, rfl, hq, HQ, hb2⟩ := hrel
                          obtain ⟨a1, a4, b1, b4⟩ := CC.out wr hb2
                          have HB2 := Lib.hid hb2
                          have BW2 := Lib.hid (BZ.out.trans (hb2.mono BZ.out.size))
                          clear hb2
                          by_cases hql2 : q < x.instrs.length
                          · obtain ⟨s, hs⟩ : ∃ s, x.instrs[q]? = some s := ⟨_, List.getElem?_eq_getElem hql2⟩
                            obtain ⟨t, ht⟩ : ∃ t, y.instrs[q]? = some t := ⟨_, List.getElem?_eq_getElem (by have := HIL.out; omega)⟩
                            have hs2 := insV_at hs
                            have ht2 := insV_at ht
                            obtain ⟨bb1, oo1, rfl, hB1, hc1⟩ := lies_flat HLI.out hs2.1
                            obtain ⟨bb2, oo2, rfl, hB2, hc2⟩ := lies_flat HLI'.out ht2.1
                            have e1 : wr.cell? ⟨bb1, oo1 + q * 2, none⟩ = some (.int .i64 s.1) := by rw [BW2.out.cell hB1]; exact hc1 _ _ hs2.1
                            have e2 : wr.cell? ⟨bb1, oo1 + q * 2 + 1, none⟩ = some (.int .i64 s.2) := by rw [BW2.out.cell hB1, Nat.add_assoc]; exact hc1 _ _ hs2.2
                            have e3 : wr.cell? ⟨bb2, oo2 + q * 2, none⟩ = some (.int .i64 t.1) := by rw [BW2.out.cell hB2]; exact hc2 _ _ ht2.1
                            have e4 : wr.cell? ⟨bb2, oo2 + q * 2 + 1, none⟩ = some (.int .i64 t.2) := by rw [BW2.out.cell hB2, Nat.add_assoc]; exact hc2 _ _ ht2.2
                            have HS := Lib.hid hs
                            have HTT := Lib.hid ht
                            have i1 : (q : Int) < (x.instrs.length : Int) := by omega
                            have i2 : (q : Int) < (y.instrs.length : Int) := by have := HIL.out; omega
                            clear hs ht hc1 hc2 hs2 ht2
                            obtain ⟨s1, s2⟩ := s
                            obtain ⟨t1, t2⟩ := t
                            by_cases hst : s1 = t1 ∧ s2 = t2
                            · obtain ⟨rfl, rfl⟩ := hst
                              have HN : Hid (∀ (j : Nat) a b, j < q + 1 → x.instrs[j]? = some a → y.instrs[j]? = some b → a = b) := fun j a b hj h1 h2 => by
                                by_cases hjk : j < q
                                · exact HQ.out j a b hjk h1 h2
                                · obtain rfl : j = q := by omega
                                  rw [HS.out] at h1
                                  rw [HTT.out] at h2
                                  injection h1 with h1
                                  injection h2 with h2
                                  rw [← h1, ← h2]
                              go_wp2
                              go_quiet (fail)
                              go_wp2
                              go_roundw
                              case rel => exact ⟨q + 1, by go_num, by omega, HN, below_drewN HB2.out _⟩
                              case measure => simp [intOf]; omega
                            · have HRF : Hid (r = false) := Lib.hid (HNC.out k x y HX.out HY.out (fun h => hst (by subst h; have := HS.out.symm.trans HTT.out; injection this with this; injection this with h1 h2; exact ⟨h1, h2⟩)))
                              by_cases hs1 : s1 = t1
                              · obtain rfl := hs1
                                have n2 : (s2 == t2) = false := by
                                  rw [beq_eq_false_iff_ne]
                                  exact fun h => hst ⟨rfl, h⟩
                                clear hst
                                go_wp2
                                go_quiet (fail)
                                go_wp2
                                go_ret
                                exact ⟨by rw [HRF.out]; rfl, below_drewN BW2.out _⟩
                              · have n1 : (s1 == t1) = false := by rw [beq_eq_false_iff_ne]; exact hs1
                                clear hst
                                go_wp2
                                go_quiet (fail)
                                go_wp2
                                go_ret
                                exact ⟨by rw [HRF.out]; rfl, below_drewN BW2.out _⟩
                          · have HIE : Hid (x.instrs = y.instrs) := Lib.hid (same_lists HIL.out (fun j a b h1 h2 => HQ.out j a b (by have := (List.getElem?_eq_some_iff.1 h1).1; omega) h1 h2))
                            have HN : Hid (∀ (j : Nat) a b, j < k + 1 → m.codes[j]? = some a → o.codes[j]? = some b → a = b) := fun j a b hj h1 h2 => by
                              by_cases hjk : j < k
                              · exact HK.out j a b hjk h1 h2
                              · obtain rfl : j = k := by omega
                                rw [HX.out] at h1
                                rw [HY.out] at h2
                                injection h1 with h1
                                injection h2 with h2
                                rw [← h1, ← h2]
                                cases x
                                cases y
                                have n1 := HNE.out
                                have n2 := HRE.out
                                have n3 := HSE.out
                                have n4 := HPE.out
                                have n5 := HIE.out
                                simp only at n1 n2 n3 n4 n5
                                subst n1 n2 n3 n4 n5
                                rfl
                            have XA := Lib.hid (XZ.out.1.on HB2.out)
                            have XB := Lib.hid ((HB2.out.block _ (lt_of_some XZ.out.2)).trans XZ.out.2)
                            go_wp2
                            go_roundw
                            case rel => exact ⟨k + 1, by go_num, by omega, HN, XA.out, XB.out⟩
                            case measure => simp [intOf]; omega
                  · have q5 : ((x.instrs.length : Int) != (y.instrs.length : Int)) = true := by rw [bne_iff_ne]; omega
                    have HRF : Hid (r = false) := Lib.hid (HNC.out k x y HX.out HY.out (fun h => h5 (by rw [h])))
                    go_wp2
                    go_ret
                    exact ⟨by rw [HRF.out]; rfl, BZ.out⟩
                · have q4 : ((x.params.length : Int) != (y.params.length : Int)) = true := by rw [bne_iff_ne]; omega
                  have HRF : Hid (r = false) := Lib.hid (HNC.out k x y HX.out HY.out (fun h => h4 (by rw [h])))
                  go_wp2
                  go_ret
                  exact ⟨by rw [HRF.out]; rfl, BZ.out⟩
              · have q3 : (x.slots != y.slots) = true := by simpa using h3
                have HRF : Hid (r = false) := Lib.hid (HNC.out k x y HX.out HY.out (fun h => h3 (by rw [h])))
                go_wp2
                go_ret
                exact ⟨by rw [HRF.out]; rfl, BZ.out⟩
            · have q2 : (x.result != y.result) = true := by simpa using h2
              have HRF : Hid (r = false) := Lib.hid (HNC.out k x y HX.out HY.out (fun h => h2 (by rw [h])))
              go_wp2
              go_ret
              exact ⟨by rw [HRF.out]; rfl, BZ.out⟩
          · rw [decide_eq_false h1] at he
            have HRF : Hid (r = false) := Lib.hid (HNC.out k x y HX.out HY.out (fun h => h1 (by rw [h])))
            go_wp2
            go_ret
            exact ⟨by rw [HRF.out]; rfl, BZ.out⟩
        · have HRR : Hid (r = true) := Lib.hid (HRT.out.2 (by
            have n1 := same_lists HLEN.out (fun j a b h1 h2 => HK.out j a b (by have := (List.getElem?_eq_some_iff.1 h1).1; omega) h1 h2)
            have n2 := HTE.out
            cases m
            cases o
            simp only at n1 n2
            rw [n1, n2]))
          have BZ := Lib.hid X2.out.low
          go_wp2
          go_ret
          exact ⟨by rw [HRR.out]; rfl, BZ.out⟩
    · have HRF : Hid (r = false) := Lib.hid (HNO.out (fun h => hte (by rw [h])))
      rw [decide_eq_false hte]
      clear hte
      go_wp2
      go_ret
      exact ⟨by rw [HRF.out]; rfl, X2.out.low⟩
  · have HRF : Hid (r = false) := Lib.hid (HNO.out (fun h => hlen (by rw [h])))
    have hne : ((m.codes.length : Int) != (o.codes.length : Int)) = true := by rw [bne_iff_ne]; omega
    go_enter Tryd.func16, Tryd.ntmps16
    go_wp2
    go_ret
    exact ⟨by rw [HRF.out]; rfl, X1.out.low⟩

end Go.Proofs.YtecjkmemihmkcaaDoor
