/- What the document's parser makes of brackets within one another, spelled out; nothing of the program. Conditions: those in each theorem. Bytes that grow by appending one: a constant's, or a row of the call's own. Conditions: those in each theorem. The walk of SyntaxDeep: it returns true, and nothing that was there has changed. Conditions: none beyond what its argument is; the tables lie as the program lays them. -/
import Derived.Test.YtoicncfpoklanaaDoorDp
import Derived.Test.YtoicncfpoklanaaDoorWj
import Derived.Deep.DeepCutAuto
namespace Go.Proofs.YtoicncfpoklanaaDoor
section
/-- what is read of k brackets -/
theorem deep_of (k : Nat) (hk : k < 100) (h : 30 < k) : ∃ fs, parsed (deepL k) = ⟨42, fs, 44⟩ := by
  have h1 := deep_ok k hk
  unfold deepOk at h1
  generalize parsed (deepL k) = p at h1
  obtain ⟨err, fs, place⟩ := p
  have hb : Nat.ble 31 k = true := by rw [Nat.ble_eq]; exact h
  simp only [hb, cond_true, Bool.and_eq_true, Nat.beq_eq] at h1
  exact ⟨fs, by rw [h1.1, h1.2]⟩
theorem deep_of' (k : Nat) (hk : k < 100) (h : ¬ 30 < k) : ∃ f s x, parsed (deepL k) = ⟨0, [f], 0⟩ ∧ f.body[0]? = some s ∧ s.exprs[0]? = some x ∧ x.op = 1 := by
  have h1 := deep_ok k hk
  unfold deepOk at h1
  generalize parsed (deepL k) = p at h1
  obtain ⟨err, fs, place⟩ := p
  have hb : Nat.ble 31 k = false := by
    cases hq : Nat.ble 31 k with
    | false => rfl
    | true => exact absurd (by rw [Nat.ble_eq] at hq; exact hq) h
  simp only [hb, cond_false, Bool.and_eq_true, Nat.beq_eq] at h1
  obtain ⟨⟨h2, h3⟩, h4⟩ := h1
  subst h2 h3
  split at h4
  · rename_i n p r o t op nn tx kd pl more b e q rest pl2
    exact ⟨_, _, _, rfl, rfl, rfl, by simpa [Ex.op] using h4⟩
  · cases h4
end

section
open Go.RowKit
set_option maxRecDepth 100000

/-- bytes: of the call's own, or a full row -/
def Buf (base : Nat) (v : Value) (l : List Nat) (w : World) : Prop :=
  w.ownsRow base 5 1 v l.length (bts l) ∨ (∃ g, v = .slice (some ⟨g, 0, none⟩) l.length l.length ∧ base ≤ g ∧ g < w.heap.size ∧ ∀ j u, (bts l)[j]? = some u → w.cell? ⟨g, j, none⟩ = some u)
theorem Buf.slice {base : Nat} {v : Value} {l : List Nat} {w : World} (h : Buf base v l w) : ∃ A c, v = .slice A l.length c := by
  rcases h with h | ⟨g, rfl, _⟩
  · exact own_shape h
  · exact ⟨_, _, rfl⟩
theorem Buf.alloc {base : Nat} {v : Value} {l : List Nat} {w : World} (h : Buf base v l w) (o : Obj) : Buf base v l (w.alloc o) := by
  rcases h with h | ⟨g, rfl, h1, h2, h3⟩
  · exact .inl (own_below h (below_alloc w o) (Nat.le_refl _))
  · refine .inr ⟨g, rfl, h1, Nat.lt_of_lt_of_le h2 (below_alloc w o).size, fun j u hu => ?_⟩
    rw [(below_alloc w o).cell (p := ⟨g, j, none⟩) h2]
    exact h3 j u hu
theorem bts_snoc (l : List Nat) (d : Nat) : bts (l ++ [d]) = bts l ++ [.int .u8 ((d : Nat) : Int)] := by rw [bts_append]; rfl
/-- an append of one byte -/
theorem run_append_buf (w : World) (base : Nat) (ty : TypeId) (v : Value) (l : List Nat) (d : Nat) (hv : Buf base v l w) (g : Nat) (hg : w.cell? ⟨g, 0, none⟩ = some (.int .u8 ((d : Nat) : Int))) (hlen : l.length + 1 ≤ 100000) (hbase : base ≤ w.heap.size) :
    ∃ v' w', (Builtin.append_ #[22, 22] ty #[v, .slice (some ⟨g, 0, none⟩) 1 1]).run Tryd.prog w = .ok v' w' ∧ w'.ownsRow base 5 1 v' (l ++ [d]).length (bts (l ++ [d])) ∧ Below base w w' := by
  obtain ⟨i0, hi, hz0, hz1, hz2⟩ := info_parts info5b
  have hnews : ∀ j u, [Value.int .u8 ((d : Nat) : Int)][j]? = some u → w.cell? ((⟨g, 0, none⟩ : Addr).add j) = some u := fun j u hu => by
    cases j with
    | zero => simp at hu; subst hu; exact hg
    | succ j => simp at hu
  rw [bts_snoc, List.length_append, List.length_singleton]
  rcases hv with hown | ⟨b, rfl, hb, hlt, hc⟩
  · obtain ⟨v', w', hr, h2, h3, _⟩ := run_append_one (P := Tryd.prog) w base 22 ty 5 i0 (.int .u8 0) 1 1 Tryd.underlying22 hi hz0 hz1 hz2 rfl (by omega) v l.length (bts l) hown ⟨g, 0, none⟩ 1 [.int .u8 ((d : Nat) : Int)] rfl hnews (by simp [Value.oneCell']) (by omega) (by unfold maxLen; omega) hbase
    exact ⟨v', w', hr, h2, (Below.refl base w).grown h3 hbase (fun k hk => (hown.lt k hk).1)⟩
  · have hl0 : (bts l).length = l.length * i0.size := by rw [hz1, bts_length]; omega
    have hlen2 : (bts l ++ [Value.int .u8 ((d : Nat) : Int)]).length = (l.length + 1) * 1 := by simp [bts_length]
    have hr := run_append_grow (P := Tryd.prog) w 22 ty 5 i0 (.int .u8 0) Tryd.underlying22 hi hz0 ⟨b, 0, none⟩ l.length l.length (bts l) hl0 (fun j u hu => by rw [Addr.add_lit, Nat.zero_add]; exact hc j u hu) ⟨g, 0, none⟩ 1 1 [.int .u8 ((d : Nat) : Int)] (by rw [hz1]; rfl) hnews (by omega) (by omega) (growslice_fits (by omega) (by rw [hz2]; omega))
    refine ⟨_, _, hr, ?_, ?_⟩
    · have hge := grownCap_ge w (l.length + 1) l.length 5
      have hcm : grownCap w (l.length + 1) l.length 5 ≤ maxLen := grownCap_le_maxLen w (l.length + 1) l.length 5 (by unfold maxLen; omega)
      refine ⟨hlen2, .inr ⟨w.heap.size, _, _, rfl, hbase, heap_alloc_new w.drew _, hge, hcm, ?_, ?_⟩⟩
      · simp [size_zeroCells, bts_length, Value.cells]
        omega
      · simp only [Array.toList_append, List.append_assoc]
        rw [← List.append_assoc, ← hlen2]
        exact List.take_left
    · exact ((Below.refl base w).drew).alloc hbase _
theorem wpList_append_buf (w : World) {ops : Array Oper} {rest : List Oper} {o : Oper} {a : Act} {Q : Exit → Act → World → Prop} (hgd : o.guard = none) (s x : Operand) (ho : o.op = .call { callee := .builtin .append, args := #[s, x], argTypes := #[22, 22] })
    (base : Nat) (v : Value) (l : List Nat) (d : Nat) (hs : a.eval s = v) (hv : Buf base v l w) (g : Nat) (hx : a.eval x = .slice (some ⟨g, 0, none⟩) 1 1) (hg : w.cell? ⟨g, 0, none⟩ = some (.int .u8 ((d : Nat) : Int))) (hlen : l.length + 1 ≤ 100000) (hbase : base ≤ w.heap.size)
    (h : ∀ v' w', w'.ownsRow base 5 1 v' (l ++ [d]).length (bts (l ++ [d])) → Below base w w' → wpList Tryd.prog ops Q rest (a.put o.dst v') w') : wpList Tryd.prog ops Q (o :: rest) a w := by
  refine wpList_plain hgd fun K hK => ?_
  obtain ⟨v', w', hr, h2, h3⟩ := run_append_buf w base o.type v l d hv g hg hlen hbase
  unfold Oper.wp execOp
  simp only [ho, resolve, invoke, builtin, Sem.run_bind, Sem.run_pure, Result.andThen_ok, List.map_toArray, List.map_cons, List.map_nil, hs, hx, hr]
  exact hK _ _ (h v' w' h2 h3)
end

section
open Go.RowKit
set_option maxRecDepth 100000
set_option linter.unusedSimpArgs false
set_option linter.unusedVariables false

def deepB (i : Nat) : List Nat := deepA ++ List.replicate i 40
def deepC (k i : Nat) : List Nat := deepA ++ List.replicate k 40 ++ [49] ++ List.replicate i 41
theorem deepB_succ (i : Nat) : deepB (i + 1) = deepB i ++ [40] := by simp [deepB, List.replicate_succ']
theorem deepC_succ (k i : Nat) : deepC k (i + 1) = deepC k i ++ [41] := by simp [deepC, List.replicate_succ']
theorem deepB_len (i : Nat) : (deepB i).length = 13 + i := by simp [deepB, deepA]; omega
theorem deepC_len (k i : Nat) : (deepC k i).length = 14 + k + i := by simp [deepC, deepA]; omega
theorem byn_deep (k : Nat) : Byn (deepL k) := by
  intro b hb
  simp [deepL, deepA, List.mem_replicate] at hb
  omega
/-- the slice that is grown -/
def BufS (base : Nat) (w : World) (l : List Nat) (v : Value) (wr : World) : Prop := Buf base v l wr ∧ Below base w wr ∧ base ≤ wr.heap.size
theorem strS : strN [59, 32, 125] = ⟨#[59, 32, 125]⟩ := by kernel_rfl
theorem sizeS : (⟨#[59, 32, 125]⟩ : ByteArray).size = 3 := by kernel_rfl
/-- the first expression of the first statement of the first function -/
theorem first_op {w : World} {D : Nat → Prop} {f : Fu} {s : St} {x : Ex} {V : Value} (hV : FusC w D [f] V) (hs : f.body[0]? = some s) (hx : s.exprs[0]? = some x) :
    ∃ b1 o1 c1 b2 o2 c2 b3 o3 c3, V = .slice (some ⟨b1, o1, none⟩) 1 c1 ∧ 1 ≤ c1 ∧ c1 ≤ maxLen ∧ D b1 ∧ D b2 ∧ D b3 ∧ w.cell? ⟨b1, o1 + 3, none⟩ = some (.slice (some ⟨b2, o2, none⟩) f.body.length c2) ∧ w.cell? ⟨b2, o2 + 2, none⟩ = some (.slice (some ⟨b3, o3, none⟩) s.exprs.length c3) ∧ w.cell? ⟨b3, o3, none⟩ = some (.int .i64 x.op) ∧ 0 < f.body.length ∧ f.body.length ≤ c2 ∧ c2 ≤ maxLen ∧ 0 < s.exprs.length ∧ s.exprs.length ≤ c3 ∧ c3 ≤ maxLen := by
  obtain ⟨b1, o1, c1, k, e1, a1, a2, a3, a4, a5, a6⟩ := hV.get (i := 0) (f := f) rfl
  obtain ⟨kp, kb⟩ := k
  obtain ⟨b2, o2, c2, q, e2, d1, d2, d3, d4, d5, d6, d7⟩ := a6.get hs
  obtain ⟨qe, qb, qf⟩ := q
  obtain ⟨b3, o3, c3, z, e3, g1, g2, g3, g4, g5⟩ := d5.get hx
  have e2' : kb = .slice (some ⟨b2, o2, none⟩) f.body.length c2 := e2
  have e3' : qe = .slice (some ⟨b3, o3, none⟩) s.exprs.length c3 := e3
  subst e2' e3'
  rw [Nat.zero_mul, Nat.add_zero] at a4 d4 g4
  exact ⟨b1, o1, c1, b2, o2, c2, b3, o3, c3, e1, a1, a2, a3, d3, g3, a4 3 _ rfl, d4 2 _ rfl, g4 0 _ rfl, (List.getElem?_eq_some_iff.1 hs).1, d1, d2, (List.getElem?_eq_some_iff.1 hx).1, g1, g2⟩

set_option maxHeartbeats 3200000 in
theorem deep_walk (n : Nat) (hn : n < 256) (w : World) (ht : Tab w) :
    Calls Tryd.prog 6 #[.int .u8 n] w fun e w' => e = .returned (.bool true) ∧ Below w.heap.size w w' := by
  have HT := Lib.hid ht
  have hpos := ht.1
  clear ht
  obtain ⟨i0, hi, hz0, hz1, hz2⟩ := info_parts info5b
  have K := Lib.hid (head_true w HT.out)
  obtain ⟨k, hk⟩ : ∃ k : Nat, ((n : Int) % 100) = (k : Int) := ⟨n % 100, by omega⟩
  have hk1 : k < 100 := by omega
  go_enter Tryd.func6, Tryd.ntmps6
  go_wp2_with fail
  (with_reducible refine K.out.mono ?_)
  clear K
  rintro e w1 ⟨rfl, hb1⟩
  have BW1 := Lib.hid hb1
  have s1 := hb1.size
  have hm := run_marked w1 #[.int .u8 102, .int .u8 110, .int .u8 32, .int .u8 102, .int .u8 40, .int .u8 41, .int .u8 32, .int .u8 123, .int .u8 32, .int .u8 120, .int .u8 32, .int .u8 61, .int .u8 32] 13 13
  have B0 := below_alloc w1 (.cells #[.int .u8 102, .int .u8 110, .int .u8 32, .int .u8 102, .int .u8 40, .int .u8 41, .int .u8 32, .int .u8 123, .int .u8 32, .int .u8 120, .int .u8 32, .int .u8 61, .int .u8 32] 5 (13, 14))
  have L0 := lies_new w1 deepA 13 5 (13, 14)
  have HS : Hid (BufS w1.heap.size w1 (deepB 0) (.slice (some ⟨w1.heap.size, 0, none⟩) 13 13) (w1.alloc (.cells #[.int .u8 102, .int .u8 110, .int .u8 32, .int .u8 102, .int .u8 40, .int .u8 41, .int .u8 32, .int .u8 123, .int .u8 32, .int .u8 120, .int .u8 32, .int .u8 61, .int .u8 32] 5 (13, 14)))) := by
    refine ⟨.inr ⟨w1.heap.size, rfl, Nat.le_refl _, by simp, fun j u hu => ?_⟩, B0, B0.size⟩
    have hu' : (bts deepA)[j]? = some u := by simpa [deepB] using hu
    obtain ⟨ad, e, _, hc⟩ := L0.2 j u hu'
    injection e with e
    subst e
    rw [Addr.add_lit, Nat.zero_add] at hc
    exact hc
  clear hb1 B0 L0
  go_wp2
  clear hm
  rw [hk]
  clear hk
  generalize w1.alloc (.cells #[.int .u8 102, .int .u8 110, .int .u8 32, .int .u8 102, .int .u8 40, .int .u8 41, .int .u8 32, .int .u8 123, .int .u8 32, .int .u8 120, .int .u8 32, .int .u8 61, .int .u8 32] 5 (13, 14)) = w2 at *
  go_loopw [5, 7] (fun v i wr => ∃ j : Nat, j ≤ k ∧ i = .int .i64 j ∧ BufS w1.heap.size w1 (deepB j) v wr) (fun _ i _ => k - (intOf i).toNat)
  case atStart => exact ⟨0, Nat.zero_le _, rfl, HS.out⟩
  case round =>
    obtain ⟨j, hj, rfl, hS⟩ := hrel
    obtain ⟨Av, cv, rfl⟩ := hS.1.slice
    have HS1 := Lib.hid hS
    have hl := deepB_len j
    by_cases hlt : j < k
    · have HB := Lib.hid (hS.1.alloc (.cells #[.int .u8 40] 5))
      have Hg : Hid ((wr.alloc (.cells #[.int .u8 40] 5)).cell? ⟨wr.heap.size, 0, none⟩ = some (.int .u8 ((40 : Nat) : Int))) := by
        show _ = _
        rw [Lib.cell_of_heap (heap_alloc_new wr (.cells #[.int .u8 40] 5))]
        rfl
      have Hsz : Hid ((deepB j).length + 1 ≤ 100000) := by show _ ≤ _; omega
      have Hba : Hid (w1.heap.size ≤ (wr.alloc (.cells #[.int .u8 40] 5)).heap.size) := Nat.le_trans hS.2.2 (below_alloc wr _).size
      have Hbl : Hid (Below w1.heap.size w1 (wr.alloc (.cells #[.int .u8 40] 5))) := hS.2.1.alloc hS.2.2 _
      clear hS hl
      go_wp2_with (at_builtin; refine wpList_append_buf _ rfl _ _ rfl w1.heap.size _ (deepB j) 40 rfl HB.out wr.heap.size rfl Hg.out Hsz.out Hba.out ?_; intro v' w3 ho hb; obtain ⟨A3, c3, rfl⟩ := own_shape ho; refine Hid.out ?_)
      refine Lib.hid ?_
      have HS3 : Hid (BufS w1.heap.size w1 (deepB (j + 1)) (.slice A3 (deepB j ++ [40]).length c3) w3) := by
        rw [deepB_succ]
        exact ⟨.inl ho, Hbl.out.trans hb, Nat.le_trans Hba.out hb.size⟩
      clear ho hb
      rw [List.length_append, List.length_singleton] at HS3
      generalize (deepB j).length = q at *
      go_wp2
      go_roundw
      case rel => exact ⟨j + 1, by omega, by go_num, HS3.out⟩
      case measure => simp [intOf]; omega
    · have hjk : j = k := by omega
      have HSk : Hid (BufS w1.heap.size w1 (deepB k) (.slice Av (deepB j).length cv) wr) := by
        have := hS
        rw [hjk] at this ⊢
        exact this
      have hlk := deepB_len k
      have HB := Lib.hid (HSk.out.1.alloc (.cells #[.int .u8 49] 5))
      have Hg : Hid ((wr.alloc (.cells #[.int .u8 49] 5)).cell? ⟨wr.heap.size, 0, none⟩ = some (.int .u8 ((49 : Nat) : Int))) := by
        show _ = _
        rw [Lib.cell_of_heap (heap_alloc_new wr (.cells #[.int .u8 49] 5))]
        rfl
      have Hsz : Hid ((deepB k).length + 1 ≤ 100000) := by show _ ≤ _; omega
      have Hba : Hid (w1.heap.size ≤ (wr.alloc (.cells #[.int .u8 49] 5)).heap.size) := Nat.le_trans hS.2.2 (below_alloc wr _).size
      have Hbl : Hid (Below w1.heap.size w1 (wr.alloc (.cells #[.int .u8 49] 5))) := hS.2.1.alloc hS.2.2 _
      clear hS hl hlk hjk HS1 HSk
      generalize (deepB j).length = q0 at *
      go_wp2_with (at_builtin; refine wpList_append_buf _ rfl _ _ rfl w1.heap.size _ (deepB k) 49 rfl HB.out wr.heap.size rfl Hg.out Hsz.out Hba.out ?_; intro v' w3 ho hb; obtain ⟨A3, c3, rfl⟩ := own_shape ho; refine Hid.out ?_)
      refine Lib.hid ?_
      have HS3 : Hid (BufS w1.heap.size w1 (deepC k 0) (.slice A3 (deepB k ++ [49]).length c3) w3 ∧ w3.ownsRow w1.heap.size 5 1 (.slice A3 (deepB k ++ [49]).length c3) (deepC k 0).length (bts (deepC k 0))) := by
        have e : deepC k 0 = deepB k ++ [49] := by simp [deepC, deepB]
        rw [e]
        exact ⟨⟨.inl ho, Hbl.out.trans hb, Nat.le_trans Hba.out hb.size⟩, ho⟩
      clear ho hb HB Hg Hsz Hba Hbl
      rw [List.length_append, List.length_singleton] at HS3
      generalize (deepB k).length = q at *
      go_wp2
      go_loopw [5, 8] (fun v i wr => ∃ j : Nat, j ≤ k ∧ i = .int .i64 j ∧ BufS w1.heap.size w1 (deepC k j) v wr ∧ wr.ownsRow w1.heap.size 5 1 v (deepC k j).length (bts (deepC k j))) (fun _ i _ => k - (intOf i).toNat)
      case atStart => exact ⟨0, Nat.zero_le _, rfl, HS3.out⟩
      case round =>
        obtain ⟨j2, hj2, rfl, hS, hO⟩ := hrel
        obtain ⟨Av2, cv2, rfl⟩ := own_shape hO
        have hl := deepC_len k j2
        by_cases hlt2 : j2 < k
        · have HB := Lib.hid (hS.1.alloc (.cells #[.int .u8 41] 5))
          have Hg : Hid ((wr.alloc (.cells #[.int .u8 41] 5)).cell? ⟨wr.heap.size, 0, none⟩ = some (.int .u8 ((41 : Nat) : Int))) := by
            show _ = _
            rw [Lib.cell_of_heap (heap_alloc_new wr (.cells #[.int .u8 41] 5))]
            rfl
          have Hsz : Hid ((deepC k j2).length + 1 ≤ 100000) := by show _ ≤ _; omega
          have Hba : Hid (w1.heap.size ≤ (wr.alloc (.cells #[.int .u8 41] 5)).heap.size) := Nat.le_trans hS.2.2 (below_alloc wr _).size
          have Hbl : Hid (Below w1.heap.size w1 (wr.alloc (.cells #[.int .u8 41] 5))) := hS.2.1.alloc hS.2.2 _
          clear hS hl hO
          go_wp2_with (at_builtin; refine wpList_append_buf _ rfl _ _ rfl w1.heap.size _ (deepC k j2) 41 rfl HB.out wr.heap.size rfl Hg.out Hsz.out Hba.out ?_; intro v' w4 ho hb; obtain ⟨A4, c4, rfl⟩ := own_shape ho; refine Hid.out ?_)
          refine Lib.hid ?_
          have HS4 : Hid (BufS w1.heap.size w1 (deepC k (j2 + 1)) (.slice A4 (deepC k j2 ++ [41]).length c4) w4 ∧ w4.ownsRow w1.heap.size 5 1 (.slice A4 (deepC k j2 ++ [41]).length c4) (deepC k (j2 + 1)).length (bts (deepC k (j2 + 1)))) := by
            rw [deepC_succ]
            exact ⟨⟨.inl ho, Hbl.out.trans hb, Nat.le_trans Hba.out hb.size⟩, ho⟩
          clear ho hb
          rw [List.length_append, List.length_singleton] at HS4
          generalize (deepC k j2).length = q2 at *
          go_wp2
          go_roundw
          case rel => exact ⟨j2 + 1, by omega, by go_num, HS4.out⟩
          case measure => simp [intOf]; omega
        · have hjk : j2 = k := by omega
          have HOk : Hid (wr.ownsRow w1.heap.size 5 1 (.slice Av2 (deepC k j2).length cv2) (deepC k k).length (bts (deepC k k))) := by
            have := hO
            rw [hjk] at this ⊢
            exact this
          have hlk := deepC_len k k
          have Hs1 : Hid ((deepC k k).length + (⟨#[59, 32, 125]⟩ : ByteArray).size ≤ maxLen) := by show _ ≤ _; rw [sizeS]; unfold maxLen; omega
          have Hs2 : Hid ((deepC k k).length + (⟨#[59, 32, 125]⟩ : ByteArray).size ≤ 140737488355328) := by show _ ≤ _; rw [sizeS]; omega
          have Hba := Lib.hid hS.2.2
          have Hbl := Lib.hid hS.2.1
          clear hS hl hlk hjk hO
          generalize (deepC k j2).length = q2 at *
          go_wp2_with (at_builtin; refine Lib.wpList_append_own_string _ rfl _ _ 22 9 rfl w1.heap.size 5 i0 Tryd.underlying22 Tryd.underlying9 hi hz0 hz1 hz2 _ _ _ rfl HOk.out ⟨#[59, 32, 125]⟩ rfl Hs1.out Hs2.out Hba.out ?_; intro v' w4 ho hg _; obtain ⟨A4, c4, rfl⟩ := own_shape ho; refine Hid.out ?_)
          refine Lib.hid ?_
          have hb4 : Below w1.heap.size w1 w4 := Hbl.out.grown hg Hba.out (fun b hb => (HOk.out.lt b hb).1)
          have hm4 : (deepL k).length = (deepC k k).length + 3 := by simp [deepL, deepC, deepA]; omega
          have hbt : bts (deepC k k) ++ Lib.strCells ⟨#[59, 32, 125]⟩ = bts (deepL k) := by
            rw [← strS, strCells_strN, show deepL k = deepC k k ++ [59, 32, 125] by simp [deepL, deepC], bts_append]
            rfl
          rw [hbt, sizeS] at ho
          have HM4 := Lib.hid hm4
          clear hm4
          generalize (deepC k k).length = mq at *
          obtain ⟨A5, c5, e5, hc5, hcm5, hl5⟩ := own_lies ho
          injection e5 with e6 _ e7
          subst e6 e7
          have BW4 := Lib.hid (BW1.out.trans (hb4.mono s1))
          have HL5 := Lib.hid hl5
          have HC5 : Hid (mq + 3 ≤ c4 ∧ c4 ≤ maxLen) := ⟨hc5, hcm5⟩
          have s4 := hb4.size
          clear ho hg hb4 hbt hl5 hc5 hcm5 Hs1 Hs2 Hba Hbl HOk
          by_cases h30 : 30 < k
          · obtain ⟨fs, hp⟩ := deep_of k hk1 h30
            have K := Lib.hid (parseZ A4 (deepL k) (mq + 3) c4 w4 HM4.out HC5.out.1 HC5.out.2 HL5.out (byn_deep k) (HT.out.below BW4.out hpos) 42 44 fs hp 42 44 rfl rfl)
            clear hp
            go_wp2_with fail
            (with_reducible refine K.out.mono ?_)
            clear K
            rintro e w5 ⟨V, rfl, hf5, hb5⟩
            obtain ⟨A6, c6, rfl⟩ : ∃ A c, V = .slice A fs.length c := by
              obtain ⟨_, _, h, _⟩ := hf5
              exact row_slice h
            have b5a := below_alloc w5 (.cells #[.slice A6 fs.length c6] 26)
            have s5 := hb5.size
            have BW5 := Lib.hid ((BW4.out.trans (hb5.mono (by omega))).trans (b5a.mono (by omega)))
            clear hf5 hb5 b5a
            go_wp2
            go_ret
            exact ⟨rfl, BW5.out⟩
          · obtain ⟨f, st, x, hp, hst, hx, hop⟩ := deep_of' k hk1 h30
            have K := Lib.hid (parseZ A4 (deepL k) (mq + 3) c4 w4 HM4.out HC5.out.1 HC5.out.2 HL5.out (byn_deep k) (HT.out.below BW4.out hpos) 0 0 [f] hp 0 0 rfl rfl)
            have HX : Hid (f.body[0]? = some st ∧ st.exprs[0]? = some x ∧ x.op = 1) := ⟨hst, hx, hop⟩
            clear hp hst hx hop
            go_wp2_with fail
            (with_reducible refine K.out.mono ?_)
            clear K
            rintro e w5 ⟨V, rfl, hf5, hb5⟩
            obtain ⟨b1, o1, c1, b2, o2, c2, b3, o3, c3', rfl, m1, m1', d1, d2, d3, m2, m3, m4, m5, m5', m5'', m6, m6', m6''⟩ := first_op hf5 HX.out.1 HX.out.2.1
            have b5a := below_alloc w5 (.cells #[.slice (some ⟨b1, o1, none⟩) 1 c1] 26)
            have s5 := hb5.size
            have BW5 := Lib.hid ((BW4.out.trans (hb5.mono (by omega))).trans (b5a.mono (by omega)))
            have p1 : (w5.alloc (.cells #[.slice (some ⟨b1, o1, none⟩) 1 c1] 26)).cell? ⟨b1, o1 + 3, none⟩ = some (.slice (some ⟨b2, o2, none⟩) f.body.length c2) := by
              rw [b5a.cell (p := ⟨b1, o1 + 3, none⟩) d1.2]
              exact m2
            have p2 : (w5.alloc (.cells #[.slice (some ⟨b1, o1, none⟩) 1 c1] 26)).cell? ⟨b2, o2 + 2, none⟩ = some (.slice (some ⟨b3, o3, none⟩) st.exprs.length c3') := by
              rw [b5a.cell (p := ⟨b2, o2 + 2, none⟩) d2.2]
              exact m3
            have p3 : (w5.alloc (.cells #[.slice (some ⟨b1, o1, none⟩) 1 c1] 26)).cell? ⟨b3, o3, none⟩ = some (.int .i64 1) := by
              rw [b5a.cell (p := ⟨b3, o3, none⟩) d3.2, m4, HX.out.2.2]
              rfl
            have p0 : (w5.alloc (.cells #[.slice (some ⟨b1, o1, none⟩) 1 c1] 26)).cell? ⟨w5.heap.size, 0, none⟩ = some (.slice (some ⟨b1, o1, none⟩) 1 c1) := by
              rw [Lib.cell_of_heap (heap_alloc_new w5 (.cells #[.slice (some ⟨b1, o1, none⟩) 1 c1] 26))]
              rfl
            have P : Hid ((w5.alloc (.cells #[.slice (some ⟨b1, o1, none⟩) 1 c1] 26)).cell? ⟨w5.heap.size, 0, none⟩ = some (.slice (some ⟨b1, o1, none⟩) 1 c1) ∧ (w5.alloc (.cells #[.slice (some ⟨b1, o1, none⟩) 1 c1] 26)).cell? ⟨b1, o1 + 3, none⟩ = some (.slice (some ⟨b2, o2, none⟩) f.body.length c2) ∧ (w5.alloc (.cells #[.slice (some ⟨b1, o1, none⟩) 1 c1] 26)).cell? ⟨b2, o2 + 2, none⟩ = some (.slice (some ⟨b3, o3, none⟩) st.exprs.length c3') ∧ (w5.alloc (.cells #[.slice (some ⟨b1, o1, none⟩) 1 c1] 26)).cell? ⟨b3, o3, none⟩ = some (.int .i64 1)) := ⟨p0, p1, p2, p3⟩
            unfold maxLen at m1' m5'' m6''
            clear hf5 hb5 b5a p0 p1 p2 p3 m2 m3 m4 d1 d2 d3
            generalize f.body.length = nb at *
            generalize st.exprs.length = ne at *
            go_upto_region 16 with fail
            generalize w5.alloc (.cells #[.slice (some ⟨b1, o1, none⟩) 1 c1] 26) = w6 at *
            obtain ⟨p0, p1, p2, p3⟩ := P.out
            go_wp2
            go_ret
            exact ⟨rfl, BW5.out⟩
end
end Go.Proofs.YtoicncfpoklanaaDoor
