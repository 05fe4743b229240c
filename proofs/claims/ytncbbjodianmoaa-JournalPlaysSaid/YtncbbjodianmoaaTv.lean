/- What the document has Put return. Conditions: what is read lies in memory; rows and byte strings are not too great. -/
import Derived.Test.YtncbbjodianmoaaTu
namespace Go.Proofs.Ytncbbjodianmoaa
open Go.RowKit
set_option linter.unusedSimpArgs false
set_option linter.unusedVariables false

/-- a row that is read, of which the cells lie in this world -/
theorem DstF.on {w w' : World} {base B : Nat} {v : Value} {ls : List PR} (h : DstF w base B v ls) (hb : Below w.heap.size w w') (hB : B ≤ w.heap.size) : DstF w' base B v ls := by
  obtain ⟨vs, hp, ho⟩ := h
  exact ⟨vs, hp.low (hb.mono hB), own_belowS ho hb⟩
def SrcS (w : World) (B : Nat) (M : Option Addr) (cm : Nat) (ms : List PR) : Prop := ∃ us, Lies w w.heap.size M cm us ∧ PsC w B ms us
theorem SrcS.src {w : World} {B : Nat} {M : Option Addr} {cm : Nat} {ms : List PR} (h : SrcS w B M cm ms) : Src w B M cm ms := by
  obtain ⟨us, h1, h2⟩ := h
  exact ⟨_, us, h1, h2⟩
theorem SrcS.on {w w' : World} {B : Nat} {M : Option Addr} {cm : Nat} {ms : List PR} (h : SrcS w B M cm ms) (hb : Below w.heap.size w w') (hB : B ≤ w.heap.size) : SrcS w' B M cm ms := by
  obtain ⟨us, h1, h2⟩ := h
  exact ⟨us, (h1.below hb).more hb.size, h2.low (hb.mono hB)⟩
theorem src_one {w : World} {B g : Nat} {ku vu : Value} {k v : List Int} (h1 : SB w B ku k) (h2 : SB w B vu v) (h : w.heap[g]? = some (.cells #[ku, vu] 47 (0, 0))) (hg : g < w.heap.size) : SrcS w B (some ⟨g, 0, none⟩) 1 [(k, v)] :=
  ⟨[ku, vu], ⟨(fun e => by cases e), fun j u hu => ⟨_, rfl, hg, by rw [Addr.add_mid, Nat.zero_add, cell_of_row _ _ _ _ _ _ h]; simpa using hu⟩⟩, .cons h1 h2 .nil⟩
theorem own_SBn {w : World} {base : Nat} {V : Value} {v : List Int} {n : Nat} (h : w.ownsRow base 5 1 V n (cellsOf v)) (hn : n = v.length) (hb : Byt v) : SB w w.heap.size V v := by
  subst hn
  exact own_SB h hb

set_option maxHeartbeats 6400000 in
theorem refPutC (A : Option Addr) (ls : List PR) (c : Nat) (Ak : Option Addr) (key : List Int) (ck : Nat) (Av : Option Addr) (val : List Int) (cv : Nat) (w : World) (hp : Prs w w.heap.size A c ls) (hc : ls.length ≤ c) (hm : c ≤ maxLen) (hk : SB w w.heap.size (.slice Ak key.length ck) key) (hv : SB w w.heap.size (.slice Av val.length cv) val) (hs : Sml ls) (hl : ls.length ≤ 100000) :
    Calls Try.prog 34 #[.slice A ls.length c, .slice Ak key.length ck, .slice Av val.length cv] w (PutR w (putR ls key val) (putE ls key val)) := by
  have hkl : key.length ≤ maxLen := by obtain ⟨_, _, e, h1, h2, _⟩ := hk; omega
  have hvl : val.length ≤ maxLen := by obtain ⟨_, _, e, h1, h2, _⟩ := hv; omega
  have HP := Lib.hid hp
  have HK := Lib.hid hk
  have HV := Lib.hid hv
  have hm' := hm
  unfold maxLen at hm hkl hvl
  by_cases h1 : 64 < key.length
  · have hE : putE ls key val = 1 := if_pos (.inl h1)
    have hR : putR ls key val = [] := if_neg (by rw [hE]; decide)
    rw [hE, hR]
    clear hE hR hp hk hv hs
    go_enter Try.func34, Try.ntmps34
    go_wp2
    go_ret2
    exact .none _ _ _ (Below.refl _ _)
  by_cases h2 : 256 < val.length
  · have hE : putE ls key val = 1 := if_pos (.inr h2)
    have hR : putR ls key val = [] := if_neg (by rw [hE]; decide)
    rw [hE, hR]
    clear hE hR hp hk hv hs
    go_enter Try.func34, Try.ntmps34
    go_wp2
    go_ret2
    exact .none _ _ _ (Below.refl _ _)
  have h3 : ¬(64 < key.length ∨ 256 < val.length) := by omega
  have HSP := Lib.hid (sml_putM hs hl (k := key) (v := val) (by omega) (by omega))
  have HFin : Hid ((2048 < szM (putM ls key val) → putE ls key val = 71 ∧ putR ls key val = []) ∧ (¬2048 < szM (putM ls key val) → putE ls key val = 0 ∧ putR ls key val = putM ls key val)) := by
    constructor
    · intro hz
      have hE : putE ls key val = 71 := by unfold putE; rw [if_neg h3, if_pos hz]
      exact ⟨hE, if_neg (by rw [hE]; decide)⟩
    · intro hz
      have hE : putE ls key val = 0 := by unfold putE; rw [if_neg h3, if_neg hz]
      exact ⟨hE, if_pos hE⟩
  have HMS0 := Lib.hid (putM_eq ls key val).symm
  clear hp hk hv hs h3
  generalize putE ls key val = E at *
  generalize putR ls key val = R at *
  generalize putM ls key val = ms at *
  obtain ⟨i0, hi, hz0, hz1, hz2⟩ := info_parts info5
  have HO1 := Lib.hid (own_empty w)
  have HL1 : Hid (∃ x, Lies (w.alloc (.cells #[] 5)) x Ak ck (cellsOf key)) := by
    obtain ⟨_, _, e, _, _, g, _⟩ := HK.out.on (below_alloc w (.cells #[] 5))
    injection e with e1 _ e2
    subst e1 e2
    exact ⟨_, g⟩
  obtain ⟨x1, HL1⟩ := HL1
  have HL1 := Lib.hid HL1
  go_enter Try.func34, Try.ntmps34
  go_wp2_with (first | (at_builtin; refine wpList_append_lies rfl (.tmp 19) (.tmp 20) 30 rfl w.heap.size 5 i0 (.int .u8 0) 1 Try.underlying30 hi hz0 hz1 hz2 rfl _ 0 [] rfl HO1.out x1 Ak key.length ck (cellsOf key) rfl (by simp) HL1.out (bytes_oneCell key) (by unfold maxLen; omega) (by omega) (by simp) ?_; intro v1 w1 ho hg; refine Hid.out ?_) | fail)
  refine Lib.hid ?_
  have B1 : Hid (Below w.heap.size w w1) := ((Below.refl w.heap.size w).alloc (Nat.le_refl _) _).grown hg (by simp) (fun k hk => (HO1.out.lt k hk).1)
  have S1 := Lib.hid (own_SBn ho (by simp) (show Byt ([] ++ key) by simpa using HK.out.byt))
  have S1 : Hid (SB w1 w1.heap.size v1 key) := by show SB _ _ _ _; simpa using S1.out
  obtain ⟨A1, k1, hV, _⟩ := S1.out
  subst hV
  clear ho hg HO1 HL1
  have HO1 := Lib.hid (own_empty w1)
  have HL1 : Hid (∃ x, Lies (w1.alloc (.cells #[] 5)) x Av cv (cellsOf val)) := by
    obtain ⟨_, _, e, _, _, g, _⟩ := (HV.out.on B1.out).on (below_alloc w1 (.cells #[] 5))
    injection e with e1 _ e2
    subst e1 e2
    exact ⟨_, g⟩
  obtain ⟨x2, HL1⟩ := HL1
  have HL1 := Lib.hid HL1
  go_wp2_with (first | (at_builtin; refine wpList_append_lies rfl (.tmp 22) (.tmp 23) 30 rfl w1.heap.size 5 i0 (.int .u8 0) 1 Try.underlying30 hi hz0 hz1 hz2 rfl _ 0 [] rfl HO1.out x2 Av val.length cv (cellsOf val) rfl (by simp) HL1.out (bytes_oneCell val) (by unfold maxLen; omega) (by omega) (by simp) ?_; intro v2 w3 ho hg; refine Hid.out ?_) | fail)
  refine Lib.hid ?_
  have C3 : Hid (Below w1.heap.size w1 w3) := ((Below.refl w1.heap.size w1).alloc (Nat.le_refl _) _).grown hg (by simp) (fun k hk => (HO1.out.lt k hk).1)
  have S2 := Lib.hid (own_SBn ho (by simp) (show Byt ([] ++ val) by simpa using HV.out.byt))
  have S2 : Hid (SB w3 w3.heap.size v2 val ∧ SB w3 w3.heap.size (.slice A1 key.length k1) key) := ⟨by simpa using S2.out, S1.out.on C3.out⟩
  obtain ⟨A2, k2, hV, _⟩ := S2.out.1
  subst hV
  have B3 := Lib.hid (B1.out.trans (C3.out.mono B1.out.size))
  clear ho hg HO1 HL1 S1
  have hb4 := below_alloc w3 (.cells #[.slice A1 key.length k1, .slice A2 val.length k2] 47)
  have HN4 := Lib.hid (heap_alloc_new w3 (.cells #[.slice A1 key.length k1, .slice A2 val.length k2] 47))
  have B4 : Hid (Below w.heap.size w (w3.alloc (.cells #[.slice A1 key.length k1, .slice A2 val.length k2] 47))) := B3.out.trans (hb4.mono B3.out.size)
  have S4 : Hid (SB (w3.alloc (.cells #[.slice A1 key.length k1, .slice A2 val.length k2] 47)) (w3.alloc (.cells #[.slice A1 key.length k1, .slice A2 val.length k2] 47)).heap.size (.slice A1 key.length k1) key ∧ SB (w3.alloc (.cells #[.slice A1 key.length k1, .slice A2 val.length k2] 47)) (w3.alloc (.cells #[.slice A1 key.length k1, .slice A2 val.length k2] 47)).heap.size (.slice A2 val.length k2) val) := ⟨S2.out.2.on hb4, S2.out.1.on hb4⟩
  have hlt4 : w3.heap.size < (w3.alloc (.cells #[.slice A1 key.length k1, .slice A2 val.length k2] 47)).heap.size := by simp
  have HLT4 := Lib.hid hlt4
  have K1 : Hid (∀ w', w' = w3.alloc (.cells #[.slice A1 key.length k1, .slice A2 val.length k2] 47) → Calls Try.prog 52 #[.slice A ls.length c, .slice Ak key.length ck] w' fun e w'' => e = .returned (.int .i64 (idxV (fun p => p.1 == key) ls)) ∧ Below w'.heap.size w' w'') := fun w' e => by
    subst e
    exact findC A ls c Ak key ck _ (HP.out.on B4.out) hc hm' (HK.out.on B4.out)
  clear hb4 hlt4 S2
  go_wp2_with fail
  (with_reducible refine (K1.out _ rfl).mono ?_)
  clear K1
  rintro e w5 ⟨rfl, hb⟩
  have B5 := Lib.hid (B4.out.trans (hb.mono B4.out.size))
  have HSB : Hid (∀ w', Below w5.heap.size w5 w' → SB w' w5.heap.size (.slice A1 key.length k1) key ∧ SB w' w5.heap.size (.slice A2 val.length k2) val) := fun w' hb' => ⟨(S4.out.1.on hb).below hb', (S4.out.2.on hb).below hb'⟩
  have HCC : Hid (∀ w', Below w5.heap.size w5 w' → w'.rangeAt w3.heap.size 0 [.slice A1 key.length k1, .slice A2 val.length k2]) := fun w' hb' => by
    have h4 := HLT4.out
    have h5 := hb.size
    intro j v hj
    rw [hb'.cell (by show w3.heap.size < _; omega), hb.cell (by show w3.heap.size < _; omega), cell_of_row _ _ _ _ _ _ HN4.out]
    simpa using hj
  have HD0 : Hid (∀ (w' : World) (base : Nat), DstF w' base w5.heap.size (.slice none 0 0) []) := fun w' base => ⟨[], .nil, World.ownsRow_nil w' base 47 2⟩
  have HX1g : Hid (∀ q, q ≤ ls.length → ∀ w', Below w5.heap.size w5 w' → Src w' w5.heap.size A c (ls.take q)) := fun q hq w' hb' => .of (((HP.out.on B5.out).below hb').head hq c (fun e => by subst e; exact (HP.out.none_nil).2))
  have HX2g : Hid (∀ q w', Below w5.heap.size w5 w' → Src w' w5.heap.size (if c = q then A else A.map (fun x => x.add (q * 2))) (c - q) (ls.drop q)) := fun q w' hb' => .of (((HP.out.on B5.out).part q hc).below hb')
  clear hb HN4 HLT4 S4 B4
  by_cases hf : fnd key ls < ls.length
  · have h0 : idxV (fun p => p.1 == key) ls = (fnd key ls : Nat) := if_pos hf
    have hA : spA key ls = fnd key ls := if_pos hf
    have hB : spB key ls = fnd key ls + 1 := if_pos hf
    rw [hA, hB] at HMS0
    have HMS := HMS0
    rw [h0]
    clear h0 hA hB HMS0
    generalize fnd key ls = q at *
    have HX1 := Lib.hid (HX1g.out q (by omega))
    have HX2 := Lib.hid (HX2g.out (q + 1))
    have f1 : q ≤ c := by omega
    have f2 : q + 1 ≤ ls.length := by omega
    have f3 : q + 1 ≤ c := by omega
    have ew : IntKind.i64.wrap ((q : Int) + 1) = (q : Int) + 1 := IntWalk.i64_in _ (by omega)
    have f4 : ((q : Int) + 1).toNat = q + 1 := by omega
    have f5 : (0 : Int) ≤ (q : Int) + 1 := by omega
    have f6 : (q : Int) + 1 ≤ (ls.length : Int) := by omega
    clear HX1g HX2g
    go_wp2_with fail
    have CD : Hid (Below w5.heap.size w5 w5.drew) := (Below.refl w5.heap.size w5).drew
    refine wp_region_held_drew (S := fun w' => w'.rangeAt w3.heap.size 0 [.slice A1 key.length k1, .slice A2 val.length k2]) (by kernel_rfl) (HCC.out _ CD.out) (fun hHeld => ?_)
    refine wpAnyH_take (i := 0) (v := ?vp1_1) rfl (by kernel_rfl) (by kernel_rfl) (by kernel_rfl) (fun _ _ _ h => h) (Or.inl ⟨by kernel_rfl, ?yp1_1⟩) (by assumption) ?rp1_1
    case yp1_1 => (intro w hSw; (try dsimp only at hSw); go_simp; (try with_reducible rfl))
    try simp only [Act.put, List.getElem_toArray, List.getElem_cons_zero, List.getElem_cons_succ, List.setIfInBounds_toArray, List.set_cons_zero, List.set_cons_succ]
    refine wpAnyH_take (i := 1) (v := ?vp1_2) rfl (by kernel_rfl) (by kernel_rfl) (by kernel_rfl) (fun _ _ _ h => h) (Or.inl ⟨by kernel_rfl, ?yp1_2⟩) (by assumption) ?rp1_2
    case yp1_2 => (intro w hSw; (try dsimp only at hSw); go_simp; (try with_reducible rfl))
    try simp only [Act.put, List.getElem_toArray, List.getElem_cons_zero, List.getElem_cons_succ, List.setIfInBounds_toArray, List.set_cons_zero, List.set_cons_succ]
    refine wpAnyH_take (i := 2) (v := ?vp1_3) rfl (by kernel_rfl) (by kernel_rfl) (by kernel_rfl) (fun _ _ _ h => h) (Or.inl ⟨by kernel_rfl, ?yp1_3⟩) (by assumption) ?rp1_3
    case yp1_3 => (intro w hSw; (try dsimp only at hSw); go_simp; (try with_reducible rfl))
    try simp only [Act.put, List.getElem_toArray, List.getElem_cons_zero, List.getElem_cons_succ, List.setIfInBounds_toArray, List.set_cons_zero, List.set_cons_succ]
    refine wpAnyH_take (i := 3) (v := ?vp1_4) rfl (by kernel_rfl) (by kernel_rfl) (by kernel_rfl) (fun _ _ _ h => h) (Or.inl ⟨by kernel_rfl, ?yp1_4⟩) (by assumption) ?rp1_4
    case yp1_4 => (intro w hSw; (try dsimp only at hSw); go_simp; (try with_reducible rfl))
    try simp only [Act.put, List.getElem_toArray, List.getElem_cons_zero, List.getElem_cons_succ, List.setIfInBounds_toArray, List.set_cons_zero, List.set_cons_succ]
    refine wpAnyH_take (i := 8) (v := ?vp1_5) rfl (by kernel_rfl) (by kernel_rfl) (by kernel_rfl) (fun _ _ _ h => h) (Or.inl ⟨by kernel_rfl, ?yp1_5⟩) (by assumption) ?rp1_5
    case yp1_5 => (intro w hSw; (try dsimp only at hSw); go_simp; (try with_reducible rfl))
    try simp only [Act.put, List.getElem_toArray, List.getElem_cons_zero, List.getElem_cons_succ, List.setIfInBounds_toArray, List.set_cons_zero, List.set_cons_succ]
    refine wpAnyH_take (i := 9) (v := ?vp1_6) rfl (by kernel_rfl) (by kernel_rfl) (by kernel_rfl) (fun _ _ _ h => h) (Or.inl ⟨by kernel_rfl, ?yp1_6⟩) (by assumption) ?rp1_6
    case yp1_6 => (intro w hSw; (try dsimp only at hSw); go_simp; (try with_reducible rfl))
    try simp only [Act.put, List.getElem_toArray, List.getElem_cons_zero, List.getElem_cons_succ, List.setIfInBounds_toArray, List.set_cons_zero, List.set_cons_succ]
    refine wpAnyH_take (i := 10) (v := ?vp1_7) rfl (by kernel_rfl) (by kernel_rfl) (by kernel_rfl) (fun _ _ _ h => h) (Or.inl ⟨by kernel_rfl, ?yp1_7⟩) (by assumption) ?rp1_7
    case yp1_7 => (intro w hSw; (try dsimp only at hSw); go_simp; (try with_reducible rfl))
    try simp only [Act.put, List.getElem_toArray, List.getElem_cons_zero, List.getElem_cons_succ, List.setIfInBounds_toArray, List.set_cons_zero, List.set_cons_succ]
    refine wpAnyH_take (i := 11) (v := ?vp1_8) rfl (by kernel_rfl) (by kernel_rfl) (by kernel_rfl) (fun _ _ _ h => h) (Or.inl ⟨by kernel_rfl, ?yp1_8⟩) (by assumption) ?rp1_8
    case yp1_8 => (intro w hSw; (try dsimp only at hSw); go_simp; (try with_reducible rfl))
    try simp only [Act.put, List.getElem_toArray, List.getElem_cons_zero, List.getElem_cons_succ, List.setIfInBounds_toArray, List.set_cons_zero, List.set_cons_succ]
    refine wpAnyH_take (i := 5) (v := .agg #[.slice A1 key.length k1, .slice A2 val.length k2]) rfl (by kernel_rfl) (by kernel_rfl) (by kernel_rfl) (fun _ _ _ h => h) (yieldsIf_load_mid (by kernel_rfl) 47 (.tmp 8) rfl w3.heap.size 0 rfl [.slice A1 key.length k1, .slice A2 val.length k2] _ (fun _ h => h) Try.underlying47 rfl info42s) (by assumption) ?_
    try simp only [Act.put, List.getElem_toArray, List.getElem_cons_zero, List.getElem_cons_succ, List.setIfInBounds_toArray, List.set_cons_zero, List.set_cons_succ]
    refine wpAnyH_ready (rs := [4, 6]) (by kernel_rfl) (by simp) ?_
    refine AllReadyH.cons rfl (fun K hK => ?_) (AllReadyH.cons rfl (fun K hK => ?_) AllReadyH.nil)
    · skip
      rw [if_pos (by rfl)]
      refine (HD0.out _ _).wp (Nat.le_refl _) CD.out.size (.tmp 31) (.tmp 34) rfl rfl rfl (HX1.out _ CD.out) (by rw [List.length_take]; omega) (by simp only [List.length_append, List.length_take, List.length_drop, List.length_cons, List.length_nil]; omega) ?_
      intro va wa hD hb
      rw [List.nil_append] at hD
      have HDa := Lib.hid hD
      have HBa : Hid (Below w5.heap.size w5 wa) := CD.out.trans hb
      refine hK.out _ _ (HCC.out _ HBa.out) (fun hHeld => ?_)
      clear hK K hD hb
      try simp only [Act.put, List.getElem_toArray, List.getElem_cons_zero, List.getElem_cons_succ, List.setIfInBounds_toArray, List.set_cons_zero, List.set_cons_succ]
      refine wpAnyH_ready (rs := [6]) (by kernel_rfl) (by simp) ?_
      refine AllReadyH.cons rfl (fun K hK => ?_) AllReadyH.nil
      go_simp
      have HB6 : Hid (Below w5.heap.size w5 (wa.alloc (.cells #[.slice A1 key.length k1, .slice A2 val.length k2] 47))) := HBa.out.trans ((below_alloc wa _).mono HBa.out.size)
      have HD6 := Lib.hid (HDa.out.on (below_alloc wa (.cells #[.slice A1 key.length k1, .slice A2 val.length k2] 47)) HBa.out.size)
      have HX6 : Hid (Src (wa.alloc (.cells #[.slice A1 key.length k1, .slice A2 val.length k2] 47)) w5.heap.size (some ⟨wa.heap.size, 0, none⟩) 1 [(key, val)]) := (src_one (HSB.out _ HB6.out).1 (HSB.out _ HB6.out).2 (heap_alloc_new wa _) (by simp)).src
      refine hK.out _ _ (HCC.out _ HB6.out) (fun hHeld => ?_)
      clear hK K
      generalize wa.alloc (.cells #[.slice A1 key.length k1, .slice A2 val.length k2] 47) = w6 at *
      refine wpAnyH_ready (rs := [7]) (by kernel_rfl) (by simp) ?_
      refine AllReadyH.cons rfl (fun K hK => ?_) AllReadyH.nil
      rw [if_pos (by rfl)]
      refine HD6.out.wp (Nat.le_refl _) HB6.out.size (.tmp 35) (.tmp 37) rfl rfl rfl HX6.out rfl (by simp only [List.length_append, List.length_take, List.length_drop, List.length_cons, List.length_nil]; omega) ?_
      intro vb wb hD hb
      have HDb := Lib.hid hD
      have HBb : Hid (Below w5.heap.size w5 wb) := HB6.out.trans hb
      refine hK.out _ _ (HCC.out _ HBb.out) (fun hHeld => ?_)
      clear hK K hD hb
      try simp only [Act.put, List.getElem_toArray, List.getElem_cons_zero, List.getElem_cons_succ, List.setIfInBounds_toArray, List.set_cons_zero, List.set_cons_succ]
      refine wpAnyH_ready (rs := [12]) (by kernel_rfl) (by simp) ?_
      refine AllReadyH.cons rfl (fun K hK => ?_) AllReadyH.nil
      rw [if_pos (by rfl)]
      refine HDb.out.wp (Nat.le_refl _) HBb.out.size (.tmp 38) (.tmp 42) rfl rfl rfl (HX2.out _ HBb.out) (by rw [List.length_drop]; first | done | omega) (by simp only [List.length_append, List.length_take, List.length_drop, List.length_cons, List.length_nil]; omega) ?_
      intro vf wf hD hb
      rw [HMS.out] at hD
      have HDf := Lib.hid hD
      have HBf : Hid (Below w5.heap.size w5 wf) := HBb.out.trans hb
      refine hK.out _ _ (HCC.out _ HBf.out) (fun hHeld => ?_)
      clear hK K hD hb
      try simp only [Act.put, List.getElem_toArray, List.getElem_cons_zero, List.getElem_cons_succ, List.setIfInBounds_toArray, List.set_cons_zero, List.set_cons_succ]
      refine wpAnyH_take (i := 13) (v := ?vp1_9) rfl (by kernel_rfl) (by kernel_rfl) (by kernel_rfl) (fun _ _ _ h => h) (Or.inl ⟨by kernel_rfl, ?yp1_9⟩) (by assumption) ?rp1_9
      case yp1_9 => (intro w hSw; (try dsimp only at hSw); go_simp; (try with_reducible rfl))
      try simp only [Act.put, List.getElem_toArray, List.getElem_cons_zero, List.getElem_cons_succ, List.setIfInBounds_toArray, List.set_cons_zero, List.set_cons_succ]
      refine wpAnyH_done (by kernel_rfl) ?_ _
      have HDF : Hid (DstF wf _ w5.heap.size vf ms ∧ Below w.heap.size w wf ∧ w5.heap.size ≤ wf.heap.size) := ⟨HDf.out, B5.out.trans (HBf.out.mono B5.out.size), HBf.out.size⟩
      clear hHeld
      go_wp2_with fail
      all_goals
        obtain ⟨A6, c6, e6, k1', k2', k3', k4'⟩ := HDF.out.1.prs HDF.out.2.2 (by have := HSP.out.1; omega)
        subst e6
        have K := Lib.hid (refSizeC A6 ms c6 wf k3' k1' k2' HSP.out.sz)
        have HPm : Hid (ms.length ≤ c6 ∧ c6 ≤ maxLen ∧ Prs wf wf.heap.size A6 c6 ms ∧ RowF wf A6) := ⟨k1', k2', k3', k4'⟩
        have hzz := HSP.out.sz
        clear k1' k2' k3' k4'
        by_cases hz : 2048 < szM ms
        · obtain ⟨e1, e2⟩ := HFin.out.1 hz
          subst e1 e2
          have hz' : (2048 : Int) < (szM ms : Int) := by omega
          generalize szM ms = z at *
          go_wp2_with fail
          (with_reducible refine K.out.mono ?_)
          clear K
          rintro e wg ⟨rfl, hb⟩
          have HG := Lib.hid (HDF.out.2.1.trans (hb.mono HDF.out.2.1.size))
          clear hb
          go_wp2
          go_ret2
          exact .none _ _ _ HG.out
        · obtain ⟨e1, e2⟩ := HFin.out.2 hz
          subst e1 e2
          have hz' : ¬(2048 : Int) < (szM R : Int) := by omega
          generalize szM R = z at *
          go_wp2_with fail
          (with_reducible refine K.out.mono ?_)
          clear K
          rintro e wg ⟨rfl, hb⟩
          have HG : Hid (Prs wg wg.heap.size A6 c6 R ∧ RowF wg A6 ∧ Below w.heap.size w wg) := ⟨HPm.out.2.2.1.on hb, HPm.out.2.2.2.on hb, HDF.out.2.1.trans (hb.mono HDF.out.2.1.size)⟩
          clear hb
          go_wp2
          go_ret2
          exact ⟨_, _, rfl, HPm.out.1, HPm.out.2.1, HG.out.1, HG.out.2.1, HG.out.2.2⟩
    · skip
      go_simp
      have HB6 : Hid (Below w5.heap.size w5 (w5.alloc (.cells #[.slice A1 key.length k1, .slice A2 val.length k2] 47)).drew) := ((Below.refl w5.heap.size w5).trans ((below_alloc w5 _).mono (Below.refl w5.heap.size w5).size)).drew
      have HX6 : Hid (SrcS (w5.alloc (.cells #[.slice A1 key.length k1, .slice A2 val.length k2] 47)).drew w5.heap.size (some ⟨w5.heap.size, 0, none⟩) 1 [(key, val)]) := src_one (HSB.out _ HB6.out).1 (HSB.out _ HB6.out).2 (heap_alloc_new w5 _) (by simp)
      refine hK.out _ _ (HCC.out _ HB6.out) (fun hHeld => ?_)
      clear hK K
      generalize (w5.alloc (.cells #[.slice A1 key.length k1, .slice A2 val.length k2] 47)).drew = w6 at *
      refine wpAnyH_ready (rs := [4]) (by kernel_rfl) (by simp) ?_
      refine AllReadyH.cons rfl (fun K hK => ?_) AllReadyH.nil
      rw [if_pos (by rfl)]
      refine (HD0.out w6 w6.heap.size).wp HB6.out.size (Nat.le_refl _) (.tmp 31) (.tmp 34) rfl rfl rfl (HX1.out _ HB6.out) (by rw [List.length_take]; omega) (by simp only [List.length_append, List.length_take, List.length_drop, List.length_cons, List.length_nil]; omega) ?_
      intro va wa hD hb
      rw [List.nil_append] at hD
      have HDa := Lib.hid hD
      have HBa : Hid (Below w5.heap.size w5 wa) := HB6.out.trans (hb.mono HB6.out.size)
      have HSa : Hid (w6.heap.size ≤ wa.heap.size) := hb.size
      refine hK.out _ _ (HCC.out _ HBa.out) (fun hHeld => ?_)
      have HKa := Lib.hid hb
      clear hK K hD hb
      try simp only [Act.put, List.getElem_toArray, List.getElem_cons_zero, List.getElem_cons_succ, List.setIfInBounds_toArray, List.set_cons_zero, List.set_cons_succ]
      have HX7 := Lib.hid (HX6.out.on HKa.out HB6.out.size).src
      refine wpAnyH_ready (rs := [7]) (by kernel_rfl) (by simp) ?_
      refine AllReadyH.cons rfl (fun K hK => ?_) AllReadyH.nil
      rw [if_pos (by rfl)]
      refine HDa.out.wp HB6.out.size HSa.out (.tmp 35) (.tmp 37) rfl rfl rfl HX7.out rfl (by simp only [List.length_append, List.length_take, List.length_drop, List.length_cons, List.length_nil]; omega) ?_
      intro vb wb hD hb
      have HDb := Lib.hid hD
      have HBb : Hid (Below w5.heap.size w5 wb) := HBa.out.trans (hb.mono HB6.out.size)
      have HSb : Hid (w6.heap.size ≤ wb.heap.size) := Nat.le_trans HSa.out hb.size
      refine hK.out _ _ (HCC.out _ HBb.out) (fun hHeld => ?_)
      clear hK K hD hb
      try simp only [Act.put, List.getElem_toArray, List.getElem_cons_zero, List.getElem_cons_succ, List.setIfInBounds_toArray, List.set_cons_zero, List.set_cons_succ]
      refine wpAnyH_ready (rs := [12]) (by kernel_rfl) (by simp) ?_
      refine AllReadyH.cons rfl (fun K hK => ?_) AllReadyH.nil
      rw [if_pos (by rfl)]
      refine HDb.out.wp HB6.out.size HSb.out (.tmp 38) (.tmp 42) rfl rfl rfl (HX2.out _ HBb.out) (by rw [List.length_drop]; first | done | omega) (by simp only [List.length_append, List.length_take, List.length_drop, List.length_cons, List.length_nil]; omega) ?_
      intro vf wf hD hb
      rw [HMS.out] at hD
      have HDf := Lib.hid hD
      have HBf : Hid (Below w5.heap.size w5 wf) := HBb.out.trans (hb.mono HB6.out.size)
      refine hK.out _ _ (HCC.out _ HBf.out) (fun hHeld => ?_)
      clear hK K hD hb
      try simp only [Act.put, List.getElem_toArray, List.getElem_cons_zero, List.getElem_cons_succ, List.setIfInBounds_toArray, List.set_cons_zero, List.set_cons_succ]
      refine wpAnyH_take (i := 13) (v := ?vp1_10) rfl (by kernel_rfl) (by kernel_rfl) (by kernel_rfl) (fun _ _ _ h => h) (Or.inl ⟨by kernel_rfl, ?yp1_10⟩) (by assumption) ?rp1_10
      case yp1_10 => (intro w hSw; (try dsimp only at hSw); go_simp; (try with_reducible rfl))
      try simp only [Act.put, List.getElem_toArray, List.getElem_cons_zero, List.getElem_cons_succ, List.setIfInBounds_toArray, List.set_cons_zero, List.set_cons_succ]
      refine wpAnyH_done (by kernel_rfl) ?_ _
      have HDF : Hid (DstF wf _ w5.heap.size vf ms ∧ Below w.heap.size w wf ∧ w5.heap.size ≤ wf.heap.size) := ⟨HDf.out, B5.out.trans (HBf.out.mono B5.out.size), HBf.out.size⟩
      clear hHeld
      go_wp2_with fail
      all_goals
        obtain ⟨A6, c6, e6, k1', k2', k3', k4'⟩ := HDF.out.1.prs HDF.out.2.2 (by have := HSP.out.1; omega)
        subst e6
        have K := Lib.hid (refSizeC A6 ms c6 wf k3' k1' k2' HSP.out.sz)
        have HPm : Hid (ms.length ≤ c6 ∧ c6 ≤ maxLen ∧ Prs wf wf.heap.size A6 c6 ms ∧ RowF wf A6) := ⟨k1', k2', k3', k4'⟩
        have hzz := HSP.out.sz
        clear k1' k2' k3' k4'
        by_cases hz : 2048 < szM ms
        · obtain ⟨e1, e2⟩ := HFin.out.1 hz
          subst e1 e2
          have hz' : (2048 : Int) < (szM ms : Int) := by omega
          generalize szM ms = z at *
          go_wp2_with fail
          (with_reducible refine K.out.mono ?_)
          clear K
          rintro e wg ⟨rfl, hb⟩
          have HG := Lib.hid (HDF.out.2.1.trans (hb.mono HDF.out.2.1.size))
          clear hb
          go_wp2
          go_ret2
          exact .none _ _ _ HG.out
        · obtain ⟨e1, e2⟩ := HFin.out.2 hz
          subst e1 e2
          have hz' : ¬(2048 : Int) < (szM R : Int) := by omega
          generalize szM R = z at *
          go_wp2_with fail
          (with_reducible refine K.out.mono ?_)
          clear K
          rintro e wg ⟨rfl, hb⟩
          have HG : Hid (Prs wg wg.heap.size A6 c6 R ∧ RowF wg A6 ∧ Below w.heap.size w wg) := ⟨HPm.out.2.2.1.on hb, HPm.out.2.2.2.on hb, HDF.out.2.1.trans (hb.mono HDF.out.2.1.size)⟩
          clear hb
          go_wp2
          go_ret2
          exact ⟨_, _, rfl, HPm.out.1, HPm.out.2.1, HG.out.1, HG.out.2.1, HG.out.2.2⟩
  · have h0 : idxV (fun p => p.1 == key) ls = -1 := if_neg hf
    have hA : spA key ls = bey key ls := if_neg hf
    have hB : spB key ls = bey key ls := if_neg hf
    rw [hA, hB] at HMS0
    rw [h0]
    have HNF : Hid (∀ p ∈ ls, p.1 ≠ key) := fun p hp => fnd_none hf hp
    clear h0 hA hB hf
    go_wp2
    go_loopw [9] (fun i wr => ∃ k : Nat, k ≤ ls.length ∧ i = .int .i64 k ∧ Hid (k ≤ bey key ls ∧ Below w5.heap.size w5 wr)) (fun i _ => ls.length - (intOf i).toNat)
    case atStart => exact ⟨0, Nat.zero_le _, rfl, Nat.zero_le _, Below.refl _ _⟩
    case round =>
      obtain ⟨k, hk, rfl, HR⟩ := hrel
      by_cases hlt : k < ls.length
      · have hg : ls[k]? = some ls[k] := List.getElem?_eq_getElem hlt
        generalize ls[k] = p at hg
        obtain ⟨b, o, Au, cu, Aw, cw, rfl, y1, y2, s1, s2, _⟩ := ((HP.out.on B5.out).on HR.out.2).at hg
        have d1 := fun n => (s1.drewN n).str
        have d2 := fun n => (((HK.out.on B5.out).on HR.out.2).drewN n).str
        have hse := str_eq s1.byt HK.out.byt
        have hsl := str_less s1.byt HK.out.byt
        have hne := HNF.out p (List.mem_of_getElem? hg)
        have hd : decide (k < ls.length) = true := by simpa using hlt
        have he : ((strOfNums p.1).toList == (strOfNums key).toList) = false := by rw [hse]; simpa using hne
        clear y2 s1 s2 hse
        rcases Int.lt_or_le (cmpB p.1 key) 0 with hcmp | hcmp
        · have hle : Op.bytesLess (strOfNums p.1).toList (strOfNums key).toList = true := by rw [hsl]; simpa using hcmp
          have HE : Hid (k + 1 ≤ bey key ls) := findIdx_no (f := fun p => decide (0 < cmpB p.1 key)) HR.out.1 hg (by simp; omega)
          clear hsl hcmp hne hg
          generalize strOfNums p.1 = t1 at *
          generalize strOfNums key = t2 at *
          go_wp2_with fail
          go_quiet (fail)
          go_wp2
          go_roundw
          case rel => exact ⟨k + 1, by omega, by go_num, HE.out, below_drewN HR.out.2 _⟩
          case measure => simp [intOf]; omega
        · have hle : Op.bytesLess (strOfNums p.1).toList (strOfNums key).toList = false := by rw [hsl]; simp; omega
          have hpos : 0 < cmpB p.1 key := by
            rcases cmpB_cases p.1 key with e | e | e
            · omega
            · exact absurd (cmpB_zero e) hne
            · omega
          have hbk : bey key ls = k := findIdx_yes (f := fun p => decide (0 < cmpB p.1 key)) HR.out.1 hg (by simpa using hpos)
          rw [hbk] at HMS0
          have HMS := HMS0
          have HX1 := Lib.hid (HX1g.out k hk)
          have HX2 := HX2g.out k
          simp only [Option.map_some, Addr.add_mid] at HX2
          have HX2 := Lib.hid HX2
          have HZn : Hid (∀ n, Below w5.heap.size w5 (wr.drewN n)) := fun n => below_drewN HR.out.2 n
          have f1 : k ≤ c := by omega
          clear hsl hcmp hne hg hpos hbk HMS0
          generalize strOfNums p.1 = t1 at *
          generalize strOfNums key = t2 at *
          go_wp2_with fail
          go_quiet (fail)
          rename_i nq
          have HZ := Lib.hid (HZn.out nq)
          clear HZn HX1g HX2g HR d1 d2 hle he hd y1
          generalize wr.drewN nq = wz at *
          go_wp2_with fail
          have CD : Hid (Below w5.heap.size w5 wz.drew) := HZ.out.drew
          refine wp_region_held_drew (S := fun w' => w'.rangeAt w3.heap.size 0 [.slice A1 key.length k1, .slice A2 val.length k2]) (by kernel_rfl) (HCC.out _ CD.out) (fun hHeld => ?_)
          refine wpAnyH_take (i := 0) (v := ?vp2_1) rfl (by kernel_rfl) (by kernel_rfl) (by kernel_rfl) (fun _ _ _ h => h) (Or.inl ⟨by kernel_rfl, ?yp2_1⟩) (by assumption) ?rp2_1
          case yp2_1 => (intro w hSw; (try dsimp only at hSw); go_simp; (try with_reducible rfl))
          try simp only [Act.put, List.getElem_toArray, List.getElem_cons_zero, List.getElem_cons_succ, List.setIfInBounds_toArray, List.set_cons_zero, List.set_cons_succ]
          refine wpAnyH_take (i := 1) (v := ?vp2_2) rfl (by kernel_rfl) (by kernel_rfl) (by kernel_rfl) (fun _ _ _ h => h) (Or.inl ⟨by kernel_rfl, ?yp2_2⟩) (by assumption) ?rp2_2
          case yp2_2 => (intro w hSw; (try dsimp only at hSw); go_simp; (try with_reducible rfl))
          try simp only [Act.put, List.getElem_toArray, List.getElem_cons_zero, List.getElem_cons_succ, List.setIfInBounds_toArray, List.set_cons_zero, List.set_cons_succ]
          refine wpAnyH_take (i := 2) (v := ?vp2_3) rfl (by kernel_rfl) (by kernel_rfl) (by kernel_rfl) (fun _ _ _ h => h) (Or.inl ⟨by kernel_rfl, ?yp2_3⟩) (by assumption) ?rp2_3
          case yp2_3 => (intro w hSw; (try dsimp only at hSw); go_simp; (try with_reducible rfl))
          try simp only [Act.put, List.getElem_toArray, List.getElem_cons_zero, List.getElem_cons_succ, List.setIfInBounds_toArray, List.set_cons_zero, List.set_cons_succ]
          refine wpAnyH_take (i := 3) (v := ?vp2_4) rfl (by kernel_rfl) (by kernel_rfl) (by kernel_rfl) (fun _ _ _ h => h) (Or.inl ⟨by kernel_rfl, ?yp2_4⟩) (by assumption) ?rp2_4
          case yp2_4 => (intro w hSw; (try dsimp only at hSw); go_simp; (try with_reducible rfl))
          try simp only [Act.put, List.getElem_toArray, List.getElem_cons_zero, List.getElem_cons_succ, List.setIfInBounds_toArray, List.set_cons_zero, List.set_cons_succ]
          refine wpAnyH_take (i := 8) (v := ?vp2_5) rfl (by kernel_rfl) (by kernel_rfl) (by kernel_rfl) (fun _ _ _ h => h) (Or.inl ⟨by kernel_rfl, ?yp2_5⟩) (by assumption) ?rp2_5
          case yp2_5 => (intro w hSw; (try dsimp only at hSw); go_simp; (try with_reducible rfl))
          try simp only [Act.put, List.getElem_toArray, List.getElem_cons_zero, List.getElem_cons_succ, List.setIfInBounds_toArray, List.set_cons_zero, List.set_cons_succ]
          refine wpAnyH_take (i := 9) (v := ?vp2_6) rfl (by kernel_rfl) (by kernel_rfl) (by kernel_rfl) (fun _ _ _ h => h) (Or.inl ⟨by kernel_rfl, ?yp2_6⟩) (by assumption) ?rp2_6
          case yp2_6 => (intro w hSw; (try dsimp only at hSw); go_simp; (try with_reducible rfl))
          try simp only [Act.put, List.getElem_toArray, List.getElem_cons_zero, List.getElem_cons_succ, List.setIfInBounds_toArray, List.set_cons_zero, List.set_cons_succ]
          refine wpAnyH_take (i := 10) (v := ?vp2_7) rfl (by kernel_rfl) (by kernel_rfl) (by kernel_rfl) (fun _ _ _ h => h) (Or.inl ⟨by kernel_rfl, ?yp2_7⟩) (by assumption) ?rp2_7
          case yp2_7 => (intro w hSw; (try dsimp only at hSw); go_simp; (try with_reducible rfl))
          try simp only [Act.put, List.getElem_toArray, List.getElem_cons_zero, List.getElem_cons_succ, List.setIfInBounds_toArray, List.set_cons_zero, List.set_cons_succ]
          refine wpAnyH_take (i := 5) (v := .agg #[.slice A1 key.length k1, .slice A2 val.length k2]) rfl (by kernel_rfl) (by kernel_rfl) (by kernel_rfl) (fun _ _ _ h => h) (yieldsIf_load_mid (by kernel_rfl) 47 (.tmp 8) rfl w3.heap.size 0 rfl [.slice A1 key.length k1, .slice A2 val.length k2] _ (fun _ h => h) Try.underlying47 rfl info42s) (by assumption) ?_
          try simp only [Act.put, List.getElem_toArray, List.getElem_cons_zero, List.getElem_cons_succ, List.setIfInBounds_toArray, List.set_cons_zero, List.set_cons_succ]
          refine wpAnyH_ready (rs := [4, 6]) (by kernel_rfl) (by simp) ?_
          refine AllReadyH.cons rfl (fun K hK => ?_) (AllReadyH.cons rfl (fun K hK => ?_) AllReadyH.nil)
          · skip
            rw [if_pos (by rfl)]
            refine (HD0.out _ _).wp (Nat.le_refl _) CD.out.size (.tmp 61) (.tmp 64) rfl rfl rfl (HX1.out _ CD.out) (by rw [List.length_take]; omega) (by simp only [List.length_append, List.length_take, List.length_drop, List.length_cons, List.length_nil]; omega) ?_
            intro va wa hD hb
            rw [List.nil_append] at hD
            have HDa := Lib.hid hD
            have HBa : Hid (Below w5.heap.size w5 wa) := CD.out.trans hb
            refine hK.out _ _ (HCC.out _ HBa.out) (fun hHeld => ?_)
            clear hK K hD hb
            try simp only [Act.put, List.getElem_toArray, List.getElem_cons_zero, List.getElem_cons_succ, List.setIfInBounds_toArray, List.set_cons_zero, List.set_cons_succ]
            refine wpAnyH_ready (rs := [6]) (by kernel_rfl) (by simp) ?_
            refine AllReadyH.cons rfl (fun K hK => ?_) AllReadyH.nil
            go_simp
            have HB6 : Hid (Below w5.heap.size w5 (wa.alloc (.cells #[.slice A1 key.length k1, .slice A2 val.length k2] 47))) := HBa.out.trans ((below_alloc wa _).mono HBa.out.size)
            have HD6 := Lib.hid (HDa.out.on (below_alloc wa (.cells #[.slice A1 key.length k1, .slice A2 val.length k2] 47)) HBa.out.size)
            have HX6 : Hid (Src (wa.alloc (.cells #[.slice A1 key.length k1, .slice A2 val.length k2] 47)) w5.heap.size (some ⟨wa.heap.size, 0, none⟩) 1 [(key, val)]) := (src_one (HSB.out _ HB6.out).1 (HSB.out _ HB6.out).2 (heap_alloc_new wa _) (by simp)).src
            refine hK.out _ _ (HCC.out _ HB6.out) (fun hHeld => ?_)
            clear hK K
            generalize wa.alloc (.cells #[.slice A1 key.length k1, .slice A2 val.length k2] 47) = w6 at *
            refine wpAnyH_ready (rs := [7]) (by kernel_rfl) (by simp) ?_
            refine AllReadyH.cons rfl (fun K hK => ?_) AllReadyH.nil
            rw [if_pos (by rfl)]
            refine HD6.out.wp (Nat.le_refl _) HB6.out.size (.tmp 65) (.tmp 67) rfl rfl rfl HX6.out rfl (by simp only [List.length_append, List.length_take, List.length_drop, List.length_cons, List.length_nil]; omega) ?_
            intro vb wb hD hb
            have HDb := Lib.hid hD
            have HBb : Hid (Below w5.heap.size w5 wb) := HB6.out.trans hb
            refine hK.out _ _ (HCC.out _ HBb.out) (fun hHeld => ?_)
            clear hK K hD hb
            try simp only [Act.put, List.getElem_toArray, List.getElem_cons_zero, List.getElem_cons_succ, List.setIfInBounds_toArray, List.set_cons_zero, List.set_cons_succ]
            refine wpAnyH_ready (rs := [11]) (by kernel_rfl) (by simp) ?_
            refine AllReadyH.cons rfl (fun K hK => ?_) AllReadyH.nil
            rw [if_pos (by rfl)]
            refine HDb.out.wp (Nat.le_refl _) HBb.out.size (.tmp 68) (.tmp 71) rfl rfl rfl (HX2.out _ HBb.out) (by rw [List.length_drop]; first | done | omega) (by simp only [List.length_append, List.length_take, List.length_drop, List.length_cons, List.length_nil]; omega) ?_
            intro vf wf hD hb
            rw [HMS.out] at hD
            have HDf := Lib.hid hD
            have HBf : Hid (Below w5.heap.size w5 wf) := HBb.out.trans hb
            refine hK.out _ _ (HCC.out _ HBf.out) (fun hHeld => ?_)
            clear hK K hD hb
            try simp only [Act.put, List.getElem_toArray, List.getElem_cons_zero, List.getElem_cons_succ, List.setIfInBounds_toArray, List.set_cons_zero, List.set_cons_succ]
            refine wpAnyH_take (i := 12) (v := ?vp2_8) rfl (by kernel_rfl) (by kernel_rfl) (by kernel_rfl) (fun _ _ _ h => h) (Or.inl ⟨by kernel_rfl, ?yp2_8⟩) (by assumption) ?rp2_8
            case yp2_8 => (intro w hSw; (try dsimp only at hSw); go_simp; (try with_reducible rfl))
            try simp only [Act.put, List.getElem_toArray, List.getElem_cons_zero, List.getElem_cons_succ, List.setIfInBounds_toArray, List.set_cons_zero, List.set_cons_succ]
            refine wpAnyH_done (by kernel_rfl) ?_ _
            have HDF : Hid (DstF wf _ w5.heap.size vf ms ∧ Below w.heap.size w wf ∧ w5.heap.size ≤ wf.heap.size) := ⟨HDf.out, B5.out.trans (HBf.out.mono B5.out.size), HBf.out.size⟩
            clear hHeld
            go_wp2_with fail
            all_goals
              obtain ⟨A6, c6, e6, k1', k2', k3', k4'⟩ := HDF.out.1.prs HDF.out.2.2 (by have := HSP.out.1; omega)
              subst e6
              have K := Lib.hid (refSizeC A6 ms c6 wf k3' k1' k2' HSP.out.sz)
              have HPm : Hid (ms.length ≤ c6 ∧ c6 ≤ maxLen ∧ Prs wf wf.heap.size A6 c6 ms ∧ RowF wf A6) := ⟨k1', k2', k3', k4'⟩
              have hzz := HSP.out.sz
              clear k1' k2' k3' k4'
              by_cases hz : 2048 < szM ms
              · obtain ⟨e1, e2⟩ := HFin.out.1 hz
                subst e1 e2
                have hz' : (2048 : Int) < (szM ms : Int) := by omega
                generalize szM ms = z at *
                go_wp2_with fail
                (with_reducible refine K.out.mono ?_)
                clear K
                rintro e wg ⟨rfl, hb⟩
                have HG := Lib.hid (HDF.out.2.1.trans (hb.mono HDF.out.2.1.size))
                clear hb
                go_wp2
                go_ret2
                exact .none _ _ _ HG.out
              · obtain ⟨e1, e2⟩ := HFin.out.2 hz
                subst e1 e2
                have hz' : ¬(2048 : Int) < (szM R : Int) := by omega
                generalize szM R = z at *
                go_wp2_with fail
                (with_reducible refine K.out.mono ?_)
                clear K
                rintro e wg ⟨rfl, hb⟩
                have HG : Hid (Prs wg wg.heap.size A6 c6 R ∧ RowF wg A6 ∧ Below w.heap.size w wg) := ⟨HPm.out.2.2.1.on hb, HPm.out.2.2.2.on hb, HDF.out.2.1.trans (hb.mono HDF.out.2.1.size)⟩
                clear hb
                go_wp2
                go_ret2
                exact ⟨_, _, rfl, HPm.out.1, HPm.out.2.1, HG.out.1, HG.out.2.1, HG.out.2.2⟩
          · skip
            go_simp
            have HB6 : Hid (Below w5.heap.size w5 (wz.alloc (.cells #[.slice A1 key.length k1, .slice A2 val.length k2] 47)).drew) := (HZ.out.trans ((below_alloc wz _).mono HZ.out.size)).drew
            have HX6 : Hid (SrcS (wz.alloc (.cells #[.slice A1 key.length k1, .slice A2 val.length k2] 47)).drew w5.heap.size (some ⟨wz.heap.size, 0, none⟩) 1 [(key, val)]) := src_one (HSB.out _ HB6.out).1 (HSB.out _ HB6.out).2 (heap_alloc_new wz _) (by simp)
            refine hK.out _ _ (HCC.out _ HB6.out) (fun hHeld => ?_)
            clear hK K
            generalize (wz.alloc (.cells #[.slice A1 key.length k1, .slice A2 val.length k2] 47)).drew = w6 at *
            refine wpAnyH_ready (rs := [4]) (by kernel_rfl) (by simp) ?_
            refine AllReadyH.cons rfl (fun K hK => ?_) AllReadyH.nil
            rw [if_pos (by rfl)]
            refine (HD0.out w6 w6.heap.size).wp HB6.out.size (Nat.le_refl _) (.tmp 61) (.tmp 64) rfl rfl rfl (HX1.out _ HB6.out) (by rw [List.length_take]; omega) (by simp only [List.length_append, List.length_take, List.length_drop, List.length_cons, List.length_nil]; omega) ?_
            intro va wa hD hb
            rw [List.nil_append] at hD
            have HDa := Lib.hid hD
            have HBa : Hid (Below w5.heap.size w5 wa) := HB6.out.trans (hb.mono HB6.out.size)
            have HSa : Hid (w6.heap.size ≤ wa.heap.size) := hb.size
            refine hK.out _ _ (HCC.out _ HBa.out) (fun hHeld => ?_)
            have HKa := Lib.hid hb
            clear hK K hD hb
            try simp only [Act.put, List.getElem_toArray, List.getElem_cons_zero, List.getElem_cons_succ, List.setIfInBounds_toArray, List.set_cons_zero, List.set_cons_succ]
            have HX7 := Lib.hid (HX6.out.on HKa.out HB6.out.size).src
            refine wpAnyH_ready (rs := [7]) (by kernel_rfl) (by simp) ?_
            refine AllReadyH.cons rfl (fun K hK => ?_) AllReadyH.nil
            rw [if_pos (by rfl)]
            refine HDa.out.wp HB6.out.size HSa.out (.tmp 65) (.tmp 67) rfl rfl rfl HX7.out rfl (by simp only [List.length_append, List.length_take, List.length_drop, List.length_cons, List.length_nil]; omega) ?_
            intro vb wb hD hb
            have HDb := Lib.hid hD
            have HBb : Hid (Below w5.heap.size w5 wb) := HBa.out.trans (hb.mono HB6.out.size)
            have HSb : Hid (w6.heap.size ≤ wb.heap.size) := Nat.le_trans HSa.out hb.size
            refine hK.out _ _ (HCC.out _ HBb.out) (fun hHeld => ?_)
            clear hK K hD hb
            try simp only [Act.put, List.getElem_toArray, List.getElem_cons_zero, List.getElem_cons_succ, List.setIfInBounds_toArray, List.set_cons_zero, List.set_cons_succ]
            refine wpAnyH_ready (rs := [11]) (by kernel_rfl) (by simp) ?_
            refine AllReadyH.cons rfl (fun K hK => ?_) AllReadyH.nil
            rw [if_pos (by rfl)]
            refine HDb.out.wp HB6.out.size HSb.out (.tmp 68) (.tmp 71) rfl rfl rfl (HX2.out _ HBb.out) (by rw [List.length_drop]; first | done | omega) (by simp only [List.length_append, List.length_take, List.length_drop, List.length_cons, List.length_nil]; omega) ?_
            intro vf wf hD hb
            rw [HMS.out] at hD
            have HDf := Lib.hid hD
            have HBf : Hid (Below w5.heap.size w5 wf) := HBb.out.trans (hb.mono HB6.out.size)
            refine hK.out _ _ (HCC.out _ HBf.out) (fun hHeld => ?_)
            clear hK K hD hb
            try simp only [Act.put, List.getElem_toArray, List.getElem_cons_zero, List.getElem_cons_succ, List.setIfInBounds_toArray, List.set_cons_zero, List.set_cons_succ]
            refine wpAnyH_take (i := 12) (v := ?vp2_9) rfl (by kernel_rfl) (by kernel_rfl) (by kernel_rfl) (fun _ _ _ h => h) (Or.inl ⟨by kernel_rfl, ?yp2_9⟩) (by assumption) ?rp2_9
            case yp2_9 => (intro w hSw; (try dsimp only at hSw); go_simp; (try with_reducible rfl))
            try simp only [Act.put, List.getElem_toArray, List.getElem_cons_zero, List.getElem_cons_succ, List.setIfInBounds_toArray, List.set_cons_zero, List.set_cons_succ]
            refine wpAnyH_done (by kernel_rfl) ?_ _
            have HDF : Hid (DstF wf _ w5.heap.size vf ms ∧ Below w.heap.size w wf ∧ w5.heap.size ≤ wf.heap.size) := ⟨HDf.out, B5.out.trans (HBf.out.mono B5.out.size), HBf.out.size⟩
            clear hHeld
            go_wp2_with fail
            all_goals
              obtain ⟨A6, c6, e6, k1', k2', k3', k4'⟩ := HDF.out.1.prs HDF.out.2.2 (by have := HSP.out.1; omega)
              subst e6
              have K := Lib.hid (refSizeC A6 ms c6 wf k3' k1' k2' HSP.out.sz)
              have HPm : Hid (ms.length ≤ c6 ∧ c6 ≤ maxLen ∧ Prs wf wf.heap.size A6 c6 ms ∧ RowF wf A6) := ⟨k1', k2', k3', k4'⟩
              have hzz := HSP.out.sz
              clear k1' k2' k3' k4'
              by_cases hz : 2048 < szM ms
              · obtain ⟨e1, e2⟩ := HFin.out.1 hz
                subst e1 e2
                have hz' : (2048 : Int) < (szM ms : Int) := by omega
                generalize szM ms = z at *
                go_wp2_with fail
                (with_reducible refine K.out.mono ?_)
                clear K
                rintro e wg ⟨rfl, hb⟩
                have HG := Lib.hid (HDF.out.2.1.trans (hb.mono HDF.out.2.1.size))
                clear hb
                go_wp2
                go_ret2
                exact .none _ _ _ HG.out
              · obtain ⟨e1, e2⟩ := HFin.out.2 hz
                subst e1 e2
                have hz' : ¬(2048 : Int) < (szM R : Int) := by omega
                generalize szM R = z at *
                go_wp2_with fail
                (with_reducible refine K.out.mono ?_)
                clear K
                rintro e wg ⟨rfl, hb⟩
                have HG : Hid (Prs wg wg.heap.size A6 c6 R ∧ RowF wg A6 ∧ Below w.heap.size w wg) := ⟨HPm.out.2.2.1.on hb, HPm.out.2.2.2.on hb, HDF.out.2.1.trans (hb.mono HDF.out.2.1.size)⟩
                clear hb
                go_wp2
                go_ret2
                exact ⟨_, _, rfl, HPm.out.1, HPm.out.2.1, HG.out.1, HG.out.2.1, HG.out.2.2⟩
      · obtain rfl : k = ls.length := by omega
        have hbk : bey key ls = ls.length := by have := bey_le key ls; have := HR.out.1; omega
        rw [hbk] at HMS0
        have HMS := HMS0
        have HX1 := Lib.hid (HX1g.out ls.length hk)
        have HX2 := Lib.hid (HX2g.out ls.length)
        have HZn : Hid (∀ n, Below w5.heap.size w5 (wr.drewN n)) := fun n => below_drewN HR.out.2 n
        have f1 : ls.length ≤ c := by omega
        have hd : decide (ls.length < ls.length) = false := by simp
        clear hbk HMS0
        go_wp2_with fail
        go_quiet (fail)
        rename_i nq
        have HZ := Lib.hid (HZn.out nq)
        clear HZn HX1g HX2g HR hd
        generalize wr.drewN nq = wz at *
        go_wp2_with fail
        have CD : Hid (Below w5.heap.size w5 wz.drew) := HZ.out.drew
        refine wp_region_held_drew (S := fun w' => w'.rangeAt w3.heap.size 0 [.slice A1 key.length k1, .slice A2 val.length k2]) (by kernel_rfl) (HCC.out _ CD.out) (fun hHeld => ?_)
        refine wpAnyH_take (i := 0) (v := ?vp3_1) rfl (by kernel_rfl) (by kernel_rfl) (by kernel_rfl) (fun _ _ _ h => h) (Or.inl ⟨by kernel_rfl, ?yp3_1⟩) (by assumption) ?rp3_1
        case yp3_1 => (intro w hSw; (try dsimp only at hSw); go_simp; (try with_reducible rfl))
        try simp only [Act.put, List.getElem_toArray, List.getElem_cons_zero, List.getElem_cons_succ, List.setIfInBounds_toArray, List.set_cons_zero, List.set_cons_succ]
        refine wpAnyH_take (i := 1) (v := ?vp3_2) rfl (by kernel_rfl) (by kernel_rfl) (by kernel_rfl) (fun _ _ _ h => h) (Or.inl ⟨by kernel_rfl, ?yp3_2⟩) (by assumption) ?rp3_2
        case yp3_2 => (intro w hSw; (try dsimp only at hSw); go_simp; (try with_reducible rfl))
        try simp only [Act.put, List.getElem_toArray, List.getElem_cons_zero, List.getElem_cons_succ, List.setIfInBounds_toArray, List.set_cons_zero, List.set_cons_succ]
        refine wpAnyH_take (i := 2) (v := ?vp3_3) rfl (by kernel_rfl) (by kernel_rfl) (by kernel_rfl) (fun _ _ _ h => h) (Or.inl ⟨by kernel_rfl, ?yp3_3⟩) (by assumption) ?rp3_3
        case yp3_3 => (intro w hSw; (try dsimp only at hSw); go_simp; (try with_reducible rfl))
        try simp only [Act.put, List.getElem_toArray, List.getElem_cons_zero, List.getElem_cons_succ, List.setIfInBounds_toArray, List.set_cons_zero, List.set_cons_succ]
        refine wpAnyH_take (i := 3) (v := ?vp3_4) rfl (by kernel_rfl) (by kernel_rfl) (by kernel_rfl) (fun _ _ _ h => h) (Or.inl ⟨by kernel_rfl, ?yp3_4⟩) (by assumption) ?rp3_4
        case yp3_4 => (intro w hSw; (try dsimp only at hSw); go_simp; (try with_reducible rfl))
        try simp only [Act.put, List.getElem_toArray, List.getElem_cons_zero, List.getElem_cons_succ, List.setIfInBounds_toArray, List.set_cons_zero, List.set_cons_succ]
        refine wpAnyH_take (i := 8) (v := ?vp3_5) rfl (by kernel_rfl) (by kernel_rfl) (by kernel_rfl) (fun _ _ _ h => h) (Or.inl ⟨by kernel_rfl, ?yp3_5⟩) (by assumption) ?rp3_5
        case yp3_5 => (intro w hSw; (try dsimp only at hSw); go_simp; (try with_reducible rfl))
        try simp only [Act.put, List.getElem_toArray, List.getElem_cons_zero, List.getElem_cons_succ, List.setIfInBounds_toArray, List.set_cons_zero, List.set_cons_succ]
        refine wpAnyH_take (i := 9) (v := ?vp3_6) rfl (by kernel_rfl) (by kernel_rfl) (by kernel_rfl) (fun _ _ _ h => h) (Or.inl ⟨by kernel_rfl, ?yp3_6⟩) (by assumption) ?rp3_6
        case yp3_6 => (intro w hSw; (try dsimp only at hSw); go_simp; (try with_reducible rfl))
        try simp only [Act.put, List.getElem_toArray, List.getElem_cons_zero, List.getElem_cons_succ, List.setIfInBounds_toArray, List.set_cons_zero, List.set_cons_succ]
        refine wpAnyH_take (i := 10) (v := ?vp3_7) rfl (by kernel_rfl) (by kernel_rfl) (by kernel_rfl) (fun _ _ _ h => h) (Or.inl ⟨by kernel_rfl, ?yp3_7⟩) (by assumption) ?rp3_7
        case yp3_7 => (intro w hSw; (try dsimp only at hSw); go_simp; (try with_reducible rfl))
        try simp only [Act.put, List.getElem_toArray, List.getElem_cons_zero, List.getElem_cons_succ, List.setIfInBounds_toArray, List.set_cons_zero, List.set_cons_succ]
        refine wpAnyH_take (i := 5) (v := .agg #[.slice A1 key.length k1, .slice A2 val.length k2]) rfl (by kernel_rfl) (by kernel_rfl) (by kernel_rfl) (fun _ _ _ h => h) (yieldsIf_load_mid (by kernel_rfl) 47 (.tmp 8) rfl w3.heap.size 0 rfl [.slice A1 key.length k1, .slice A2 val.length k2] _ (fun _ h => h) Try.underlying47 rfl info42s) (by assumption) ?_
        try simp only [Act.put, List.getElem_toArray, List.getElem_cons_zero, List.getElem_cons_succ, List.setIfInBounds_toArray, List.set_cons_zero, List.set_cons_succ]
        refine wpAnyH_ready (rs := [4, 6]) (by kernel_rfl) (by simp) ?_
        refine AllReadyH.cons rfl (fun K hK => ?_) (AllReadyH.cons rfl (fun K hK => ?_) AllReadyH.nil)
        · skip
          rw [if_pos (by rfl)]
          refine (HD0.out _ _).wp (Nat.le_refl _) CD.out.size (.tmp 61) (.tmp 64) rfl rfl rfl (HX1.out _ CD.out) (by rw [List.length_take]; omega) (by simp only [List.length_append, List.length_take, List.length_drop, List.length_cons, List.length_nil]; omega) ?_
          intro va wa hD hb
          rw [List.nil_append] at hD
          have HDa := Lib.hid hD
          have HBa : Hid (Below w5.heap.size w5 wa) := CD.out.trans hb
          refine hK.out _ _ (HCC.out _ HBa.out) (fun hHeld => ?_)
          clear hK K hD hb
          try simp only [Act.put, List.getElem_toArray, List.getElem_cons_zero, List.getElem_cons_succ, List.setIfInBounds_toArray, List.set_cons_zero, List.set_cons_succ]
          refine wpAnyH_ready (rs := [6]) (by kernel_rfl) (by simp) ?_
          refine AllReadyH.cons rfl (fun K hK => ?_) AllReadyH.nil
          go_simp
          have HB6 : Hid (Below w5.heap.size w5 (wa.alloc (.cells #[.slice A1 key.length k1, .slice A2 val.length k2] 47))) := HBa.out.trans ((below_alloc wa _).mono HBa.out.size)
          have HD6 := Lib.hid (HDa.out.on (below_alloc wa (.cells #[.slice A1 key.length k1, .slice A2 val.length k2] 47)) HBa.out.size)
          have HX6 : Hid (Src (wa.alloc (.cells #[.slice A1 key.length k1, .slice A2 val.length k2] 47)) w5.heap.size (some ⟨wa.heap.size, 0, none⟩) 1 [(key, val)]) := (src_one (HSB.out _ HB6.out).1 (HSB.out _ HB6.out).2 (heap_alloc_new wa _) (by simp)).src
          refine hK.out _ _ (HCC.out _ HB6.out) (fun hHeld => ?_)
          clear hK K
          generalize wa.alloc (.cells #[.slice A1 key.length k1, .slice A2 val.length k2] 47) = w6 at *
          refine wpAnyH_ready (rs := [7]) (by kernel_rfl) (by simp) ?_
          refine AllReadyH.cons rfl (fun K hK => ?_) AllReadyH.nil
          rw [if_pos (by rfl)]
          refine HD6.out.wp (Nat.le_refl _) HB6.out.size (.tmp 65) (.tmp 67) rfl rfl rfl HX6.out rfl (by simp only [List.length_append, List.length_take, List.length_drop, List.length_cons, List.length_nil]; omega) ?_
          intro vb wb hD hb
          have HDb := Lib.hid hD
          have HBb : Hid (Below w5.heap.size w5 wb) := HB6.out.trans hb
          refine hK.out _ _ (HCC.out _ HBb.out) (fun hHeld => ?_)
          clear hK K hD hb
          try simp only [Act.put, List.getElem_toArray, List.getElem_cons_zero, List.getElem_cons_succ, List.setIfInBounds_toArray, List.set_cons_zero, List.set_cons_succ]
          refine wpAnyH_ready (rs := [11]) (by kernel_rfl) (by simp) ?_
          refine AllReadyH.cons rfl (fun K hK => ?_) AllReadyH.nil
          rw [if_pos (by rfl)]
          refine HDb.out.wp (Nat.le_refl _) HBb.out.size (.tmp 68) (.tmp 71) rfl rfl rfl (HX2.out _ HBb.out) (by rw [List.length_drop]; first | done | omega) (by simp only [List.length_append, List.length_take, List.length_drop, List.length_cons, List.length_nil]; omega) ?_
          intro vf wf hD hb
          rw [HMS.out] at hD
          have HDf := Lib.hid hD
          have HBf : Hid (Below w5.heap.size w5 wf) := HBb.out.trans hb
          refine hK.out _ _ (HCC.out _ HBf.out) (fun hHeld => ?_)
          clear hK K hD hb
          try simp only [Act.put, List.getElem_toArray, List.getElem_cons_zero, List.getElem_cons_succ, List.setIfInBounds_toArray, List.set_cons_zero, List.set_cons_succ]
          refine wpAnyH_take (i := 12) (v := ?vp3_8) rfl (by kernel_rfl) (by kernel_rfl) (by kernel_rfl) (fun _ _ _ h => h) (Or.inl ⟨by kernel_rfl, ?yp3_8⟩) (by assumption) ?rp3_8
          case yp3_8 => (intro w hSw; (try dsimp only at hSw); go_simp; (try with_reducible rfl))
          try simp only [Act.put, List.getElem_toArray, List.getElem_cons_zero, List.getElem_cons_succ, List.setIfInBounds_toArray, List.set_cons_zero, List.set_cons_succ]
          refine wpAnyH_done (by kernel_rfl) ?_ _
          have HDF : Hid (DstF wf _ w5.heap.size vf ms ∧ Below w.heap.size w wf ∧ w5.heap.size ≤ wf.heap.size) := ⟨HDf.out, B5.out.trans (HBf.out.mono B5.out.size), HBf.out.size⟩
          clear hHeld
          go_wp2_with fail
          all_goals
            obtain ⟨A6, c6, e6, k1', k2', k3', k4'⟩ := HDF.out.1.prs HDF.out.2.2 (by have := HSP.out.1; omega)
            subst e6
            have K := Lib.hid (refSizeC A6 ms c6 wf k3' k1' k2' HSP.out.sz)
            have HPm : Hid (ms.length ≤ c6 ∧ c6 ≤ maxLen ∧ Prs wf wf.heap.size A6 c6 ms ∧ RowF wf A6) := ⟨k1', k2', k3', k4'⟩
            have hzz := HSP.out.sz
            clear k1' k2' k3' k4'
            by_cases hz : 2048 < szM ms
            · obtain ⟨e1, e2⟩ := HFin.out.1 hz
              subst e1 e2
              have hz' : (2048 : Int) < (szM ms : Int) := by omega
              generalize szM ms = z at *
              go_wp2_with fail
              (with_reducible refine K.out.mono ?_)
              clear K
              rintro e wg ⟨rfl, hb⟩
              have HG := Lib.hid (HDF.out.2.1.trans (hb.mono HDF.out.2.1.size))
              clear hb
              go_wp2
              go_ret2
              exact .none _ _ _ HG.out
            · obtain ⟨e1, e2⟩ := HFin.out.2 hz
              subst e1 e2
              have hz' : ¬(2048 : Int) < (szM R : Int) := by omega
              generalize szM R = z at *
              go_wp2_with fail
              (with_reducible refine K.out.mono ?_)
              clear K
              rintro e wg ⟨rfl, hb⟩
              have HG : Hid (Prs wg wg.heap.size A6 c6 R ∧ RowF wg A6 ∧ Below w.heap.size w wg) := ⟨HPm.out.2.2.1.on hb, HPm.out.2.2.2.on hb, HDF.out.2.1.trans (hb.mono HDF.out.2.1.size)⟩
              clear hb
              go_wp2
              go_ret2
              exact ⟨_, _, rfl, HPm.out.1, HPm.out.2.1, HG.out.1, HG.out.2.1, HG.out.2.2⟩
        · skip
          go_simp
          have HB6 : Hid (Below w5.heap.size w5 (wz.alloc (.cells #[.slice A1 key.length k1, .slice A2 val.length k2] 47)).drew) := (HZ.out.trans ((below_alloc wz _).mono HZ.out.size)).drew
          have HX6 : Hid (SrcS (wz.alloc (.cells #[.slice A1 key.length k1, .slice A2 val.length k2] 47)).drew w5.heap.size (some ⟨wz.heap.size, 0, none⟩) 1 [(key, val)]) := src_one (HSB.out _ HB6.out).1 (HSB.out _ HB6.out).2 (heap_alloc_new wz _) (by simp)
          refine hK.out _ _ (HCC.out _ HB6.out) (fun hHeld => ?_)
          clear hK K
          generalize (wz.alloc (.cells #[.slice A1 key.length k1, .slice A2 val.length k2] 47)).drew = w6 at *
          refine wpAnyH_ready (rs := [4]) (by kernel_rfl) (by simp) ?_
          refine AllReadyH.cons rfl (fun K hK => ?_) AllReadyH.nil
          rw [if_pos (by rfl)]
          refine (HD0.out w6 w6.heap.size).wp HB6.out.size (Nat.le_refl _) (.tmp 61) (.tmp 64) rfl rfl rfl (HX1.out _ HB6.out) (by rw [List.length_take]; omega) (by simp only [List.length_append, List.length_take, List.length_drop, List.length_cons, List.length_nil]; omega) ?_
          intro va wa hD hb
          rw [List.nil_append] at hD
          have HDa := Lib.hid hD
          have HBa : Hid (Below w5.heap.size w5 wa) := HB6.out.trans (hb.mono HB6.out.size)
          have HSa : Hid (w6.heap.size ≤ wa.heap.size) := hb.size
          refine hK.out _ _ (HCC.out _ HBa.out) (fun hHeld => ?_)
          have HKa := Lib.hid hb
          clear hK K hD hb
          try simp only [Act.put, List.getElem_toArray, List.getElem_cons_zero, List.getElem_cons_succ, List.setIfInBounds_toArray, List.set_cons_zero, List.set_cons_succ]
          have HX7 := Lib.hid (HX6.out.on HKa.out HB6.out.size).src
          refine wpAnyH_ready (rs := [7]) (by kernel_rfl) (by simp) ?_
          refine AllReadyH.cons rfl (fun K hK => ?_) AllReadyH.nil
          rw [if_pos (by rfl)]
          refine HDa.out.wp HB6.out.size HSa.out (.tmp 65) (.tmp 67) rfl rfl rfl HX7.out rfl (by simp only [List.length_append, List.length_take, List.length_drop, List.length_cons, List.length_nil]; omega) ?_
          intro vb wb hD hb
          have HDb := Lib.hid hD
          have HBb : Hid (Below w5.heap.size w5 wb) := HBa.out.trans (hb.mono HB6.out.size)
          have HSb : Hid (w6.heap.size ≤ wb.heap.size) := Nat.le_trans HSa.out hb.size
          refine hK.out _ _ (HCC.out _ HBb.out) (fun hHeld => ?_)
          clear hK K hD hb
          try simp only [Act.put, List.getElem_toArray, List.getElem_cons_zero, List.getElem_cons_succ, List.setIfInBounds_toArray, List.set_cons_zero, List.set_cons_succ]
          refine wpAnyH_ready (rs := [11]) (by kernel_rfl) (by simp) ?_
          refine AllReadyH.cons rfl (fun K hK => ?_) AllReadyH.nil
          rw [if_pos (by rfl)]
          refine HDb.out.wp HB6.out.size HSb.out (.tmp 68) (.tmp 71) rfl rfl rfl (HX2.out _ HBb.out) (by rw [List.length_drop]; first | done | omega) (by simp only [List.length_append, List.length_take, List.length_drop, List.length_cons, List.length_nil]; omega) ?_
          intro vf wf hD hb
          rw [HMS.out] at hD
          have HDf := Lib.hid hD
          have HBf : Hid (Below w5.heap.size w5 wf) := HBb.out.trans (hb.mono HB6.out.size)
          refine hK.out _ _ (HCC.out _ HBf.out) (fun hHeld => ?_)
          clear hK K hD hb
          try simp only [Act.put, List.getElem_toArray, List.getElem_cons_zero, List.getElem_cons_succ, List.setIfInBounds_toArray, List.set_cons_zero, List.set_cons_succ]
          refine wpAnyH_take (i := 12) (v := ?vp3_9) rfl (by kernel_rfl) (by kernel_rfl) (by kernel_rfl) (fun _ _ _ h => h) (Or.inl ⟨by kernel_rfl, ?yp3_9⟩) (by assumption) ?rp3_9
          case yp3_9 => (intro w hSw; (try dsimp only at hSw); go_simp; (try with_reducible rfl))
          try simp only [Act.put, List.getElem_toArray, List.getElem_cons_zero, List.getElem_cons_succ, List.setIfInBounds_toArray, List.set_cons_zero, List.set_cons_succ]
          refine wpAnyH_done (by kernel_rfl) ?_ _
          have HDF : Hid (DstF wf _ w5.heap.size vf ms ∧ Below w.heap.size w wf ∧ w5.heap.size ≤ wf.heap.size) := ⟨HDf.out, B5.out.trans (HBf.out.mono B5.out.size), HBf.out.size⟩
          clear hHeld
          go_wp2_with fail
          all_goals
            obtain ⟨A6, c6, e6, k1', k2', k3', k4'⟩ := HDF.out.1.prs HDF.out.2.2 (by have := HSP.out.1; omega)
            subst e6
            have K := Lib.hid (refSizeC A6 ms c6 wf k3' k1' k2' HSP.out.sz)
            have HPm : Hid (ms.length ≤ c6 ∧ c6 ≤ maxLen ∧ Prs wf wf.heap.size A6 c6 ms ∧ RowF wf A6) := ⟨k1', k2', k3', k4'⟩
            have hzz := HSP.out.sz
            clear k1' k2' k3' k4'
            by_cases hz : 2048 < szM ms
            · obtain ⟨e1, e2⟩ := HFin.out.1 hz
              subst e1 e2
              have hz' : (2048 : Int) < (szM ms : Int) := by omega
              generalize szM ms = z at *
              go_wp2_with fail
              (with_reducible refine K.out.mono ?_)
              clear K
              rintro e wg ⟨rfl, hb⟩
              have HG := Lib.hid (HDF.out.2.1.trans (hb.mono HDF.out.2.1.size))
              clear hb
              go_wp2
              go_ret2
              exact .none _ _ _ HG.out
            · obtain ⟨e1, e2⟩ := HFin.out.2 hz
              subst e1 e2
              have hz' : ¬(2048 : Int) < (szM R : Int) := by omega
              generalize szM R = z at *
              go_wp2_with fail
              (with_reducible refine K.out.mono ?_)
              clear K
              rintro e wg ⟨rfl, hb⟩
              have HG : Hid (Prs wg wg.heap.size A6 c6 R ∧ RowF wg A6 ∧ Below w.heap.size w wg) := ⟨HPm.out.2.2.1.on hb, HPm.out.2.2.2.on hb, HDF.out.2.1.trans (hb.mono HDF.out.2.1.size)⟩
              clear hb
              go_wp2
              go_ret2
              exact ⟨_, _, rfl, HPm.out.1, HPm.out.2.1, HG.out.1, HG.out.2.1, HG.out.2.2⟩
end Go.Proofs.Ytncbbjodianmoaa
