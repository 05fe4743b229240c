/- What the program's 'Parse' returns: the document's program, or the error and its place. Conditions: what is read lies in memory; the tables lie as the program lays them. -/
import Derived.Test.YtoicncfpoklanaaDoorQa
import Derived.Deep.DeepCutAuto
namespace Go.Proofs.YtoicncfpoklanaaDoor
open Go.RowKit
set_option maxRecDepth 100000
set_option linter.unusedSimpArgs false

/-- what 'Parse' makes of what was read -/
def parsedOf : Res (List Fu) → Parsed
  | .ok fs _ => ⟨0, fs, 0⟩
  | .bad c p => ⟨c, [], p⟩
theorem parsed_of {l : List Nat} (h : (lexed l).err = 0) : parsed l = parsedOf (programP l.length (lexed l).toks) := by
  unfold parsed
  rw [if_pos h]
  cases programP l.length (lexed l).toks <;> rfl

set_option maxHeartbeats 1600000 in
theorem parse (A : Option Addr) (l : List Nat) (c : Nat) (w : World) (hc : l.length ≤ c) (hcm : c ≤ maxLen) (hl : Lies w w.heap.size A c (bts l)) (hy : Byn l) (ht : Tab w) :
    Calls Tryd.prog 9 #[.slice A l.length c] w (ParseO w (parsed l)) := by
  have hmf : ∀ (fn : Fn) (first cap : Array Value) (w : World), (Instr.makeFunc fn first cap).run Tryd.prog w = .ok (.func fn first cap) w := fun _ _ _ _ => rfl
  have hcm' := hcm
  unfold maxLen at hcm'
  have b2 := below_two (Below.refl w.heap.size w) (Nat.le_refl _) (.cells #[.slice none 0 0] 26) (.cells #[.int .i64 0] 27)
  have s2 : ((w.alloc (.cells #[.slice none 0 0] 26)).alloc (.cells #[.int .i64 0] 27)).heap.size = w.heap.size + 2 := by simp
  have bt := below_alloc ((w.alloc (.cells #[.slice none 0 0] 26)).alloc (.cells #[.int .i64 0] 27)) (.cells #[.int .i64 0] 3)
  have b3 := b2.trans (bt.mono b2.size)
  have n0 : (((w.alloc (.cells #[.slice none 0 0] 26)).alloc (.cells #[.int .i64 0] 27)).alloc (.cells #[.int .i64 0] 3)).heap[w.heap.size]? = some (.cells #[.slice none 0 0] 26) := by
    rw [Below.heap_alloc _ _ _ (by simp; omega), Below.heap_alloc _ _ _ (by simp)]
    exact heap_alloc_new w _
  have n1 : (((w.alloc (.cells #[.slice none 0 0] 26)).alloc (.cells #[.int .i64 0] 27)).alloc (.cells #[.int .i64 0] 3)).heap[w.heap.size + 1]? = some (.cells #[.int .i64 0] 27) := by
    rw [Below.heap_alloc _ _ _ (by simp)]
    have := heap_alloc_new (w.alloc (.cells #[.slice none 0 0] 26)) (.cells #[.int .i64 0] 27)
    simpa using this
  have n2 : (((w.alloc (.cells #[.slice none 0 0] 26)).alloc (.cells #[.int .i64 0] 27)).alloc (.cells #[.int .i64 0] 3)).heap[w.heap.size + 1 + 1]? = some (.cells #[.int .i64 0] 3) := by
    have := heap_alloc_new ((w.alloc (.cells #[.slice none 0 0] 26)).alloc (.cells #[.int .i64 0] 27)) (.cells #[.int .i64 0] 3)
    simpa using this
  have K := Lib.hid (lex A l c _ hc hcm ((hl.below b3).more b3.size) hy (ht.below b3 ht.1))
  have HB := Lib.hid b3
  have HN : Hid (VarAt (((w.alloc (.cells #[.slice none 0 0] 26)).alloc (.cells #[.int .i64 0] 27)).alloc (.cells #[.int .i64 0] 3)) w.heap.size [.slice none 0 0] ∧ VarAt (((w.alloc (.cells #[.slice none 0 0] 26)).alloc (.cells #[.int .i64 0] 27)).alloc (.cells #[.int .i64 0] 3)) (w.heap.size + 1) [.int .i64 0] ∧ VarAt (((w.alloc (.cells #[.slice none 0 0] 26)).alloc (.cells #[.int .i64 0] 27)).alloc (.cells #[.int .i64 0] 3)) (w.heap.size + 1 + 1) [.int .i64 0]) := ⟨VarAt.block (cs := [_]) n0, VarAt.block (cs := [_]) n1, VarAt.block (cs := [_]) n2⟩
  have s3 : (((w.alloc (.cells #[.slice none 0 0] 26)).alloc (.cells #[.int .i64 0] 27)).alloc (.cells #[.int .i64 0] 3)).heap.size = w.heap.size + 3 := by simp
  have HY := Lib.hid hy
  clear hl hy ht b2 bt b3 n0 n1 n2 s2 hcm
  go_enter_defers Tryd.func9, Tryd.ntmps9
  go_wp2_with fail
  generalize ((w.alloc (.cells #[.slice none 0 0] 26)).alloc (.cells #[.int .i64 0] 27)).alloc (.cells #[.int .i64 0] 3) = w0 at *
  refine K.out.mono ?_
  clear K
  rintro e' w1 ⟨v, rfl, hown, hb1⟩
  obtain ⟨Av, cv, rfl⟩ := own_shape hown
  have s1 := hb1.size
  have V0 := HN.out.1.of (hb1.block _ (by omega))
  have V1 := HN.out.2.1.of (hb1.block _ (by omega))
  have V2 := HN.out.2.2.of (hb1.block _ (by omega))
  obtain ⟨e1, f1⟩ := V1.cell 0 _ rfl
  obtain ⟨e2, f2⟩ := V2.cell 0 _ rfl
  by_cases herr : (lexed l).err = 0
  · have hne : ((((lexed l).err : Nat) : Int) != 0) = false := by rw [herr]; rfl
    have HP := Lib.hid (parsed_of herr)
    have HV : Hid (VarAt w1 w.heap.size [.slice none 0 0] ∧ VarAt w1 (w.heap.size + 1) [.int .i64 0] ∧ VarAt w1 (w.heap.size + 1 + 1) [.int .i64 0]) := ⟨V0, V1, V2⟩
    have HB1 := Lib.hid (HB.out.trans (hb1.mono (by omega)))
    have HO := Lib.hid hown
    have hmany := lexed_many l
    have HNm := Lib.hid (lexed_names HY.out)
    clear hown hb1 V0 V1 V2 herr
    generalize (lexed l).err = er at *
    generalize (lexed l).place = pl at *
    generalize (lexed l).toks = ts at *
    go_upto_region 4 with fail
    have vb := (HV.out.2.1.set 0 (.int .i64 er)).of (set_other (b := w.heap.size + 1 + 1) (i := 0) (u := .int .i64 pl) _ (by omega))
    have vc := (HV.out.2.2.of (set_other (b := w.heap.size + 1) (i := 0) (u := .int .i64 er) _ (by omega))).set 0 (.int .i64 pl)
    have va := (HV.out.1.of (set_other (b := w.heap.size + 1) (i := 0) (u := .int .i64 er) _ (by omega))).of (set_other (b := w.heap.size + 1 + 1) (i := 0) (u := .int .i64 pl) _ (by omega))
    have hB3 := (HB1.out.setCell (p := ⟨w.heap.size + 1, 0, none⟩) (by show w.heap.size ≤ w.heap.size + 1; omega) (.int .i64 er)).setCell (p := ⟨w.heap.size + 1 + 1, 0, none⟩) (by show w.heap.size ≤ w.heap.size + 1 + 1; omega) (.int .i64 pl)
    have hsz : ((w1.setCell ⟨w.heap.size + 1, 0, none⟩ (.int .i64 er)).setCell ⟨w.heap.size + 1 + 1, 0, none⟩ (.int .i64 pl)).heap.size = w1.heap.size := by rw [set_size, set_size]
    have hO3 : ((w1.setCell ⟨w.heap.size + 1, 0, none⟩ (.int .i64 er)).setCell ⟨w.heap.size + 1 + 1, 0, none⟩ (.int .i64 pl)).ownsRow w0.heap.size 77 4 (.slice Av ts.length cv) ts.length (toksC ts) := by
      refine ⟨HO.out.1, ?_⟩
      rcases HO.out.2 with h' | ⟨g, cap, cur, e, hb, hg, rest⟩
      · exact .inl h'
      · exact .inr ⟨g, cap, cur, e, hb, by rw [set_other g (by omega), set_other g (by omega)]; exact hg, rest⟩
    clear e1 f1 e2 f2 HV HO HB1
    generalize (w1.setCell ⟨w.heap.size + 1, 0, none⟩ (.int .i64 er)).setCell ⟨w.heap.size + 1 + 1, 0, none⟩ (.int .i64 pl) = w3 at *
    obtain ⟨S, hS1, hS2, hS3, hS4⟩ := own_src (z := l.length) (R := w3.heap.size) hO3 (fun t h => (HNm.out t h).1) (Nat.le_refl _)
    have bR := below_alloc w3 (.cells #[.slice Av ts.length cv, .int .i64 0, .int .i64 l.length] 59)
    have hAt : At (w3.alloc (.cells #[.slice Av ts.length cv, .int .i64 0, .int .i64 l.length] 59)) w3.heap.size S ts := by
      refine ⟨hS4.of fun k hk => bR.block k hk, 0, Nat.zero_le _, by rw [hS1]; rfl, ?_⟩
      rw [heap_alloc_new]
      unfold rdO
      rw [hS3, hS2]
      rfl
    have K := Lib.hid (program w3.heap.size S (by rw [hS1]; omega) ts _ hAt)
    rw [hS2] at K
    have HV3 : Hid (VarAt w3 w.heap.size [.slice none 0 0] ∧ VarAt w3 (w.heap.size + 1) [.int .i64 er] ∧ VarAt w3 (w.heap.size + 1 + 1) [.int .i64 pl]) := ⟨va, vb, vc⟩
    have HB3 := Lib.hid (hB3.trans (bR.mono hB3.size))
    have sR : (w3.alloc (.cells #[.slice Av ts.length cv, .int .i64 0, .int .i64 l.length] 59)).heap.size = w3.heap.size + 1 := by simp
    have HbR := Lib.hid bR
    have HSZ := Lib.hid hsz
    have HSR := Lib.hid sR
    have HS3 := Lib.hid s3
    clear va vb vc hB3 hO3 hS1 hS3 hS4 bR hAt hsz sR s3
    go_wp2_with fail
    generalize w3.alloc (.cells #[.slice Av ts.length cv, .int .i64 0, .int .i64 l.length] 59) = wR at *
    (with_reducible refine K.out.mono ?_)
    clear K
    rintro e' w5 ⟨hm, ⟨fs, r5, pv, hr, rfl, hq, ha5⟩ | ⟨cc, q, hr, rfl⟩⟩
    · have hsz := HSZ.out
      have sR := HSR.out
      have s3 := HS3.out
      have VR : VarAt w5 w.heap.size [.slice none 0 0] ∧ VarAt w5 (w.heap.size + 1) [.int .i64 er] ∧ VarAt w5 (w.heap.size + 1 + 1) [.int .i64 pl] :=
        ⟨HV3.out.1.of ((hm.block' (by omega) (by omega)).trans (HbR.out.block _ (by omega))), HV3.out.2.1.of ((hm.block' (by omega) (by omega)).trans (HbR.out.block _ (by omega))), HV3.out.2.2.of ((hm.block' (by omega) (by omega)).trans (HbR.out.block _ (by omega)))⟩
      obtain ⟨V, rfl, hF⟩ := hq
      obtain ⟨aV, nV, cV, rfl⟩ : ∃ a n c, V = .slice a n c := by
        obtain ⟨_, _, ⟨a, c, h, _⟩, _⟩ := hF
        exact ⟨a, _, c, h⟩
      have HP2 : Hid (parsed l = ⟨0, fs, 0⟩) := by show _ = _; rw [HP.out, hr]; rfl
      have HB5 : Hid (Below w.heap.size w w5) := HB3.out.trans ⟨hm.os, hm.tape, hm.output, hm.size, fun k hk => hm.block' (by omega) (by omega)⟩
      have HF : Hid (FusC w5 (Rng (w.heap.size + 3) w5.heap.size) fs (.slice aV nV cV)) := hF.more fun k hk => ⟨by have := hk.1; omega, hk.2⟩
      have HVR := Lib.hid VR
      clear hm hr hsz sR s3 hF ha5 VR
      go_wp2_with (refine wpList_storeN info26s rfl (.tmp 2) (.tmp 25) rfl rfl w.heap.size rfl [_] rfl rfl HVR.out.1.2 (by simp [Value.oneCell']) ?_; intro w7 g1 g2 g3 g4 g5; refine Hid.out ?_)
      refine Lib.hid ?_
      have v1 := HVR.out.2.1.of (g4 (w.heap.size + 1) (by omega))
      have v2 := HVR.out.2.2.of (g4 (w.heap.size + 1 + 1) (by omega))
      obtain ⟨e1, f1⟩ := v1.cell 0 _ rfl
      obtain ⟨e2, f2⟩ := v2.cell 0 _ rfl
      have HG : Hid (VarAt w7 w.heap.size [.slice aV nV cV] ∧ VarAt w7 (w.heap.size + 1) [.int .i64 er] ∧ VarAt w7 (w.heap.size + 1 + 1) [.int .i64 pl] ∧ Below w.heap.size w w7 ∧ FusC w7 (Rng (w.heap.size + 3) w7.heap.size) fs (.slice aV nV cV)) :=
        ⟨⟨g1, g2⟩, v1, v2, HB5.out.trans g3, (HF.out.same fun q h => g4 q (by have := h.1; omega)).more fun q h => ⟨h.1, by rw [g5]; exact h.2⟩⟩
      clear g1 g2 g3 g4 g5 v1 v2
      go_wp2
      have va := (HG.out.1.of (set_other (b := w.heap.size + 1) (i := 0) (u := .int .i64 0) _ (by omega))).of (set_other (b := w.heap.size + 1 + 1) (i := 0) (u := .int .i64 0) _ (by omega))
      have vb := (HG.out.2.1.set 0 (.int .i64 0)).of (set_other (b := w.heap.size + 1 + 1) (i := 0) (u := .int .i64 0) _ (by omega))
      have vc := (HG.out.2.2.1.of (set_other (b := w.heap.size + 1) (i := 0) (u := .int .i64 0) _ (by omega))).set 0 (.int .i64 0)
      have hbe := (HG.out.2.2.2.1.setCell (p := ⟨w.heap.size + 1, 0, none⟩) (by show w.heap.size ≤ w.heap.size + 1; omega) (.int .i64 0)).setCell (p := ⟨w.heap.size + 1 + 1, 0, none⟩) (by show w.heap.size ≤ w.heap.size + 1 + 1; omega) (.int .i64 0)
      have hfu : FusC ((w7.setCell ⟨w.heap.size + 1, 0, none⟩ (.int .i64 0)).setCell ⟨w.heap.size + 1 + 1, 0, none⟩ (.int .i64 0)) (Rng (w.heap.size + 3) w7.heap.size) fs (.slice aV nV cV) :=
        HG.out.2.2.2.2.same fun q h => by rw [set_other q (by have := h.1; omega), set_other q (by have := h.1; omega)]
      have hsz7 : ((w7.setCell ⟨w.heap.size + 1, 0, none⟩ (.int .i64 0)).setCell ⟨w.heap.size + 1 + 1, 0, none⟩ (.int .i64 0)).heap.size = w7.heap.size := by rw [set_size, set_size]
      generalize (w7.setCell ⟨w.heap.size + 1, 0, none⟩ (.int .i64 0)).setCell ⟨w.heap.size + 1 + 1, 0, none⟩ (.int .i64 0) = w8 at *
      refine leaves_cons (f := 14) (args := #[.pointer (some ⟨w.heap.size, 0, none⟩), .pointer (some ⟨w.heap.size + 1, 0, none⟩), .pointer (some ⟨w.heap.size + 1 + 1, 0, none⟩)]) (by simp) (by simp [go_sem]) ?_
      refine (catch_idle ⟨w.heap.size, 0, none⟩ ⟨w.heap.size + 1, 0, none⟩ ⟨w.heap.size + 1 + 1, 0, none⟩ w8).mono ?_
      rintro e' u' w9 ⟨rfl, rfl, rfl⟩
      exact ⟨_, ret_parse _ _ w.heap.size (w.heap.size + 1) (w.heap.size + 1 + 1) (.slice aV nV cV) 0 0 rfl rfl rfl va vb vc, .slice aV nV cV, by rw [HP2.out]; rfl, by rw [HP2.out]; exact hfu.more fun q h => ⟨by have := h.1; omega, by rw [hsz7]; exact h.2⟩, hbe⟩
    · have hsz := HSZ.out
      have sR := HSR.out
      have s3 := HS3.out
      have VR : VarAt w5 w.heap.size [.slice none 0 0] ∧ VarAt w5 (w.heap.size + 1) [.int .i64 er] ∧ VarAt w5 (w.heap.size + 1 + 1) [.int .i64 pl] :=
        ⟨HV3.out.1.of ((hm.block' (by omega) (by omega)).trans (HbR.out.block _ (by omega))), HV3.out.2.1.of ((hm.block' (by omega) (by omega)).trans (HbR.out.block _ (by omega))), HV3.out.2.2.of ((hm.block' (by omega) (by omega)).trans (HbR.out.block _ (by omega)))⟩
      have HP2 : Hid (parsed l = ⟨cc, [], q⟩) := by show _ = _; rw [HP.out, hr]; rfl
      have HB5 : Hid (Below w.heap.size w w5) := HB3.out.trans ⟨hm.os, hm.tape, hm.output, hm.size, fun k hk => hm.block' (by omega) (by omega)⟩
      clear hm hr hsz sR s3
      go_wp2
      refine leaves_cons (f := 14) (args := #[.pointer (some ⟨w.heap.size, 0, none⟩), .pointer (some ⟨w.heap.size + 1, 0, none⟩), .pointer (some ⟨w.heap.size + 1 + 1, 0, none⟩)]) (by simp) (by simp [go_sem]) ?_
      refine (catch_panicking w.heap.size (w.heap.size + 1) (w.heap.size + 1 + 1) cc q [] w5 _ _ _ VR.1 VR.2.1 VR.2.2 (by omega) (by omega) (by omega)).mono ?_
      rintro e' u' w6 ⟨rfl, rfl, v1, v2, v3, hbel⟩
      refine ⟨_, ret_parse _ _ w.heap.size (w.heap.size + 1) (w.heap.size + 1 + 1) (.slice none 0 0) cc q rfl rfl rfl v1 v2 v3, .slice none 0 0, by rw [HP2.out], by rw [HP2.out]; exact FusC.nothing _ _, HB5.out.trans (hbel _ (Nat.le_refl _) (by omega) (by omega))⟩
  · have hne : ((((lexed l).err : Nat) : Int) != 0) = true := by rw [bne_iff_ne]; omega
    have HO := Lib.hid hown
    have HV : Hid (VarAt w1 w.heap.size [.slice none 0 0] ∧ VarAt w1 (w.heap.size + 1) [.int .i64 0] ∧ VarAt w1 (w.heap.size + 1 + 1) [.int .i64 0]) := ⟨V0, V1, V2⟩
    have HB1 := Lib.hid (HB.out.trans (hb1.mono (by omega)))
    have HP : Hid (parsed l = ⟨(lexed l).err, [], (lexed l).place⟩) := by show _ = _; unfold parsed; rw [if_neg herr]
    obtain ⟨e0, f0⟩ := V0.cell 0 _ rfl
    clear hown hb1 V0 V1 V2 herr
    generalize (lexed l).err = er at *
    generalize (lexed l).place = pl at *
    go_wp2_with fail
    go_region
    go_wp2
    have va := ((((HV.out.1.of (set_other (b := w.heap.size + 1) (i := 0) (u := .int .i64 er) _ (by omega))).of (set_other (b := w.heap.size + 1 + 1) (i := 0) (u := .int .i64 pl) _ (by omega))).set 0 (.slice none 0 0)).of (set_other (b := w.heap.size + 1) (i := 0) (u := .int .i64 er) _ (by omega))).of (set_other (b := w.heap.size + 1 + 1) (i := 0) (u := .int .i64 pl) _ (by omega))
    have vb := ((((HV.out.2.1.set 0 (.int .i64 er)).of (set_other (b := w.heap.size + 1 + 1) (i := 0) (u := .int .i64 pl) _ (by omega))).of (set_other (b := w.heap.size) (i := 0) (u := .slice none 0 0) _ (by omega))).set 0 (.int .i64 er)).of (set_other (b := w.heap.size + 1 + 1) (i := 0) (u := .int .i64 pl) _ (by omega))
    have vc := ((((HV.out.2.2.of (set_other (b := w.heap.size + 1) (i := 0) (u := .int .i64 er) _ (by omega))).set 0 (.int .i64 pl)).of (set_other (b := w.heap.size) (i := 0) (u := .slice none 0 0) _ (by omega))).of (set_other (b := w.heap.size + 1) (i := 0) (u := .int .i64 er) _ (by omega))).set 0 (.int .i64 pl)
    refine ⟨_, ret_parse _ _ w.heap.size (w.heap.size + 1) (w.heap.size + 1 + 1) (.slice none 0 0) er pl rfl rfl rfl (va.of rfl) (vb.of rfl) (vc.of rfl), .slice none 0 0, by rw [HP.out], by rw [HP.out]; exact FusC.nothing _ _, ?_⟩
    exact (((((HB1.out.setCell (p := ⟨w.heap.size + 1, 0, none⟩) (by show w.heap.size ≤ w.heap.size + 1; omega) _).setCell (p := ⟨w.heap.size + 1 + 1, 0, none⟩) (by show w.heap.size ≤ w.heap.size + 1 + 1; omega) _).setCell (p := ⟨w.heap.size, 0, none⟩) (Nat.le_refl _) _).setCell (p := ⟨w.heap.size + 1, 0, none⟩) (by show w.heap.size ≤ w.heap.size + 1; omega) _).setCell (p := ⟨w.heap.size + 1 + 1, 0, none⟩) (by show w.heap.size ≤ w.heap.size + 1 + 1; omega) _).drew
end Go.Proofs.YtoicncfpoklanaaDoor
