/- TypesName: its walk. Conditions: the text lies in memory; the tables lie as the program lays them. -/
import Derived.Test.YtfcpabhkconjmaaGreatDoorZi
import Derived.Test.YtfcpabhkconjmaaGreatDoorZj
import Derived.Test.YtfcpabhkconjmaaGreatDoorZl
namespace Go.Proofs.YtfcpabhkconjmaaGreatDoor
open Go.RowKit
set_option maxRecDepth 100000
set_option linter.unusedSimpArgs false
set_option linter.unusedVariables false

/-- Front, of any text; bodies are short -/
theorem frontZ2 (A : Option Addr) (l : List Nat) (n c : Nat) (w : World) (hn : l.length = n) (hc : n ≤ c) (hcm : c ≤ maxLen) (hl : Lies w w.heap.size A c (bts l)) (hy : Byn l) (ht : Tab w) :
    ∃ (fs : List Fu) (err place : Int), (err = 0 → progM (fs.map toXf) = none ∧ fs.length ≤ 64) ∧ (∀ f ∈ fs, WF f ∧ f.body.length ≤ 2048) ∧
      Calls Tryz.prog 14 #[.slice A n c] w fun e w' => ∃ V, e = .returned (.tuple #[.agg #[V], .int .i64 err, .int .i64 place]) ∧ FusC w' (Rng w.heap.size w'.heap.size) fs V ∧ Below w.heap.size w w' := by
  rcases hp : parsed l with ⟨err, fs, place⟩
  have hw := parsed_well l
  have hb := parsed_body l
  have hok := parsed_ok l
  rw [hp] at hw hok hb
  have K := frontC A l n c w hn hc hcm hl hy ht err place fs hp hok
  refine ⟨(frontR err fs place).funcs, (frontR err fs place).err, (frontR err fs place).place, ?_, ?_, K⟩
  · intro h
    have hz : progM ((frontR err fs place).funcs.map toXf) = none := by
      unfold frontR at h ⊢
      by_cases h0 : err = 0
      · rw [if_pos h0] at h ⊢
        by_cases h1 : (checkM (fs.map toXf)).1 = 0
        · rw [if_pos h1]
          exact (checkM_zero _).1 h1
        · rw [if_neg h1] at h
          exact absurd h h1
      · rw [if_neg h0] at h
        exact absurd (Int.ofNat.inj h) h0
    exact ⟨hz, by have := (progM_parts hz).1; simpa using this⟩
  · intro f hf
    unfold frontR at hf
    by_cases h0 : err = 0
    · rw [if_pos h0] at hf
      by_cases h1 : (checkM (fs.map toXf)).1 = 0
      · rw [if_pos h1] at hf
        exact ⟨hw f hf, hb f hf⟩
      · rw [if_neg h1] at hf
        cases hf
    · rw [if_neg h0] at hf
      cases hf

theorem toX_ks {w : World} {D : Nat → Prop} {l : List Fu} {ks : List Two} {V : Value} (h1 : ks.length = l.length) (h2 : RowF w D l.length (fusC l ks) V) (h3 : ∀ (i : Nat) (f : Fu) (k : Two), l[i]? = some f → ks[i]? = some k → FuK w D f k) (ho : ∀ f ∈ l, okF f = true) : XfsC w D (l.map toXf) ks V := by
  refine ⟨by simpa using h1, by rw [fusC_toX]; simpa using h2, fun i f k hf hk => ?_⟩
  rw [List.getElem?_map] at hf
  cases hx : l[i]? with
  | none => rw [hx] at hf; cases hf
  | some x =>
    rw [hx] at hf
    injection hf with hf
    subst hf
    obtain ⟨g1, g2⟩ := h3 i x k hx hk
    have := ho x (List.mem_of_getElem? hx)
    simp only [okF, Bool.and_eq_true] at this
    refine ⟨bynB_iff.1 this.1.1, ?_, ?_, g2.toX this.2⟩
    · show RowF w D (x.params.map _).length (xpsC (x.params.map _)) k.p
      rw [pasC_toX]
      simpa using g1
    · intro p hp
      simp only [toXf] at hp
      obtain ⟨q, hq, rfl⟩ := List.mem_map.1 hp
      exact bynB_iff.1 (by have h9 := List.all_eq_true.1 this.1.2 q hq; exact h9)
theorem XssC.inv {w : World} {D : Nat → Prop} {l : List Xs} {V : Value} (h : XssC w D l V) : ∃ ks : List Three, ks.length = l.length ∧ RowF w D l.length (xssC l ks) V ∧ (∀ s ∈ l, Byn s.text) ∧ (∀ (i : Nat) (s : Xs) (k : Three), l[i]? = some s → ks[i]? = some k → XesC w D s.exprs k.e) ∧ (∀ (i : Nat) (s : Xs) (k : Three), l[i]? = some s → ks[i]? = some k → XssC w D s.body k.b) ∧ (∀ (i : Nat) (s : Xs) (k : Three), l[i]? = some s → ks[i]? = some k → XssC w D s.els k.f) := by
  cases h with
  | mk l ks V hk h1 ht he hb hf => exact ⟨ks, hk, h1, ht, he, hb, hf⟩
theorem XfK.moreK {w w' : World} {f : Xf} {k : Two} (h : XfK w (· < w.heap.size) f k) (hb : Below w.heap.size w w') : XfK w' (· < w'.heap.size) f k := by
  have h1 := h.same (w' := w') fun q hq => hb.block q hq
  have hm : ∀ q, q < w.heap.size → q < w'.heap.size := fun q hq => Nat.lt_of_lt_of_le hq hb.size
  exact ⟨h1.name, h1.params.more hm, h1.names, h1.body.morez hm⟩
/-- one expression without kids, in a block of its own: where it lies -/
theorem xes_oneD {w : World} {g : Nat} {e : Xe} (h : w.rangeAt g 0 (xeC e (.slice none 0 0))) (hk : e.kids = []) (ht : Byn e.text) : XesC w (fun q => q = g) [e] (.slice (some ⟨g, 0, none⟩) 1 1) := by
  refine .mk [e] [.slice none 0 0] _ rfl (range_row (by simpa [xesC] using h) rfl (Nat.le_refl _) (by unfold maxLen; simp)) (fun x hx => by rw [List.mem_singleton.1 hx]; exact ht) ?_
  intro i x k h1 h2
  have hi : i = 0 := by have := (List.getElem?_eq_some_iff.1 h1).1; simpa using this
  subst hi
  simp at h1 h2
  subst h1 h2
  rw [hk]
  exact XesC.none _ _
/-- a row of functions of the call's own, in block b7, and a variable, in block qb, that holds it -/
structure QRw (w4 wx : World) (b7 qb n c7 : Nat) (cs : List Value) : Prop where
  old : Below w4.heap.size w4 wx
  row : VarAt wx b7 cs
  var : VarAt wx qb [.slice (some ⟨b7, 0, none⟩) n c7]
  hb : w4.heap.size ≤ b7
  hq : w4.heap.size ≤ qb
  ne : b7 ≠ qb
  lt : b7 < wx.heap.size
theorem QRw.below {w4 wx wy : World} {b7 qb n c7 : Nat} {cs : List Value} (h : QRw w4 wx b7 qb n c7 cs) (hb : Below wx.heap.size wx wy) : QRw w4 wy b7 qb n c7 cs :=
  ⟨h.old.trans (hb.mono h.old.size), h.row.of (hb.block _ h.lt), h.var.of (hb.block _ (h.var.lt (by simp))), h.hb, h.hq, h.ne, Nat.lt_of_lt_of_le h.lt hb.size⟩
theorem QRw.drew {w4 wx : World} {b7 qb n c7 : Nat} {cs : List Value} (h : QRw w4 wx b7 qb n c7 cs) : QRw w4 wx.drew b7 qb n c7 cs := h.below (Below.refl _ _).drew
theorem QRw.store {w4 wx : World} {b7 qb n c7 : Nat} {cs : List Value} (h : QRw w4 wx b7 qb n c7 cs) (i : Nat) (v : Value) : QRw w4 (wx.setCell ⟨b7, i, none⟩ v) b7 qb n c7 (cs.set i v) :=
  ⟨h.old.trans (set_below.mono h.hb), h.row.set i v, h.var.of (set_other _ (Ne.symm h.ne)), h.hb, h.hq, h.ne, by rw [set_size]; exact h.lt⟩
theorem own_var {w : World} {base n : Nat} {V : Value} {xs : List Value} (h : w.ownsRow base 36 5 V n xs) (hn : 0 < n) : ∃ b c, V = .slice (some ⟨b, 0, none⟩) n c ∧ base ≤ b ∧ n ≤ c ∧ c ≤ maxLen ∧ VarAt w b xs ∧ b < w.heap.size := by
  obtain ⟨hl, ⟨_, h0⟩ | ⟨g, cap, cur, rfl, h1, h2, h3, h4, h5, h6⟩⟩ := h
  · omega
  · have hr := range_of (cs := cur.toList) (by simpa using h2)
    have ht := there_cells (cs := cur.toList) (n := cur.size) (by simpa using h2) (by simp)
    refine ⟨g, cap, rfl, h1, h3, h4, ⟨fun j v hv => hr j v ?_, fun j hj => ht j ?_⟩, (Array.getElem?_eq_some_iff.1 h2).1⟩
    · rw [← h6, List.getElem?_take] at hv
      split at hv
      · exact hv
      · cases hv
    · rw [hl] at hj
      rw [h5]
      exact Nat.lt_of_lt_of_le hj (Nat.mul_le_mul_right _ h3)
theorem set_at {l : List Value} {i : Nat} {u v : Value} (h : l[i]? = some u) : (l.set i v)[i]? = some v := by
  have := (List.getElem?_eq_some_iff.1 h).1
  rw [List.getElem?_set, if_pos rfl, if_pos this]
/-- what is known of the body that is put behind a statement -/
def OldB (w4 : World) (m : Nat) (lb : List Xs) (kb : List Three) (V : Value) : Prop :=
  (xssC lb kb).length = m * 6 ∧ (∀ y ∈ xssC lb kb, y.oneCell' = true) ∧ m ≤ 2048 ∧ RowF w4 (· < w4.heap.size) m (xssC lb kb) V ∧ lb.length = m ∧ kb.length = lb.length ∧ (∀ s ∈ lb, Byn s.text) ∧
    (∀ (i : Nat) (s : Xs) (k : Three), lb[i]? = some s → kb[i]? = some k → XesC w4 (· < w4.heap.size) s.exprs k.e) ∧ (∀ (i : Nat) (s : Xs) (k : Three), lb[i]? = some s → kb[i]? = some k → XssC w4 (· < w4.heap.size) s.body k.b) ∧ (∀ (i : Nat) (s : Xs) (k : Three), lb[i]? = some s → kb[i]? = some k → XssC w4 (· < w4.heap.size) s.els k.f)
/-- the body with a statement ahead, behind the store -/
theorem body_new {w4 wd wc : World} {b7 qb n c7 m i p : Nat} {cs : List Value} {lb : List Xs} {kb : List Three} {V v : Value} (ho : OldB w4 m lb kb V) {s : Xs} {e : Xe} {Ac : Option Addr} {cc : Nat} {scs : List Value} {Ve : Value}
    (hs1 : s.exprs = [e]) (hs2 : Byn s.text) (hs3 : s.body = []) (hs4 : s.els = []) (hs5 : scs = xsC s Ve (.slice none 0 0) (.slice none 0 0)) (hq : QRw w4 wd b7 qb n c7 cs) (hbc : Below wd.heap.size wd wc)
    (hown : wc.ownsRow wd.heap.size 48 6 (.slice Ac (1 + m) cc) (1 + m) (scs ++ xssC lb kb)) (hV : XesC wc (fun q => q = i) [e] Ve) (hi : i ≠ b7) (hic : i < wc.heap.size) :
    XssC (wc.setCell ⟨b7, p, none⟩ v) (fun q => q < (wc.setCell ⟨b7, p, none⟩ v).heap.size) (s :: lb) (.slice Ac (1 + m) cc) := by
  obtain ⟨_, _, _, _, hl, hk, ht, he, hb, hf⟩ := ho
  have hold := hq.old.trans (hbc.mono hq.old.size)
  have hD : ∀ q, q < w4.heap.size → (q ≠ b7 ∧ q < wc.heap.size) := fun q h => ⟨by have := hq.hb; omega, Nat.lt_of_lt_of_le h hold.size⟩
  have hS : Same (fun q => q < w4.heap.size) w4 wc := fun q h => hold.block q h
  have X : XssC wc (fun q => q ≠ b7 ∧ q < wc.heap.size) (s :: lb) (.slice Ac (1 + m) cc) := by
    refine xss_ahead (k := ⟨Ve, .slice none 0 0, .slice none 0 0⟩) (ks := kb) (n := 1 + m) (by omega) hk ?_ hs2 ?_ ?_ ?_ ht (fun i s k a b => ((he i s k a b).same hS).morez hD) (fun i s k a b => ((hb i s k a b).same hS).morez hD) (fun i s k a b => ((hf i s k a b).same hS).morez hD)
    · have := (RowF.own hown).more (D' := fun q => q ≠ b7 ∧ q < wc.heap.size) (fun q h => ⟨by have := hq.lt; have := h.1; omega, h.2⟩)
      rw [hs5] at this
      exact this
    · rw [hs1]
      exact hV.morez fun q h => by subst h; exact ⟨hi, hic⟩
    · rw [hs3]; exact XssC.none _ _
    · rw [hs4]; exact XssC.none _ _
  exact (X.same fun q h => set_other q h.1).morez fun q h => by rw [set_size]; exact h.2

set_option maxHeartbeats 800000 in
theorem name_walk (A : Option Addr) (l : List Nat) (c : Nat) (u : Nat) (w : World) (hu : u < 256) (hc : l.length ≤ c) (hcm : c ≤ maxLen) (hl : Lies w w.heap.size A c (bts l)) (hy : Byn l) (ht : Tab w) :
    Calls Tryz.prog 6 #[.slice A l.length c, .int .u8 (u : Int)] w fun e w' => e = .returned (.bool true) ∧ Below w.heap.size w w' := by
  have HT := Lib.hid ht
  have hpos := ht.1
  have K := Lib.hid (head5_true w ht)
  have HL := Lib.hid hl
  have HY := Lib.hid hy
  have HCm := Lib.hid hcm
  unfold maxLen at hcm
  clear ht hl hy
  go_enter Tryz.func6, Tryz.ntmps6
  go_wp2_with fail
  (with_reducible refine K.out.mono ?_)
  clear K
  rintro e w1 ⟨rfl, hb1⟩
  have BW1 := Lib.hid hb1
  have s1 := hb1.size
  clear hb1
  obtain ⟨fa, ea, pa, ga1, ga2, K⟩ := frontZ2 A l l.length c w1 rfl hc HCm.out ((HL.out.below BW1.out).more s1) HY.out (HT.out.below BW1.out hpos)
  have HA : Hid ((ea = 0 → progM (fa.map toXf) = none ∧ fa.length ≤ 64) ∧ ∀ f ∈ fa, WF f ∧ f.body.length ≤ 2048) := ⟨ga1, ga2⟩
  have HK := Lib.hid K
  clear ga1 ga2 K
  go_wp2_with fail
  (with_reducible refine HK.out.mono ?_)
  clear HK
  rintro e w2 ⟨V, rfl, hf2, hb2⟩
  obtain ⟨A2, c2, rfl⟩ := fusC_slice5 hf2
  have s2 := hb2.size
  have b2a := below_alloc w2 (.cells #[.slice A2 fa.length c2] 26)
  have s2a := b2a.size
  have BW2 := Lib.hid ((BW1.out.trans (hb2.mono s1)).trans (b2a.mono (by omega)))
  have HF2 : Hid (FusC w2 (· < w2.heap.size) fa (.slice A2 fa.length c2)) := hf2.more fun k hk => hk.2
  have HV2 := Lib.hid (heap_alloc_new w2 (.cells #[.slice A2 fa.length c2] 26))
  have HB2a := Lib.hid b2a
  have x2 : (w2.alloc (.cells #[.slice A2 fa.length c2] 26)).cell? ⟨w2.heap.size, 0, none⟩ = some (.slice A2 fa.length c2) := by rw [cell_of_row _ _ _ _ _ _ (heap_alloc_new w2 _)]; rfl
  clear hf2 hb2 b2a
  by_cases he : ea = 0
  · have q1 : (ea != 0) = false := by rw [he]; rfl
    have HPa := Lib.hid (HA.out.1 he)
    by_cases he' : fa.length = 0
    · have q2 : ((fa.length : Int) == 0) = true := by rw [he']; rfl
      clear he he'
      go_wp2
      go_ret
      exact ⟨rfl, BW2.out⟩
    · have q2 : ((fa.length : Int) == 0) = false := by rw [beq_eq_false_iff_ne]; omega
      have q3 : ¬ ((fa.length : Int) = 0) := by omega
      clear he
      go_upto_region 6 with fail
      have hkk : ((u : Int) % (fa.length : Int)) = ((u % fa.length : Nat) : Int) := by simp
      have hklt : u % fa.length < fa.length := Nat.mod_lt _ (by omega)
      rw [hkk]
      clear hkk
      generalize u % fa.length = k at *
      generalize w2.alloc (.cells #[.slice A2 fa.length c2] 26) = w4 at *
      have l2 : w2.heap.size < w4.heap.size := (Array.getElem?_eq_some_iff.1 HV2.out).1
      have hfa : FusC w4 (· < w4.heap.size) fa (.slice A2 fa.length c2) := (HF2.out.same fun k hk => HB2a.out.block k hk).more fun k hk => by omega
      obtain ⟨ka, hka, hra, hfa⟩ := hfa
      have HW := Lib.hid HA.out.2
      have hX := toX_ks hka hra hfa (fun f hf => okF_of (HW.out f hf).1)
      have HNm := Lib.hid (named_toX fun f hf => (HW.out f hf).1)
      have HP := Lib.hid HPa.out.1
      have hn64 := HPa.out.2
      obtain ⟨_, _, hXk⟩ := hX
      have hone := fusC_one fa ka hka hfa
      have hlen := fusC_len fa ka hka
      obtain ⟨pb, po, c2', eA, _, _, hpbl, hpc⟩ := hra.plain5 (by intro e0; rw [e0] at hlen; simp at hlen; omega)
      injection eA with eA _ eC
      subst eA eC
      have HRa := Lib.hid hra
      have HOne := Lib.hid hone
      have HLe := Lib.hid hlen
      obtain ⟨fu, hfu⟩ : ∃ f, fa[k]? = some f := ⟨_, List.getElem?_eq_getElem hklt⟩
      obtain ⟨q, hq⟩ : ∃ q, ka[k]? = some q := ⟨_, List.getElem?_eq_getElem (by omega)⟩
      have hfs : (fa.map toXf)[k]? = some (toXf fu) := by rw [List.getElem?_map, hfu]; rfl
      have hbl := (HW.out fu (List.mem_of_getElem? hfu)).2
      have hq3 : (fusC fa ka)[k * 5 + 3]? = some q.b := (zip_get (f := fun (s : Fu) (k : Two) => fuC s k.p k.b) (m := 5) (fun _ _ => rfl) fa ka k 3 fu q hfu hq (by omega)).trans rfl
      have hb3 := hpc _ _ hq3
      have hbody := (hXk k _ q hfs hq).body
      have hbm : (toXf fu).body.length = fu.body.length := toXss_len fu.body
      obtain ⟨kb, z1, z2, z3, z4, z5, z6⟩ := hbody.inv
      obtain ⟨Ab, cb, eb⟩ := z2.slice5
      have hOld : Hid (OldB w4 fu.body.length (toXf fu).body kb q.b) := ⟨by rw [xssC_lenz _ kb z1, hbm], xssC_onez _ kb z1 z4 z5 z6, hbl, by rw [← hbm]; exact z2, hbm, z1, z3, z4, z5, z6⟩
      rw [eb, hbm] at hOld hb3
      have hOld2 : Hid (ka.length = (fa.map toXf).length ∧ (fa.map toXf)[k]? = some (toXf fu) ∧ ka[k]? = some q ∧ (fa.map toXf).length = fa.length ∧ ∀ (i : Nat) (g : Xf) (r : Two), (fa.map toXf)[i]? = some g → ka[i]? = some r → XfK w4 (· < w4.heap.size) g r) := ⟨by simpa using hka, hfs, hq, by simp, hXk⟩
      have HOldC : Hid (∀ u, Below w4.heap.size w4 u → u.cell? ⟨w2.heap.size, 0, none⟩ = some (.slice (some ⟨pb, po, none⟩) fa.length c2) ∧ u.cell? ⟨pb, po + k * 5 + 3, none⟩ = some (.slice Ab fu.body.length cb)) := fun u hu => ⟨by rw [Lib.cell_of_heap ((hu.block _ l2).trans HV2.out)]; rfl, cell_below (by rw [Nat.add_assoc]; exact hb3) hu⟩
      have HPos0 : Hid ((fusC fa ka)[k * 5 + 3]? = some q.b) := hq3
      have Hxf : Hid (fusC fa ka = xfsC (fa.map toXf) ka) := (fusC_toX fa ka).symm
      clear hfu hq hfs hq3 hb3 hbody z1 z2 z3 z4 z5 z6 hXk hra hone hlen hpc hfa hka HV2 HF2 HB2a HPa HA hbm hbl q1 eb HW
      generalize (toXf fu) = f at *
      generalize fu.body.length = m at *
      generalize fa.map toXf = fs at *
      generalize fa.length = n at *
      generalize fusC fa ka = csA at *
      have R0 := Lib.hid (Rg.start w4).made
      go_upto_region 7 with fail
      have x0 := HOldC.out _ R0.out.bl
      have hc0 : (w4.alloc (.cells #[.slice none 0 0] 26)).cell? ⟨w4.heap.size, 0, none⟩ = some (.slice none 0 0) := by rw [cell_of_row _ _ _ _ _ _ (heap_alloc_new w4 _)]; rfl
      generalize w4.alloc (.cells #[.slice none 0 0] 26) = u5 at *
      obtain ⟨x1, _⟩ := x0
      go_wp2_with (at_builtin; refine R0.out.putL rfl (.tmp 38) (.tmp 40) rfl rfl (some ⟨pb, po, none⟩) n c2 rfl csA HRa.out HLe.out HOne.out (by omega) n (Nat.zero_add _) csA rfl ?_; intro A7 c7 u6 hR6; refine Hid.out ?_)
      refine Lib.hid ?_
      have R6 := Lib.hid hR6
      clear hR6 x1 hc0 R0
      have VA := VarAt.block (cs := [.slice none 0 0]) (R6.out.var _ rfl).2.2
      obtain ⟨hce, hcf⟩ := VA.cell 0 _ rfl
      have HVA := Lib.hid VA
      clear VA
      go_upto_region 8 with fail
      have R7 := Lib.hid (R6.out.stored (uf := u6.setCell ⟨w4.heap.size, 0, none⟩ (.slice A7 n c7)) set_below set_other)
      have HVz : Hid (VarAt (u6.setCell ⟨w4.heap.size, 0, none⟩ (.slice A7 n c7)) w4.heap.size [.slice A7 n c7]) := HVA.out.set 0 _
      have HNe := Lib.hid (R6.out.var _ rfl)
      clear hce hcf HVA
      obtain ⟨b7, c7', e7, g1, g2, g3, g4, g5⟩ := own_var R7.out.own (by omega)
      injection e7 with e7 _ e8
      subst e7 e8
      have HQA : Hid (QRw w4 (u6.setCell ⟨w4.heap.size, 0, none⟩ (.slice (some ⟨b7, 0, none⟩) n c7)) b7 w4.heap.size n c7 csA) := ⟨R7.out.bl, g4, HVz.out, g1, Nat.le_refl _, fun e => HNe.out.2.1 (by show some b7 = _; rw [e]), g5⟩
      have HC7 : Hid (n ≤ c7 ∧ c7 ≤ maxLen) := ⟨g2, g3⟩
      have HCsA : Hid (∀ v, csA.set (k * 5 + 3) v = (xfsC fs ka).set (k * 5 + 3) v) := fun v => by rw [Hxf.out]
      have HPosA := Lib.hid HPos0.out
      have hw4 : Hid (Below w.heap.size w w4) := BW2.out
      clear g1 g2 g3 g4 g5 R6 R7 HVz HNe HRa HOne HLe HPos0 Hxf
      generalize u6.setCell ⟨w4.heap.size, 0, none⟩ (.slice (some ⟨b7, 0, none⟩) n c7) = w5 at *
      have HQ : Hid (QRw w4 w5.drew b7 w4.heap.size n c7 csA) := HQA.out.drew
      have HS : Hid (∀ u, Below w5.drew.heap.size w5.drew u → u.cell? ⟨w4.heap.size, 0, none⟩ = some (.slice (some ⟨b7, 0, none⟩) n c7) ∧ u.cell? ⟨w2.heap.size, 0, none⟩ = some (.slice (some ⟨pb, po, none⟩) n c2) ∧ u.cell? ⟨pb, po + k * 5 + 3, none⟩ = some (.slice Ab m cb)) := fun u hu => ⟨cell_below (HQ.out.var.cell 0 _ rfl).1 hu, HOldC.out u (HQ.out.old.trans (hu.mono HQ.out.old.size))⟩
      have HE : Hid (Below w5.heap.size w5 w5.drew) := (Below.refl _ _).drew
      refine wp_region_held_drew (S := fun u => u.cell? ⟨w4.heap.size, 0, none⟩ = some (.slice (some ⟨b7, 0, none⟩) n c7) ∧ u.cell? ⟨w2.heap.size, 0, none⟩ = some (.slice (some ⟨pb, po, none⟩) n c2) ∧ u.cell? ⟨pb, po + k * 5 + 3, none⟩ = some (.slice Ab m cb)) (by kernel_rfl) (HS.out _ (Below.refl _ _)) (fun hHeld => ?_)
      refine wpAnyH_take (i := 0) (v := ?vA1) rfl (by kernel_rfl) (by kernel_rfl) (by kernel_rfl) (fun _ _ _ h => h) (Or.inl ⟨by kernel_rfl, ?yA1⟩) (by assumption) ?rA1
      case yA1 => (intro w hSw; (try dsimp only at hSw); obtain ⟨s1, s2, s3⟩ := hSw; go_simp; (try rw [if_pos (by omega)]); (try go_simp); (try with_reducible rfl))
      try simp only [Act.put, List.getElem_toArray, List.getElem_cons_zero, List.getElem_cons_succ, List.setIfInBounds_toArray, List.set_cons_zero, List.set_cons_succ]
      refine wpAnyH_take (i := 1) (v := ?vA2) rfl (by kernel_rfl) (by kernel_rfl) (by kernel_rfl) (fun _ _ _ h => h) (Or.inl ⟨by kernel_rfl, ?yA2⟩) (by assumption) ?rA2
      case yA2 => (intro w hSw; (try dsimp only at hSw); obtain ⟨s1, s2, s3⟩ := hSw; go_simp; (try rw [if_pos (by omega)]); (try go_simp); (try with_reducible rfl))
      try simp only [Act.put, List.getElem_toArray, List.getElem_cons_zero, List.getElem_cons_succ, List.setIfInBounds_toArray, List.set_cons_zero, List.set_cons_succ]
      refine wpAnyH_take (i := 2) (v := ?vA3) rfl (by kernel_rfl) (by kernel_rfl) (by kernel_rfl) (fun _ _ _ h => h) (Or.inl ⟨by kernel_rfl, ?yA3⟩) (by assumption) ?rA3
      case yA3 => (intro w hSw; (try dsimp only at hSw); obtain ⟨s1, s2, s3⟩ := hSw; go_simp; (try rw [if_pos (by omega)]); (try go_simp); (try with_reducible rfl))
      try simp only [Act.put, List.getElem_toArray, List.getElem_cons_zero, List.getElem_cons_succ, List.setIfInBounds_toArray, List.set_cons_zero, List.set_cons_succ]
      refine wpAnyH_take (i := 3) (v := ?vA4) rfl (by kernel_rfl) (by kernel_rfl) (by kernel_rfl) (fun _ _ _ h => h) (Or.inl ⟨by kernel_rfl, ?yA4⟩) (by assumption) ?rA4
      case yA4 => (intro w hSw; (try dsimp only at hSw); obtain ⟨s1, s2, s3⟩ := hSw; go_simp; (try rw [if_pos (by omega)]); (try go_simp); (try with_reducible rfl))
      try simp only [Act.put, List.getElem_toArray, List.getElem_cons_zero, List.getElem_cons_succ, List.setIfInBounds_toArray, List.set_cons_zero, List.set_cons_succ]
      refine wpAnyH_take (i := 7) (v := ?vA5) rfl (by kernel_rfl) (by kernel_rfl) (by kernel_rfl) (fun _ _ _ h => h) (Or.inl ⟨by kernel_rfl, ?yA5⟩) (by assumption) ?rA5
      case yA5 => (intro w hSw; (try dsimp only at hSw); obtain ⟨s1, s2, s3⟩ := hSw; go_simp; (try rw [if_pos (by omega)]); (try go_simp); (try with_reducible rfl))
      try simp only [Act.put, List.getElem_toArray, List.getElem_cons_zero, List.getElem_cons_succ, List.setIfInBounds_toArray, List.set_cons_zero, List.set_cons_succ]
      refine wpAnyH_take (i := 8) (v := ?vA6) rfl (by kernel_rfl) (by kernel_rfl) (by kernel_rfl) (fun _ _ _ h => h) (Or.inl ⟨by kernel_rfl, ?yA6⟩) (by assumption) ?rA6
      case yA6 => (intro w hSw; (try dsimp only at hSw); obtain ⟨s1, s2, s3⟩ := hSw; go_simp; (try rw [if_pos (by omega)]); (try go_simp); (try with_reducible rfl))
      try simp only [Act.put, List.getElem_toArray, List.getElem_cons_zero, List.getElem_cons_succ, List.setIfInBounds_toArray, List.set_cons_zero, List.set_cons_succ]
      refine wpAnyH_take (i := 9) (v := ?vA7) rfl (by kernel_rfl) (by kernel_rfl) (by kernel_rfl) (fun _ _ _ h => h) (Or.inl ⟨by kernel_rfl, ?yA7⟩) (by assumption) ?rA7
      case yA7 => (intro w hSw; (try dsimp only at hSw); obtain ⟨s1, s2, s3⟩ := hSw; go_simp; (try rw [if_pos (by omega)]); (try go_simp); (try with_reducible rfl))
      try simp only [Act.put, List.getElem_toArray, List.getElem_cons_zero, List.getElem_cons_succ, List.setIfInBounds_toArray, List.set_cons_zero, List.set_cons_succ]
      refine wpAnyH_take (i := 10) (v := ?vA8) rfl (by kernel_rfl) (by kernel_rfl) (by kernel_rfl) (fun _ _ _ h => h) (Or.inl ⟨by kernel_rfl, ?yA8⟩) (by assumption) ?rA8
      case yA8 => (intro w hSw; (try dsimp only at hSw); obtain ⟨s1, s2, s3⟩ := hSw; go_simp; (try rw [if_pos (by omega)]); (try go_simp); (try with_reducible rfl))
      try simp only [Act.put, List.getElem_toArray, List.getElem_cons_zero, List.getElem_cons_succ, List.setIfInBounds_toArray, List.set_cons_zero, List.set_cons_succ]
      refine wpAnyH_take (i := 11) (v := ?vA9) rfl (by kernel_rfl) (by kernel_rfl) (by kernel_rfl) (fun _ _ _ h => h) (Or.inl ⟨by kernel_rfl, ?yA9⟩) (by assumption) ?rA9
      case yA9 => (intro w hSw; (try dsimp only at hSw); obtain ⟨s1, s2, s3⟩ := hSw; go_simp; (try rw [if_pos (by omega)]); (try go_simp); (try with_reducible rfl))
      try simp only [Act.put, List.getElem_toArray, List.getElem_cons_zero, List.getElem_cons_succ, List.setIfInBounds_toArray, List.set_cons_zero, List.set_cons_succ]
      refine wpAnyH_take (i := 12) (v := ?vA10) rfl (by kernel_rfl) (by kernel_rfl) (by kernel_rfl) (fun _ _ _ h => h) (Or.inl ⟨by kernel_rfl, ?yA10⟩) (by assumption) ?rA10
      case yA10 => (intro w hSw; (try dsimp only at hSw); obtain ⟨s1, s2, s3⟩ := hSw; go_simp; (try rw [if_pos (by omega)]); (try go_simp); (try with_reducible rfl))
      try simp only [Act.put, List.getElem_toArray, List.getElem_cons_zero, List.getElem_cons_succ, List.setIfInBounds_toArray, List.set_cons_zero, List.set_cons_succ]
      generalize w5.drew = wd at *
      refine wpAnyH_ready (rs := [4]) (by kernel_rfl) (by simp) ?_
      refine AllReadyH.cons rfl (fun K hK => ?_) AllReadyH.nil
      go_simp
      have ba := below_alloc wd (.cells #[.int .i64 1, .int .i64 0, .string ⟨#[]⟩, .slice none 0 0, .int .i64 0] 46)
      have HV1 : Hid (XesC (wd.alloc (.cells #[.int .i64 1, .int .i64 0, .string ⟨#[]⟩, .slice none 0 0, .int .i64 0] 46)) (fun q => q = wd.heap.size) [(.mk 1 0 [] [] 0 : Xe)] (.slice (some ⟨wd.heap.size, 0, none⟩) 1 1)) := xes_oneD (e := (.mk 1 0 [] [] 0 : Xe)) (range_newz wd [.int .i64 1, .int .i64 0, .string ⟨#[]⟩, .slice none 0 0, .int .i64 0] 46) rfl (by intro b hb; cases hb)
      refine hK.out _ _ (HS.out _ ba) (fun hHeld => ?_)
      clear hK K
      have HBa := Lib.hid ba
      have hza : (wd.alloc (.cells #[.int .i64 1, .int .i64 0, .string ⟨#[]⟩, .slice none 0 0, .int .i64 0] 46)).heap.size = wd.heap.size + 1 := by simp
      have HZa := Lib.hid hza
      clear ba hza
      generalize wd.alloc (.cells #[.int .i64 1, .int .i64 0, .string ⟨#[]⟩, .slice none 0 0, .int .i64 0] 46) = wa at *
      try simp only [Act.put, List.getElem_toArray, List.getElem_cons_zero, List.getElem_cons_succ, List.setIfInBounds_toArray, List.set_cons_zero, List.set_cons_succ]
      refine wpAnyH_take (i := 5) (v := ?vA11) rfl (by kernel_rfl) (by kernel_rfl) (by kernel_rfl) (fun _ _ _ h => h) (Or.inl ⟨by kernel_rfl, ?yA11⟩) (by assumption) ?rA11
      case yA11 => (intro w hSw; (try dsimp only at hSw); obtain ⟨s1, s2, s3⟩ := hSw; go_simp; (try rw [if_pos (by omega)]); (try go_simp); (try with_reducible rfl))
      try simp only [Act.put, List.getElem_toArray, List.getElem_cons_zero, List.getElem_cons_succ, List.setIfInBounds_toArray, List.set_cons_zero, List.set_cons_succ]
      refine wpAnyH_ready (rs := [6]) (by kernel_rfl) (by simp) ?_
      refine AllReadyH.cons rfl (fun K hK => ?_) AllReadyH.nil
      go_simp
      have ba := below_alloc wa (.cells #[.int .i64 2, .string ⟨#[78, 79, 66, 79, 68, 89]⟩, .slice (some ⟨wd.heap.size, 0, none⟩) 1 1, .slice none 0 0, .slice none 0 0, .int .i64 5] 48)
      have HOw : Hid ((wa.alloc (.cells #[.int .i64 2, .string ⟨#[78, 79, 66, 79, 68, 89]⟩, .slice (some ⟨wd.heap.size, 0, none⟩) 1 1, .slice none 0 0, .slice none 0 0, .int .i64 5] 48)).ownsRow wd.heap.size 48 6 (.slice (some ⟨wa.heap.size, 0, none⟩) 1 1) 1 [.int .i64 2, .string ⟨#[78, 79, 66, 79, 68, 89]⟩, .slice (some ⟨wd.heap.size, 0, none⟩) 1 1, .slice none 0 0, .slice none 0 0, .int .i64 5]) := ⟨rfl, .inr ⟨wa.heap.size, 1, #[.int .i64 2, .string ⟨#[78, 79, 66, 79, 68, 89]⟩, .slice (some ⟨wd.heap.size, 0, none⟩) 1 1, .slice none 0 0, .slice none 0 0, .int .i64 5], rfl, HBa.out.size, heap_alloc_new wa _, Nat.le_refl _, by unfold maxLen; omega, rfl, rfl⟩⟩
      refine hK.out _ _ (HS.out _ (HBa.out.trans (ba.mono HBa.out.size))) (fun hHeld => ?_)
      clear hK K
      have HBb := Lib.hid (HBa.out.trans (ba.mono HBa.out.size))
      have HV2 : Hid (XesC (wa.alloc (.cells #[.int .i64 2, .string ⟨#[78, 79, 66, 79, 68, 89]⟩, .slice (some ⟨wd.heap.size, 0, none⟩) 1 1, .slice none 0 0, .slice none 0 0, .int .i64 5] 48)) (fun q => q = wd.heap.size) [(.mk 1 0 [] [] 0 : Xe)] (.slice (some ⟨wd.heap.size, 0, none⟩) 1 1)) := HV1.out.same fun q hq => ba.block q (by have := HZa.out; subst hq; omega)
      have HZb : Hid (wd.heap.size < wa.heap.size ∧ wa.heap.size < (wa.alloc (.cells #[.int .i64 2, .string ⟨#[78, 79, 66, 79, 68, 89]⟩, .slice (some ⟨wd.heap.size, 0, none⟩) 1 1, .slice none 0 0, .slice none 0 0, .int .i64 5] 48)).heap.size) := ⟨by have := HZa.out; omega, by simp⟩
      clear ba HV1
      generalize wa.alloc (.cells #[.int .i64 2, .string ⟨#[78, 79, 66, 79, 68, 89]⟩, .slice (some ⟨wd.heap.size, 0, none⟩) 1 1, .slice none 0 0, .slice none 0 0, .int .i64 5] 48) = wb at *
      try simp only [Act.put, List.getElem_toArray, List.getElem_cons_zero, List.getElem_cons_succ, List.setIfInBounds_toArray, List.set_cons_zero, List.set_cons_succ]
      refine wpAnyH_ready (rs := [13]) (by kernel_rfl) (by simp) ?_
      refine AllReadyH.cons rfl (fun K hK => ?_) AllReadyH.nil
      rw [if_pos (by rfl)]
      have HRb2 := Lib.hid (hOld.out.2.2.2.1.same fun q hq => (HQ.out.old.trans (HBb.out.mono HQ.out.old.size)).block q hq)
      refine put48 HOw.out HBb.out.size (.tmp 49) (.tmp 55) rfl rfl Ab m cb rfl (xssC f.body kb) HRb2.out hOld.out.1 hOld.out.2.1 (by have := hOld.out.2.2.1; omega) (1 + m) rfl ?_
      intro Ac cc wc hoc hgc
      have HOc := Lib.hid hoc
      have hgcs := hgc.size
      have HBc : Hid (Below wd.heap.size wd wc) := HBb.out.grown hgc HBb.out.size (fun b hb => (HOw.out.lt b hb).1)
      have HVc : Hid (XesC wc (fun q => q = wd.heap.size) [(.mk 1 0 [] [] 0 : Xe)] (.slice (some ⟨wd.heap.size, 0, none⟩) 1 1)) := HV2.out.same fun q hq => hgc.block q (by have := HZb.out; subst hq; omega) (by intro e; injection e with e; have e : q = wa.heap.size := e; have := HZb.out; omega)
      refine hK.out _ _ (HS.out _ HBc.out) (fun hHeld => ?_)
      clear hK K hoc hgc
      try simp only [Act.put, List.getElem_toArray, List.getElem_cons_zero, List.getElem_cons_succ, List.setIfInBounds_toArray, List.set_cons_zero, List.set_cons_succ]
      refine wpAnyH_take (i := 14) (v := ?vA12) rfl (by kernel_rfl) (by kernel_rfl) (by kernel_rfl) (fun _ _ _ h => h) (Or.inl ⟨by kernel_rfl, ?yA12⟩) (by assumption) ?rA12
      case yA12 => (intro w hSw; (try dsimp only at hSw); obtain ⟨s1, s2, s3⟩ := hSw; go_simp; (try rw [if_pos (by omega)]); (try go_simp); (try with_reducible rfl))
      try simp only [Act.put, List.getElem_toArray, List.getElem_cons_zero, List.getElem_cons_succ, List.setIfInBounds_toArray, List.set_cons_zero, List.set_cons_succ]
      refine wpAnyH_take (i := 15) (v := ?vA13) rfl (by kernel_rfl) (by kernel_rfl) (by kernel_rfl) (fun _ _ _ h => h) (Or.inl ⟨by kernel_rfl, ?yA13⟩) (by assumption) ?rA13
      case yA13 => (intro w hSw; (try dsimp only at hSw); obtain ⟨s1, s2, s3⟩ := hSw; go_simp; (try rw [if_pos (by omega)]); (try go_simp); (try with_reducible rfl))
      try simp only [Act.put, List.getElem_toArray, List.getElem_cons_zero, List.getElem_cons_succ, List.setIfInBounds_toArray, List.set_cons_zero, List.set_cons_succ]
      have HQc := Lib.hid (HQ.out.below HBc.out)
      refine wpAnyH_ready (rs := [16]) (by kernel_rfl) (by simp) ?_
      refine AllReadyH.cons rfl (fun K hK => ?_) AllReadyH.nil
      obtain ⟨hce, hcf⟩ := HQc.out.row.cell (k * 5 + 3) _ HPosA.out
      go_simp
      have HQz := Lib.hid (HQc.out.store (k * 5 + 3) (.slice Ac (1 + m) cc))
      have HXz : Hid (XssC (wc.setCell ⟨b7, k * 5 + 3, none⟩ (.slice Ac (1 + m) cc)) (fun q => q < (wc.setCell ⟨b7, k * 5 + 3, none⟩ (.slice Ac (1 + m) cc)).heap.size) (setN :: f.body) (.slice Ac (1 + m) cc)) := body_new hOld.out (s := setN) (e := (.mk 1 0 [] [] 0 : Xe)) rfl (bynB_iff.1 (by kernel_rfl)) rfl rfl rfl HQ.out HBc.out HOc.out HVc.out (by have := HQ.out.lt; omega) (by have := HZb.out; have := HBc.out.size; have := hgcs; omega)
      refine hK.out _ _ ⟨by rw [World.cell?_setCell_other _ _ _ _ (by intro e; injection e with e1 e2; exact HQ.out.ne e1)]; exact (HS.out _ HBc.out).1, by rw [World.cell?_setCell_other _ _ _ _ (by intro e; injection e with e1 e2; have := HQ.out.hb; omega)]; exact (HS.out _ HBc.out).2.1, by rw [World.cell?_setCell_other _ _ _ _ (by intro e; injection e with e1 e2; have := HQ.out.hb; have := hpbl; omega)]; exact (HS.out _ HBc.out).2.2⟩ (fun hHeld => ?_)
      clear hK K hce hcf hHeld HS HQ HQc HBc HOc HBb HBa HV2 HOw HZa HZb HVc HRb2 HE
      refine wpAnyH_done (by kernel_rfl) ?_ _
      generalize wc.setCell ⟨b7, k * 5 + 3, none⟩ (.slice Ac (1 + m) cc) = wz at *
      have HXf := Lib.hid (xfs_set (fs := fs) (ks := ka) (wz := wz) (D := fun q => q < wz.heap.size) k f q hOld2.out.1 hOld2.out.2.1 hOld2.out.2.2.1 (setN :: f.body) (.slice Ac (1 + m) cc) (by have := HQz.out.row.1; rw [HCsA.out] at this; exact this) hOld2.out.2.2.2.1 HC7.out.1 HC7.out.2 HQz.out.lt (fun i g r hg hr => (hOld2.out.2.2.2.2 i g r hg hr).moreK HQz.out.old) HXz.out)
      have KC := checkC _ _ _ c7 wz wz.heap.size (Nat.le_refl _) (by rw [List.length_set, hOld2.out.2.2.2.1]; exact HXf.out)
      rw [List.length_set, hOld2.out.2.2.2.1, wrong_set fs k f HNm.out HP.out hOld2.out.2.1] at KC
      have HKC := Lib.hid KC
      have x0 := (HQz.out.var.cell 0 _ rfl).1
      clear KC HXf HXz
      go_wp2_with fail
      with_reducible refine HKC.out.mono ?_
      clear HKC x0
      rintro e w6 ⟨rfl, b6⟩
      have HQB := Lib.hid (HQz.out.below b6)
      have HPosB : Hid ((csA.set (k * 5 + 3) (.slice Ac (1 + m) cc))[k * 5 + 3]? = some (.slice Ac (1 + m) cc)) := set_at HPosA.out
      have HCsB : Hid (∀ v, (csA.set (k * 5 + 3) (.slice Ac (1 + m) cc)).set (k * 5 + 3) v = (xfsC fs ka).set (k * 5 + 3) v) := fun v => by rw [List.set_set]; exact HCsA.out v
      clear b6 HQz HQA HPosA HCsA
      generalize csA.set (k * 5 + 3) (.slice Ac (1 + m) cc) = csB at *
      go_upto_region 10 with fail
      have HQ : Hid (QRw w4 w6.drew b7 w4.heap.size n c7 csB) := HQB.out.drew
      have HS : Hid (∀ u, Below w6.drew.heap.size w6.drew u → u.cell? ⟨w4.heap.size, 0, none⟩ = some (.slice (some ⟨b7, 0, none⟩) n c7) ∧ u.cell? ⟨w2.heap.size, 0, none⟩ = some (.slice (some ⟨pb, po, none⟩) n c2) ∧ u.cell? ⟨pb, po + k * 5 + 3, none⟩ = some (.slice Ab m cb)) := fun u hu => ⟨cell_below (HQ.out.var.cell 0 _ rfl).1 hu, HOldC.out u (HQ.out.old.trans (hu.mono HQ.out.old.size))⟩
      have HE : Hid (Below w6.heap.size w6 w6.drew) := (Below.refl _ _).drew
      refine wp_region_held_drew (S := fun u => u.cell? ⟨w4.heap.size, 0, none⟩ = some (.slice (some ⟨b7, 0, none⟩) n c7) ∧ u.cell? ⟨w2.heap.size, 0, none⟩ = some (.slice (some ⟨pb, po, none⟩) n c2) ∧ u.cell? ⟨pb, po + k * 5 + 3, none⟩ = some (.slice Ab m cb)) (by kernel_rfl) (HS.out _ (Below.refl _ _)) (fun hHeld => ?_)
      refine wpAnyH_take (i := 0) (v := ?vB1) rfl (by kernel_rfl) (by kernel_rfl) (by kernel_rfl) (fun _ _ _ h => h) (Or.inl ⟨by kernel_rfl, ?yB1⟩) (by assumption) ?rB1
      case yB1 => (intro w hSw; (try dsimp only at hSw); obtain ⟨s1, s2, s3⟩ := hSw; go_simp; (try rw [if_pos (by omega)]); (try go_simp); (try with_reducible rfl))
      try simp only [Act.put, List.getElem_toArray, List.getElem_cons_zero, List.getElem_cons_succ, List.setIfInBounds_toArray, List.set_cons_zero, List.set_cons_succ]
      refine wpAnyH_take (i := 1) (v := ?vB2) rfl (by kernel_rfl) (by kernel_rfl) (by kernel_rfl) (fun _ _ _ h => h) (Or.inl ⟨by kernel_rfl, ?yB2⟩) (by assumption) ?rB2
      case yB2 => (intro w hSw; (try dsimp only at hSw); obtain ⟨s1, s2, s3⟩ := hSw; go_simp; (try rw [if_pos (by omega)]); (try go_simp); (try with_reducible rfl))
      try simp only [Act.put, List.getElem_toArray, List.getElem_cons_zero, List.getElem_cons_succ, List.setIfInBounds_toArray, List.set_cons_zero, List.set_cons_succ]
      refine wpAnyH_take (i := 2) (v := ?vB3) rfl (by kernel_rfl) (by kernel_rfl) (by kernel_rfl) (fun _ _ _ h => h) (Or.inl ⟨by kernel_rfl, ?yB3⟩) (by assumption) ?rB3
      case yB3 => (intro w hSw; (try dsimp only at hSw); obtain ⟨s1, s2, s3⟩ := hSw; go_simp; (try rw [if_pos (by omega)]); (try go_simp); (try with_reducible rfl))
      try simp only [Act.put, List.getElem_toArray, List.getElem_cons_zero, List.getElem_cons_succ, List.setIfInBounds_toArray, List.set_cons_zero, List.set_cons_succ]
      refine wpAnyH_take (i := 3) (v := ?vB4) rfl (by kernel_rfl) (by kernel_rfl) (by kernel_rfl) (fun _ _ _ h => h) (Or.inl ⟨by kernel_rfl, ?yB4⟩) (by assumption) ?rB4
      case yB4 => (intro w hSw; (try dsimp only at hSw); obtain ⟨s1, s2, s3⟩ := hSw; go_simp; (try rw [if_pos (by omega)]); (try go_simp); (try with_reducible rfl))
      try simp only [Act.put, List.getElem_toArray, List.getElem_cons_zero, List.getElem_cons_succ, List.setIfInBounds_toArray, List.set_cons_zero, List.set_cons_succ]
      refine wpAnyH_take (i := 7) (v := ?vB5) rfl (by kernel_rfl) (by kernel_rfl) (by kernel_rfl) (fun _ _ _ h => h) (Or.inl ⟨by kernel_rfl, ?yB5⟩) (by assumption) ?rB5
      case yB5 => (intro w hSw; (try dsimp only at hSw); obtain ⟨s1, s2, s3⟩ := hSw; go_simp; (try rw [if_pos (by omega)]); (try go_simp); (try with_reducible rfl))
      try simp only [Act.put, List.getElem_toArray, List.getElem_cons_zero, List.getElem_cons_succ, List.setIfInBounds_toArray, List.set_cons_zero, List.set_cons_succ]
      refine wpAnyH_take (i := 8) (v := ?vB6) rfl (by kernel_rfl) (by kernel_rfl) (by kernel_rfl) (fun _ _ _ h => h) (Or.inl ⟨by kernel_rfl, ?yB6⟩) (by assumption) ?rB6
      case yB6 => (intro w hSw; (try dsimp only at hSw); obtain ⟨s1, s2, s3⟩ := hSw; go_simp; (try rw [if_pos (by omega)]); (try go_simp); (try with_reducible rfl))
      try simp only [Act.put, List.getElem_toArray, List.getElem_cons_zero, List.getElem_cons_succ, List.setIfInBounds_toArray, List.set_cons_zero, List.set_cons_succ]
      refine wpAnyH_take (i := 9) (v := ?vB7) rfl (by kernel_rfl) (by kernel_rfl) (by kernel_rfl) (fun _ _ _ h => h) (Or.inl ⟨by kernel_rfl, ?yB7⟩) (by assumption) ?rB7
      case yB7 => (intro w hSw; (try dsimp only at hSw); obtain ⟨s1, s2, s3⟩ := hSw; go_simp; (try rw [if_pos (by omega)]); (try go_simp); (try with_reducible rfl))
      try simp only [Act.put, List.getElem_toArray, List.getElem_cons_zero, List.getElem_cons_succ, List.setIfInBounds_toArray, List.set_cons_zero, List.set_cons_succ]
      refine wpAnyH_take (i := 10) (v := ?vB8) rfl (by kernel_rfl) (by kernel_rfl) (by kernel_rfl) (fun _ _ _ h => h) (Or.inl ⟨by kernel_rfl, ?yB8⟩) (by assumption) ?rB8
      case yB8 => (intro w hSw; (try dsimp only at hSw); obtain ⟨s1, s2, s3⟩ := hSw; go_simp; (try rw [if_pos (by omega)]); (try go_simp); (try with_reducible rfl))
      try simp only [Act.put, List.getElem_toArray, List.getElem_cons_zero, List.getElem_cons_succ, List.setIfInBounds_toArray, List.set_cons_zero, List.set_cons_succ]
      refine wpAnyH_take (i := 11) (v := ?vB9) rfl (by kernel_rfl) (by kernel_rfl) (by kernel_rfl) (fun _ _ _ h => h) (Or.inl ⟨by kernel_rfl, ?yB9⟩) (by assumption) ?rB9
      case yB9 => (intro w hSw; (try dsimp only at hSw); obtain ⟨s1, s2, s3⟩ := hSw; go_simp; (try rw [if_pos (by omega)]); (try go_simp); (try with_reducible rfl))
      try simp only [Act.put, List.getElem_toArray, List.getElem_cons_zero, List.getElem_cons_succ, List.setIfInBounds_toArray, List.set_cons_zero, List.set_cons_succ]
      refine wpAnyH_take (i := 12) (v := ?vB10) rfl (by kernel_rfl) (by kernel_rfl) (by kernel_rfl) (fun _ _ _ h => h) (Or.inl ⟨by kernel_rfl, ?yB10⟩) (by assumption) ?rB10
      case yB10 => (intro w hSw; (try dsimp only at hSw); obtain ⟨s1, s2, s3⟩ := hSw; go_simp; (try rw [if_pos (by omega)]); (try go_simp); (try with_reducible rfl))
      try simp only [Act.put, List.getElem_toArray, List.getElem_cons_zero, List.getElem_cons_succ, List.setIfInBounds_toArray, List.set_cons_zero, List.set_cons_succ]
      generalize w6.drew = wd at *
      refine wpAnyH_ready (rs := [4]) (by kernel_rfl) (by simp) ?_
      refine AllReadyH.cons rfl (fun K hK => ?_) AllReadyH.nil
      go_simp
      have ba := below_alloc wd (.cells #[.int .i64 5, .int .i64 0, .string ⟨#[78, 79, 66, 79, 68, 89]⟩, .slice none 0 0, .int .i64 7] 46)
      have HV1 : Hid (XesC (wd.alloc (.cells #[.int .i64 5, .int .i64 0, .string ⟨#[78, 79, 66, 79, 68, 89]⟩, .slice none 0 0, .int .i64 7] 46)) (fun q => q = wd.heap.size) [(.mk 5 0 nobody [] 7 : Xe)] (.slice (some ⟨wd.heap.size, 0, none⟩) 1 1)) := xes_oneD (e := (.mk 5 0 nobody [] 7 : Xe)) (range_newz wd [.int .i64 5, .int .i64 0, .string ⟨#[78, 79, 66, 79, 68, 89]⟩, .slice none 0 0, .int .i64 7] 46) rfl (by unfold Byn; decide)
      refine hK.out _ _ (HS.out _ ba) (fun hHeld => ?_)
      clear hK K
      have HBa := Lib.hid ba
      have hza : (wd.alloc (.cells #[.int .i64 5, .int .i64 0, .string ⟨#[78, 79, 66, 79, 68, 89]⟩, .slice none 0 0, .int .i64 7] 46)).heap.size = wd.heap.size + 1 := by simp
      have HZa := Lib.hid hza
      clear ba hza
      generalize wd.alloc (.cells #[.int .i64 5, .int .i64 0, .string ⟨#[78, 79, 66, 79, 68, 89]⟩, .slice none 0 0, .int .i64 7] 46) = wa at *
      try simp only [Act.put, List.getElem_toArray, List.getElem_cons_zero, List.getElem_cons_succ, List.setIfInBounds_toArray, List.set_cons_zero, List.set_cons_succ]
      refine wpAnyH_take (i := 5) (v := ?vB11) rfl (by kernel_rfl) (by kernel_rfl) (by kernel_rfl) (fun _ _ _ h => h) (Or.inl ⟨by kernel_rfl, ?yB11⟩) (by assumption) ?rB11
      case yB11 => (intro w hSw; (try dsimp only at hSw); obtain ⟨s1, s2, s3⟩ := hSw; go_simp; (try rw [if_pos (by omega)]); (try go_simp); (try with_reducible rfl))
      try simp only [Act.put, List.getElem_toArray, List.getElem_cons_zero, List.getElem_cons_succ, List.setIfInBounds_toArray, List.set_cons_zero, List.set_cons_succ]
      refine wpAnyH_ready (rs := [6]) (by kernel_rfl) (by simp) ?_
      refine AllReadyH.cons rfl (fun K hK => ?_) AllReadyH.nil
      go_simp
      have ba := below_alloc wa (.cells #[.int .i64 8, .string ⟨#[]⟩, .slice (some ⟨wd.heap.size, 0, none⟩) 1 1, .slice none 0 0, .slice none 0 0, .int .i64 0] 48)
      have HOw : Hid ((wa.alloc (.cells #[.int .i64 8, .string ⟨#[]⟩, .slice (some ⟨wd.heap.size, 0, none⟩) 1 1, .slice none 0 0, .slice none 0 0, .int .i64 0] 48)).ownsRow wd.heap.size 48 6 (.slice (some ⟨wa.heap.size, 0, none⟩) 1 1) 1 [.int .i64 8, .string ⟨#[]⟩, .slice (some ⟨wd.heap.size, 0, none⟩) 1 1, .slice none 0 0, .slice none 0 0, .int .i64 0]) := ⟨rfl, .inr ⟨wa.heap.size, 1, #[.int .i64 8, .string ⟨#[]⟩, .slice (some ⟨wd.heap.size, 0, none⟩) 1 1, .slice none 0 0, .slice none 0 0, .int .i64 0], rfl, HBa.out.size, heap_alloc_new wa _, Nat.le_refl _, by unfold maxLen; omega, rfl, rfl⟩⟩
      refine hK.out _ _ (HS.out _ (HBa.out.trans (ba.mono HBa.out.size))) (fun hHeld => ?_)
      clear hK K
      have HBb := Lib.hid (HBa.out.trans (ba.mono HBa.out.size))
      have HV2 : Hid (XesC (wa.alloc (.cells #[.int .i64 8, .string ⟨#[]⟩, .slice (some ⟨wd.heap.size, 0, none⟩) 1 1, .slice none 0 0, .slice none 0 0, .int .i64 0] 48)) (fun q => q = wd.heap.size) [(.mk 5 0 nobody [] 7 : Xe)] (.slice (some ⟨wd.heap.size, 0, none⟩) 1 1)) := HV1.out.same fun q hq => ba.block q (by have := HZa.out; subst hq; omega)
      have HZb : Hid (wd.heap.size < wa.heap.size ∧ wa.heap.size < (wa.alloc (.cells #[.int .i64 8, .string ⟨#[]⟩, .slice (some ⟨wd.heap.size, 0, none⟩) 1 1, .slice none 0 0, .slice none 0 0, .int .i64 0] 48)).heap.size) := ⟨by have := HZa.out; omega, by simp⟩
      clear ba HV1
      generalize wa.alloc (.cells #[.int .i64 8, .string ⟨#[]⟩, .slice (some ⟨wd.heap.size, 0, none⟩) 1 1, .slice none 0 0, .slice none 0 0, .int .i64 0] 48) = wb at *
      try simp only [Act.put, List.getElem_toArray, List.getElem_cons_zero, List.getElem_cons_succ, List.setIfInBounds_toArray, List.set_cons_zero, List.set_cons_succ]
      refine wpAnyH_ready (rs := [13]) (by kernel_rfl) (by simp) ?_
      refine AllReadyH.cons rfl (fun K hK => ?_) AllReadyH.nil
      rw [if_pos (by rfl)]
      have HRb2 := Lib.hid (hOld.out.2.2.2.1.same fun q hq => (HQ.out.old.trans (HBb.out.mono HQ.out.old.size)).block q hq)
      refine put48 HOw.out HBb.out.size (.tmp 70) (.tmp 76) rfl rfl Ab m cb rfl (xssC f.body kb) HRb2.out hOld.out.1 hOld.out.2.1 (by have := hOld.out.2.2.1; omega) (1 + m) rfl ?_
      intro Ac cc wc hoc hgc
      have HOc := Lib.hid hoc
      have hgcs := hgc.size
      have HBc : Hid (Below wd.heap.size wd wc) := HBb.out.grown hgc HBb.out.size (fun b hb => (HOw.out.lt b hb).1)
      have HVc : Hid (XesC wc (fun q => q = wd.heap.size) [(.mk 5 0 nobody [] 7 : Xe)] (.slice (some ⟨wd.heap.size, 0, none⟩) 1 1)) := HV2.out.same fun q hq => hgc.block q (by have := HZb.out; subst hq; omega) (by intro e; injection e with e; have e : q = wa.heap.size := e; have := HZb.out; omega)
      refine hK.out _ _ (HS.out _ HBc.out) (fun hHeld => ?_)
      clear hK K hoc hgc
      try simp only [Act.put, List.getElem_toArray, List.getElem_cons_zero, List.getElem_cons_succ, List.setIfInBounds_toArray, List.set_cons_zero, List.set_cons_succ]
      refine wpAnyH_take (i := 14) (v := ?vB12) rfl (by kernel_rfl) (by kernel_rfl) (by kernel_rfl) (fun _ _ _ h => h) (Or.inl ⟨by kernel_rfl, ?yB12⟩) (by assumption) ?rB12
      case yB12 => (intro w hSw; (try dsimp only at hSw); obtain ⟨s1, s2, s3⟩ := hSw; go_simp; (try rw [if_pos (by omega)]); (try go_simp); (try with_reducible rfl))
      try simp only [Act.put, List.getElem_toArray, List.getElem_cons_zero, List.getElem_cons_succ, List.setIfInBounds_toArray, List.set_cons_zero, List.set_cons_succ]
      refine wpAnyH_take (i := 15) (v := ?vB13) rfl (by kernel_rfl) (by kernel_rfl) (by kernel_rfl) (fun _ _ _ h => h) (Or.inl ⟨by kernel_rfl, ?yB13⟩) (by assumption) ?rB13
      case yB13 => (intro w hSw; (try dsimp only at hSw); obtain ⟨s1, s2, s3⟩ := hSw; go_simp; (try rw [if_pos (by omega)]); (try go_simp); (try with_reducible rfl))
      try simp only [Act.put, List.getElem_toArray, List.getElem_cons_zero, List.getElem_cons_succ, List.setIfInBounds_toArray, List.set_cons_zero, List.set_cons_succ]
      have HQc := Lib.hid (HQ.out.below HBc.out)
      refine wpAnyH_ready (rs := [16]) (by kernel_rfl) (by simp) ?_
      refine AllReadyH.cons rfl (fun K hK => ?_) AllReadyH.nil
      obtain ⟨hce, hcf⟩ := HQc.out.row.cell (k * 5 + 3) _ HPosB.out
      go_simp
      have HQz := Lib.hid (HQc.out.store (k * 5 + 3) (.slice Ac (1 + m) cc))
      have HXz : Hid (XssC (wc.setCell ⟨b7, k * 5 + 3, none⟩ (.slice Ac (1 + m) cc)) (fun q => q < (wc.setCell ⟨b7, k * 5 + 3, none⟩ (.slice Ac (1 + m) cc)).heap.size) (callN :: f.body) (.slice Ac (1 + m) cc)) := body_new hOld.out (s := callN) (e := (.mk 5 0 nobody [] 7 : Xe)) rfl (bynB_iff.1 (by kernel_rfl)) rfl rfl rfl HQ.out HBc.out HOc.out HVc.out (by have := HQ.out.lt; omega) (by have := HZb.out; have := HBc.out.size; have := hgcs; omega)
      refine hK.out _ _ ⟨by rw [World.cell?_setCell_other _ _ _ _ (by intro e; injection e with e1 e2; exact HQ.out.ne e1)]; exact (HS.out _ HBc.out).1, by rw [World.cell?_setCell_other _ _ _ _ (by intro e; injection e with e1 e2; have := HQ.out.hb; omega)]; exact (HS.out _ HBc.out).2.1, by rw [World.cell?_setCell_other _ _ _ _ (by intro e; injection e with e1 e2; have := HQ.out.hb; have := hpbl; omega)]; exact (HS.out _ HBc.out).2.2⟩ (fun hHeld => ?_)
      clear hK K hce hcf hHeld HS HQ HQc HBc HOc HBb HBa HV2 HOw HZa HZb HVc HRb2 HE
      refine wpAnyH_done (by kernel_rfl) ?_ _
      generalize wc.setCell ⟨b7, k * 5 + 3, none⟩ (.slice Ac (1 + m) cc) = wy at *
      have HXf := Lib.hid (xfs_set (fs := fs) (ks := ka) (wz := wy) (D := fun q => q < wy.heap.size) k f q hOld2.out.1 hOld2.out.2.1 hOld2.out.2.2.1 (callN :: f.body) (.slice Ac (1 + m) cc) (by have := HQz.out.row.1; rw [HCsB.out] at this; exact this) hOld2.out.2.2.2.1 HC7.out.1 HC7.out.2 HQz.out.lt (fun i g r hg hr => (hOld2.out.2.2.2.2 i g r hg hr).moreK HQz.out.old) HXz.out)
      have KC := checkC _ _ _ c7 wy wy.heap.size (Nat.le_refl _) (by rw [List.length_set, hOld2.out.2.2.2.1]; exact HXf.out)
      rw [List.length_set, hOld2.out.2.2.2.1, wrong_call fs k f HNm.out HP.out hOld2.out.2.1] at KC
      have HKC := Lib.hid KC
      have x0 := (HQz.out.var.cell 0 _ rfl).1
      clear KC HXf HXz
      go_wp2_with fail
      with_reducible refine HKC.out.mono ?_
      clear HKC x0
      rintro e w7 ⟨rfl, b6⟩
      have HQC := Lib.hid (HQz.out.below b6)
      have HPosC : Hid ((csB.set (k * 5 + 3) (.slice Ac (1 + m) cc))[k * 5 + 3]? = some (.slice Ac (1 + m) cc)) := set_at HPosB.out
      have HCsC : Hid (∀ v, (csB.set (k * 5 + 3) (.slice Ac (1 + m) cc)).set (k * 5 + 3) v = (xfsC fs ka).set (k * 5 + 3) v) := fun v => by rw [List.set_set]; exact HCsB.out v
      clear b6 HQz HQB HPosB HCsB
      generalize csB.set (k * 5 + 3) (.slice Ac (1 + m) cc) = csC at *
      go_wp2
      go_ret
      exact ⟨rfl, hw4.out.trans (HQC.out.old.mono hw4.out.size)⟩
  · have q1 : (ea != 0) = true := by rw [bne_iff_ne]; exact he
    clear he
    go_wp2
    go_ret
    exact ⟨rfl, BW2.out⟩
end Go.Proofs.YtfcpabhkconjmaaGreatDoor
