/- 'Put' of a journal, with where the pairs lie; a journal's value and pairs by its row alone. Conditions: what is read lies in memory. -/
import Derived.Test.YtncbbjodianmoaaJm
namespace Go.Proofs.Ytncbbjodianmoaa
open Go.RowKit
set_option linter.unusedSimpArgs false
set_option linter.unusedVariables false

theorem SBD.off {n0 lo : Nat} {w w' : World} {u : Value} {l : List Int} (h : SBD w (Fr lo w.heap.size) u l) (ho : Off n0 w w') : SBD w' (Fr lo w'.heap.size) u l := by
  have hs : SB w w.heap.size u l := h.sb fun _ hb => hb.2
  obtain ⟨A, c, e, h2, h3, h4, h5⟩ := h
  obtain ⟨A', c', e', _, _, k4, _⟩ := hs.off ho
  rw [e] at e'
  injection e' with e1 _ e2
  subst e1 e2
  refine ⟨A, c, e, h2, h3, ⟨h4.1, fun j u hu => ?_⟩, h5⟩
  obtain ⟨ad, e, hD, _⟩ := h4.2 j u hu
  obtain ⟨ad', e', hB, hc⟩ := k4.2 j u hu
  rw [e] at e'
  injection e' with e'
  subst e'
  exact ⟨ad, e, ⟨hD.1, hB⟩, hc⟩
theorem PrsD.off {n0 lo : Nat} {w w' : World} {A : Option Addr} {c : Nat} {ls : List PR} (h : PrsD w (Fr lo w.heap.size) A c ls) (hr : RowF w A) (ho : Off n0 w w') : PrsD w' (Fr lo w'.heap.size) A c ls := by
  obtain ⟨vs, h1, h2⟩ := h
  refine ⟨vs, ⟨h1.1, fun j u hu => ?_⟩, h2.mono fun u l h => h.off ho⟩
  obtain ⟨ad, e, hD, hc⟩ := h1.2 j u hu
  refine ⟨ad, e, ⟨hD.1, Nat.lt_of_lt_of_le hD.2 ho.size⟩, ?_⟩
  obtain ⟨g1, g2⟩ := hr.off (n0 := n0) ad e
  rw [World.cell?_of_block (a := ad.add j) (w := w) (by rw [addr_block]; exact ho.block _ hD.2 g2 (.inr g1))]
  exact hc

set_option maxHeartbeats 1600000 in
theorem changeC2 (n0 : Nat) (w : World) (J : Nat) (hs : List (List PR)) (cur nxt : List PR) (A : Option Addr) (c fn : Nat) (lb : Array Value) (F : List PR → List PR) (h : Jr n0 w J hs cur)
    (hr : RightM nxt) (hc : nxt.length ≤ c) (hm : c ≤ maxLen) (hp : PrsX n0 w A c nxt) (ha : Acts n0 w (.func (.func fn) #[] lb) F) (hM : Mild F) (hF : F nxt = cur) (hl : hs.length < 1000) :
    Calls Try.prog 33 #[.pointer (some ⟨J, 0, none⟩), .slice A nxt.length c, .func (.func fn) #[] lb] w fun e w' => e = .returned (.tuple #[]) ∧ Chd n0 J w (hs ++ [cur]) nxt w' ∧ w'.cell? ⟨J, 0, none⟩ = some (.slice A nxt.length c) := by
  obtain ⟨A1, c1, R, cr, fs, Fs, h1, h2, h3, h4, h5, h7, h8, h9, h10⟩ := h.ex
  obtain ⟨g0, g1, g2, g3⟩ := cells2 h1
  obtain ⟨i0, hi, hz0, hz1, hz2⟩ := info_parts info60
  have hsp := h.sp
  have hJlt := hsp.lt
  have h1' := (heap_set2 h1 (.slice A nxt.length c)).1
  have hsz := setCell_size w ⟨J, 0, none⟩ (.slice A nxt.length c)
  have hsp1 : Sp n0 (w.setCell ⟨J, 0, none⟩ (.slice A nxt.length c)) J := ⟨h.hJ, _, 54, _, h1', .inl rfl, noI_two⟩
  have o1 : Off n0 w (w.setCell ⟨J, 0, none⟩ (.slice A nxt.length c)) := Off.set2 hsp hsp1
  have hb := below_alloc (w.setCell ⟨J, 0, none⟩ (.slice A nxt.length c)) (.cells #[.func (.func fn) #[] lb] 60)
  have hRJ : ∀ g, (Value.slice R hs.length cr).ownBlock = some g → g ≠ J := fun g hg => by
    obtain ⟨cs, ht⟩ := h5.tag hg
    exact tag_ne ht h1 (by decide)
  have hN := cell_one_new (w.setCell ⟨J, 0, none⟩ (.slice A nxt.length c)) (.func (.func fn) #[] lb) 60
  rw [hsz] at hN
  have HN := Lib.hid hN
  have hR1 : Rws n0 ((w.setCell ⟨J, 0, none⟩ (.slice A nxt.length c)).alloc (.cells #[.func (.func fn) #[] lb] 60)) 60 (.slice R hs.length cr) hs.length fs :=
    Rws.on (h5.keep fun g hg => heap_setCell_far _ _ _ _ _ (hRJ g hg)) hb
  have HO := Lib.hid hR1
  have HR : Hid (Off n0 w ((w.setCell ⟨J, 0, none⟩ (.slice A nxt.length c)).alloc (.cells #[.func (.func fn) #[] lb] 60)) ∧ ((w.setCell ⟨J, 0, none⟩ (.slice A nxt.length c)).alloc (.cells #[.func (.func fn) #[] lb] 60)).heap[J]? = some (.cells #[.slice A nxt.length c, .slice R hs.length cr] 54 (0, 0)) ∧ n0 ≤ ((w.setCell ⟨J, 0, none⟩ (.slice A nxt.length c)).alloc (.cells #[.func (.func fn) #[] lb] 60)).heap.size ∧ J < ((w.setCell ⟨J, 0, none⟩ (.slice A nxt.length c)).alloc (.cells #[.func (.func fn) #[] lb] 60)).heap.size ∧ (∀ b, b < w.heap.size → b ≠ J → ((w.setCell ⟨J, 0, none⟩ (.slice A nxt.length c)).alloc (.cells #[.func (.func fn) #[] lb] 60)).heap[b]? = w.heap[b]?) ∧ w.heap.size ≤ ((w.setCell ⟨J, 0, none⟩ (.slice A nxt.length c)).alloc (.cells #[.func (.func fn) #[] lb] 60)).heap.size) :=
    ⟨o1.then hb, by rw [hb.block J (by rw [hsz]; exact hJlt)]; exact h1', by have := h.hJ; rw [World.size_alloc, hsz]; omega, by rw [World.size_alloc, hsz]; omega,
      fun b hb' hbJ => by rw [hb.block b (by rw [hsz]; exact hb')]; exact heap_setCell_far _ _ _ _ _ hbJ, by rw [World.size_alloc, hsz]; omega⟩
  have HP := Lib.hid hp
  have HA := Lib.hid ha
  have HFF : Hid (RightM nxt ∧ Mild F ∧ F nxt = cur ∧ c ≤ maxLen) := ⟨hr, hM, hF, hm⟩
  have HE : Hid (Fs.length = hs.length ∧ (∀ (i : Nat) (f : Value) (F : List PR → List PR), fs[i]? = some f → Fs[i]? = some F → Acts n0 w f F) ∧ (∀ F ∈ Fs, Mild F) ∧ Chain (hs ++ [cur]) Fs ∧ fs.length = hs.length) := ⟨h7, h8, h9, h10, by have := h5.1.1; omega⟩
  have HJ : Hid (n0 ≤ J ∧ (∀ s ∈ hs ++ [cur], RightM s) ∧ (∀ g, (Value.slice R hs.length cr).ownBlock = some g → g ≠ J) ∧ w.cell? ⟨J, 1, none⟩ = some (.slice R hs.length cr) ∧ ∀ g, (Value.slice R hs.length cr).ownBlock = some g → g < w.heap.size) := ⟨h.hJ, h.right, hRJ, g1, fun g hg => (h5.1.lt g hg).2⟩
  clear hsz hsp hsp1 hN h h1 h2 h3 h4 h5 h7 h8 h9 h10 h1' o1 hb hR1 hp ha hr hM hF hm hRJ
  go_enter Try.func33, Try.ntmps33
  go_wp2_with (at_builtin; refine Rws.wpList (n0 := n0) rfl (.tmp 14) (.tmp 16) 52 rfl 60 i0 _ 8 Try.underlying52 hi hz0 hz1 hz2 rfl (NoI.list (l := [Value.nilFunc]) (by simp)) (.inr (.inr (.inl rfl))) rfl HO.out ⟨w.heap.size, 0, none⟩ 1 1 [.func (.func fn) #[] lb] rfl rfl (by omega) HN.out (by simp [Value.oneCell']) (by simp) (by unfold maxLen; omega) (by omega) HR.out.2.2.1 ?_; intro v' w2 ho2 hg2 hoff; refine Hid.out ?_)
  obtain ⟨R', cr', rfl, k1, k2, k3⟩ := own_lies ho2.1
  have hJ2 : w2.heap[J]? = some (.cells #[.slice A nxt.length c, .slice R hs.length cr] 54 (0, 0)) := by
    rw [hg2.block J HR.out.2.2.2.1 fun e => HJ.out.2.2.1 J e.symm rfl]
    exact HR.out.2.1
  obtain ⟨q0, q1, q2, q3⟩ := cells2 hJ2
  have h3 := (heap_set2 hJ2 (.slice R' (hs.length + 1) cr')).2
  have hsp2 : Sp n0 w2 J := ⟨HJ.out.1, _, 54, _, hJ2, .inl rfl, noI_two⟩
  have hsp3 : Sp n0 (w2.setCell ⟨J, 1, none⟩ (.slice R' (hs.length + 1) cr')) J := ⟨HJ.out.1, _, 54, _, h3, .inl rfl, noI_two⟩
  have hof : Off n0 w (w2.setCell ⟨J, 1, none⟩ (.slice R' (hs.length + 1) cr')) := (HR.out.1.trans hoff).trans (Off.set2 hsp2 hsp3)
  have HF : Hid (Chd n0 J w (hs ++ [cur]) nxt (w2.setCell ⟨J, 1, none⟩ (.slice R' (hs.length + 1) cr'))) := by
    refine ⟨hof, fun b hb hnb => ?_, HJ.out.1, by simp; omega, fun s hs' => ?_, A, c, R', cr', fs ++ [.func (.func fn) #[] lb], Fs ++ [F], by simpa using h3, hc, HFF.out.2.2.2, HP.out.off hof, ?_, by simp [HE.out.1], fun i f G h1 h2 => ?_, fun G hG => ?_, ?_⟩
    · have hbJ : b ≠ J := fun e => hnb (.inl e)
      rw [heap_setCell_far _ _ _ _ _ hbJ, hg2.block b (Nat.lt_of_lt_of_le hb HR.out.2.2.2.2.2) fun e => hnb (.inr ⟨_, b, HJ.out.2.2.2.1, e.symm, rfl⟩)]
      exact HR.out.2.2.2.2.1 b hb hbJ
    · rcases List.mem_append.1 hs' with e | e
      · exact HJ.out.2.1 s e
      · obtain rfl : s = nxt := by simpa using e
        exact HFF.out.1
    · have hk : Rws n0 (w2.setCell ⟨J, 1, none⟩ (.slice R' (hs.length + 1) cr')) 60 (.slice R' (hs.length + 1) cr') (hs.length + 1) (fs ++ [.func (.func fn) #[] lb]) := ho2.keep fun g hg => by
        obtain ⟨cs, ht⟩ := ho2.tag hg
        exact heap_setCell_far _ _ _ _ _ (tag_ne ht hJ2 (by decide))
      simpa using hk
    · rcases Nat.lt_or_ge i fs.length with hi | hi
      · rw [List.getElem?_append_left hi] at h1
        rw [List.getElem?_append_left (by rw [HE.out.1, ← HE.out.2.2.2.2]; exact hi)] at h2
        exact (HE.out.2.1 i f G h1 h2).off hof
      · have hii : i = fs.length := by have := (List.getElem?_eq_some_iff.1 h1).1; simp at this; omega
        subst hii
        rw [List.getElem?_append_right (Nat.le_refl _)] at h1
        rw [HE.out.2.2.2.2, ← HE.out.1, List.getElem?_append_right (Nat.le_refl _)] at h2
        simp at h1 h2
        subst h1 h2
        exact HA.out.off hof
    · rcases List.mem_append.1 hG with e | e
      · exact HE.out.2.2.1 G e
      · obtain rfl : G = F := by simpa using e
        exact HFF.out.2.1
    · exact chain_snoc HE.out.2.2.2.1 HE.out.1 HFF.out.2.2.1
  have HFC : Hid ((w2.setCell ⟨J, 1, none⟩ (.slice R' (hs.length + 1) cr')).cell? ⟨J, 0, none⟩ = some (.slice A nxt.length c)) := (cells2 h3).1
  clear hof hsp3 hsp2 h3 hJ2 k3 ho2 hg2 hoff
  refine Lib.hid ?_
  go_wp2
  go_end0
  exact ⟨rfl, HF.out, HFC.out⟩

/-- what 'Put' of a journal returns and leaves, and where its pairs lie -/
def PutJ2 (n0 J : Nat) (hs : List (List PR)) (cur : List PR) (key val : List Int) (w : World) (e : Ending) (w' : World) : Prop :=
  e = .returned (.int .i64 (putE cur key val)) ∧ (putE cur key val = 0 → Chd n0 J w (hs ++ [cur]) (putM cur key val) w' ∧ ∃ A c, w'.cell? ⟨J, 0, none⟩ = some (.slice A (putM cur key val).length c) ∧ (putM cur key val).length ≤ c ∧ c ≤ maxLen ∧ PrsD w' (Fr w.heap.size w'.heap.size) A c (putM cur key val)) ∧ (putE cur key val ≠ 0 → Below w.heap.size w w')

set_option maxHeartbeats 1600000 in
theorem putJC2 (n0 : Nat) (w : World) (J : Nat) (hs : List (List PR)) (cur : List PR) (h : Jr n0 w J hs cur) (hl : hs.length < 1000) (Ak : Option Addr) (key : List Int) (ck : Nat) (Av : Option Addr) (val : List Int) (cv : Nat)
    (hk : SB w w.heap.size (.slice Ak key.length ck) key) (hv : SB w w.heap.size (.slice Av val.length cv) val) :
    Calls Try.prog 12 #[.pointer (some ⟨J, 0, none⟩), .slice Ak key.length ck, .slice Av val.length cv] w (PutJ2 n0 J hs cur key val w) := by
  obtain ⟨A, c, R, cr, g0, g1, g2, g3, g4, g5⟩ := h.at
  have hsm := right_sml h.cur
  have K1 := Lib.hid (putC A cur c Ak key ck Av val cv w g4.1 g2 g3 hk hv hsm.1 (by have := hsm.2; omega))
  have hJlt := h.sp.lt
  have HJ := Lib.hid h
  have HK := Lib.hid hk
  have HM := Lib.hid g3
  have HP := Lib.hid g4
  clear h g4 hk hv hsm g1
  unfold maxLen at g3
  unfold PutJ2
  by_cases hE : putE cur key val = 0
  · obtain ⟨q1, q2, q3⟩ := putE_lens hE
    have HR : Hid (RightM (putM cur key val)) := right_putM HJ.out.cur hE
    have HU : Hid (hasM cur key = false → delM (putM cur key val) key = cur) := undo_new HJ.out.cur
    have HU2 : Hid (hasM cur key = true → putR (putM cur key val) key (getM cur key) = cur) := undo_over HJ.out.cur
    have HG : Hid (hasM cur key = true → (getM cur key).length ≤ 256) := fun h => ((HJ.out.cur.1 _ (get_mem h)).2)
    rw [hE] at K1 ⊢
    rw [q3] at K1
    generalize putM cur key val = nxt at *
    generalize hgv : getM cur key = gv at *
    generalize hhv : hasM cur key = is at *
    have HV : Hid (getM cur key = gv ∧ hasM cur key = is) := ⟨hgv, hhv⟩
    clear hE q2 q3 hgv hhv
    go_enter Try.func12, Try.ntmps12
    go_wp2_with fail
    (with_reducible refine K1.out.mono ?_)
    rintro e w1 ⟨A1, c1, rfl, k1, k2, k3, k4, k5⟩
    have HN : Hid (nxt.length ≤ c1 ∧ c1 ≤ maxLen ∧ PrsX n0 w1 A1 c1 nxt) := ⟨k1, k2, k3.here, k4.off⟩
    have HB1 := Lib.hid k5
    have HD1 : Hid (PrsD w1 (Fr w.heap.size w1.heap.size) A1 c1 nxt ∧ RowF w1 A1) := ⟨k3, k4⟩
    have HK1 := Lib.hid (HK.out.on k5)
    have K2 := Lib.hid (takeOutC n0 Ak key ck w1 HK1.out (by omega))
    clear k1 k2 k3 k4 k5 K1
    go_wp2_with fail
    (with_reducible refine K2.out.mono ?_)
    rintro e w2 ⟨fn, lb, rfl, ha, hb⟩
    have HA := Lib.hid ha
    have HB2 := Lib.hid (HB1.out.trans (hb.mono HB1.out.size))
    have HD2 : Hid (PrsD w2 (Fr w.heap.size w2.heap.size) A1 c1 nxt ∧ RowF w2 A1) := ⟨HD1.out.1.fr hb, HD1.out.2.on hb⟩
    have HN2 : Hid (nxt.length ≤ c1 ∧ c1 ≤ maxLen ∧ PrsX n0 w2 A1 c1 nxt) := ⟨HN.out.1, HN.out.2.1, HN.out.2.2.on hb⟩
    have hg0 : w2.cell? ⟨J, 0, none⟩ = some (.slice A cur.length c) := by rw [HB2.out.cell (p := ⟨J, 0, none⟩) hJlt]; exact g0
    have K3 := Lib.hid (getC A cur c Ak key ck w2 (HP.out.1.on HB2.out) g2 HM.out (HK.out.on HB2.out) (right_sml HJ.out.cur).1)
    rw [HV.out.1, HV.out.2] at K3
    clear ha hb K2 HN HK1
    go_wp2_with fail
    (with_reducible refine K3.out.mono ?_)
    rintro e w3 ⟨V, rfl, k1, k2, k3⟩
    have HB3 := Lib.hid (HB2.out.trans (k3.mono HB2.out.size))
    have HD3 : Hid (PrsD w3 (Fr w.heap.size w3.heap.size) A1 c1 nxt ∧ RowF w3 A1) := ⟨HD2.out.1.fr k3, HD2.out.2.on k3⟩
    have HN3 : Hid (nxt.length ≤ c1 ∧ c1 ≤ maxLen ∧ PrsX n0 w3 A1 c1 nxt) := ⟨HN2.out.1, HN2.out.2.1, HN2.out.2.2.on k3⟩
    have HA3 : Hid (Acts n0 w3 (.func (.func fn) #[] lb) (fun a => delM a key)) := HA.out.off (.of k3)
    obtain ⟨Av', cv', rfl, hsv⟩ : ∃ A c, V = .slice A gv.length c ∧ SB w3 w3.heap.size (.slice A gv.length c) gv := by
      obtain ⟨A, c, rfl, x⟩ := own_SB k1 k2
      exact ⟨A, c, rfl, A, c, rfl, x⟩
    have HSV := Lib.hid hsv
    have HK3 := Lib.hid (HK.out.on HB3.out)
    have HJ3 := Lib.hid (HJ.out.on HB3.out)
    clear k1 k2 k3 K3 hsv HA HN2 hg0
    cases is with
    | false =>
      have K4 := Lib.hid (changeC2 n0 w3 J hs cur nxt A1 c1 fn lb (fun a => delM a key) HJ3.out HR.out HN3.out.1 HN3.out.2.1 HN3.out.2.2 HA3.out (mild_del key) (HU.out (by first | rfl | trivial)) hl)
      go_wp2_with fail
      (with_reducible refine K4.out.mono ?_)
      rintro e w4 ⟨rfl, hc, hc2⟩
      have HC := Lib.hid (hc.from HJ.out HB3.out)
      have HP2 : Hid (∃ A c, w4.cell? ⟨J, 0, none⟩ = some (.slice A nxt.length c) ∧ nxt.length ≤ c ∧ c ≤ maxLen ∧ PrsD w4 (Fr w.heap.size w4.heap.size) A c nxt) := ⟨_, _, hc2, HN3.out.1, HN3.out.2.1, HD3.out.1.off HD3.out.2 hc.1⟩
      clear hc2
      clear hc
      go_wp2
      go_ret
      exact ⟨rfl, fun _ => ⟨HC.out, HP2.out⟩, fun h => absurd rfl h⟩
    | true =>
      have K4 := Lib.hid (putBackC n0 Ak key ck Av' gv cv' w3 HK3.out (by omega) HSV.out)
      go_wp2_with fail
      (with_reducible refine K4.out.mono ?_)
      rintro e w4 ⟨fn', lb', rfl, ha, hb⟩
      have HB4 := Lib.hid (HB3.out.trans (hb.mono HB3.out.size))
      have HD4 : Hid (PrsD w4 (Fr w.heap.size w4.heap.size) A1 c1 nxt ∧ RowF w4 A1) := ⟨HD3.out.1.fr hb, HD3.out.2.on hb⟩
      have K5 := Lib.hid (changeC2 n0 w4 J hs cur nxt A1 c1 fn' lb' (fun a => putR a key gv) (HJ3.out.on hb) HR.out HN3.out.1 HN3.out.2.1 (HN3.out.2.2.on hb) ha (mild_put key gv) (HU2.out (by first | rfl | trivial)) hl)
      clear ha hb K4
      go_wp2_with fail
      (with_reducible refine K5.out.mono ?_)
      rintro e w5 ⟨rfl, hc, hc2⟩
      have HC := Lib.hid (hc.from HJ.out HB4.out)
      have HP2 : Hid (∃ A c, w5.cell? ⟨J, 0, none⟩ = some (.slice A nxt.length c) ∧ nxt.length ≤ c ∧ c ≤ maxLen ∧ PrsD w5 (Fr w.heap.size w5.heap.size) A c nxt) := ⟨_, _, hc2, HN3.out.1, HN3.out.2.1, HD4.out.1.off HD4.out.2 hc.1⟩
      clear hc2
      clear hc
      go_wp2
      go_ret
      exact ⟨rfl, fun _ => ⟨HC.out, HP2.out⟩, fun h => absurd rfl h⟩
  · have hb0 : (putE cur key val == 0) = false := by simpa using hE
    have HEE := Lib.hid hE
    generalize putR cur key val = r at *
    generalize putE cur key val = E at *
    clear hE
    go_enter Try.func12, Try.ntmps12
    go_wp2_with fail
    (with_reducible refine K1.out.mono ?_)
    rintro e w1 ⟨A1, c1, rfl, k1, k2, k3, k4, k5⟩
    have HB1 := Lib.hid k5
    clear k1 k2 k3 k4 k5
    go_wp2
    go_ret
    exact ⟨rfl, fun h => absurd h HEE.out, fun _ => HB1.out⟩


set_option maxHeartbeats 400000 in
theorem jgetRaw (w : World) (J : Nat) (A : Option Addr) (c : Nat) (cur : List PR) (g0 : w.cell? ⟨J, 0, none⟩ = some (.slice A cur.length c)) (hp : Prs w w.heap.size A c cur) (g2 : cur.length ≤ c) (g3 : c ≤ maxLen) (hr : RightM cur) (Ak : Option Addr) (key : List Int) (ck : Nat) (hk : SB w w.heap.size (.slice Ak key.length ck) key) :
    Calls Try.prog 18 #[.pointer (some ⟨J, 0, none⟩), .slice Ak key.length ck] w (GotO w (getM cur key) (hasM cur key)) := by
  have K := Lib.hid (getC A cur c Ak key ck w hp g2 g3 hk (right_sml hr).1)
  clear hp hk hr
  unfold maxLen at g3
  generalize getM cur key = gv at *
  generalize hasM cur key = hv at *
  go_enter Try.func18, Try.ntmps18
  go_wp2_with fail
  (with_reducible refine K.out.mono ?_)
  rintro e w1 ⟨V, rfl, h1⟩
  have H := Lib.hid h1
  clear h1
  go_wp2
  go_ret2
  exact ⟨V, rfl, H.out⟩
set_option maxHeartbeats 400000 in
theorem pairsRaw (w : World) (J : Nat) (A : Option Addr) (c : Nat) (cur : List PR) (g0 : w.cell? ⟨J, 0, none⟩ = some (.slice A cur.length c)) (hp : Prs w w.heap.size A c cur) (g2 : cur.length ≤ c) (g3 : c ≤ maxLen) (hr : RightM cur) :
    Calls Try.prog 23 #[.pointer (some ⟨J, 0, none⟩)] w (NewO w cur) := by
  have K := Lib.hid (jcopiedC A cur c w hp (right_sml hr).1)
  clear hp hr
  unfold maxLen at g3
  go_enter Try.func23, Try.ntmps23
  go_wp2_with fail
  (with_reducible refine K.out.mono ?_)
  rintro e w1 ⟨A', c', vs, rfl, h1⟩
  have H := Lib.hid h1
  clear h1
  go_wp2
  go_ret
  exact ⟨A', c', vs, rfl, H.out⟩
end Go.Proofs.Ytncbbjodianmoaa
