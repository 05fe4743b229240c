/- A journal made anew, its value, its mark, its pairs; 'Put' and 'Del' of it. Conditions: what is read lies in memory. -/
import Derived.Test.YtncbbjodianmoaaJd
namespace Go.Proofs.Ytncbbjodianmoaa
open Go.RowKit
set_option linter.unusedSimpArgs false
set_option linter.unusedVariables false

/-- what 'New' returns of a right store -/
def NewJ (w : World) (ls : List PR) (e : Ending) (w' : World) : Prop :=
  ∃ J A' c', e = .returned (.pointer (some ⟨J, 0, none⟩)) ∧ w.heap.size ≤ J ∧ w'.heap[J]? = some (.cells #[.slice A' ls.length c', .slice none 0 0] 54 (0, 0)) ∧ ls.length ≤ c' ∧ c' ≤ maxLen ∧ PrsD w' (Fr w.heap.size w'.heap.size) A' c' ls ∧ RowF w' A' ∧ Below w.heap.size w w'

set_option maxHeartbeats 800000 in
theorem newC (A : Option Addr) (ls : List PR) (c : Nat) (w : World) (hp : Prs w w.heap.size A c ls) (hc : ls.length ≤ c) (hm : c ≤ maxLen) (hl : ls.length ≤ 2932031007402) (hr : RightM ls) :
    Calls Try.prog 9 #[.slice A ls.length c] w (NewJ w ls) := by
  have K1 := Lib.hid (rightC A ls c w hp hc hm hl)
  rw [decide_eq_true hr] at K1
  have HP := Lib.hid hp
  have HS := Lib.hid (right_sml hr).1
  clear hp hr hl
  unfold maxLen at hm
  go_enter Try.func9, Try.ntmps9
  go_wp2_with fail
  (with_reducible refine K1.out.mono ?_)
  rintro e w1 ⟨rfl, hb1⟩
  have K2 := Lib.hid (jcopiedC A ls c w1 (HP.out.on hb1) HS.out)
  have HB := Lib.hid hb1
  clear hb1
  go_wp2_with fail
  (with_reducible refine K2.out.mono ?_)
  rintro e w2 h
  obtain ⟨A', c', rfl, g1, g2, g3, g4, g5⟩ := h.f
  have hb := below_alloc w2 (.cells #[.slice A' ls.length c', .slice none 0 0] 54)
  have HF : Hid (w.heap.size ≤ w2.heap.size ∧ (w2.alloc (.cells #[.slice A' ls.length c', .slice none 0 0] 54)).heap[w2.heap.size]? = some (.cells #[.slice A' ls.length c', .slice none 0 0] 54 (0, 0)) ∧ ls.length ≤ c' ∧ c' ≤ maxLen ∧ PrsD (w2.alloc (.cells #[.slice A' ls.length c', .slice none 0 0] 54)) (Fr w.heap.size (w2.alloc (.cells #[.slice A' ls.length c', .slice none 0 0] 54)).heap.size) A' c' ls ∧ RowF (w2.alloc (.cells #[.slice A' ls.length c', .slice none 0 0] 54)) A' ∧ Below w.heap.size w (w2.alloc (.cells #[.slice A' ls.length c', .slice none 0 0] 54))) :=
    ⟨Nat.le_trans HB.out.size g5.size, heap_alloc_new w2 _, g1, g2, (g3.fr hb).lo HB.out.size, g4.on hb, (HB.out.trans (g5.mono HB.out.size)).trans (hb.mono (Nat.le_trans HB.out.size g5.size))⟩
  clear g1 g2 g3 g4 g5 h hb
  go_wp2
  go_ret
  exact ⟨_, A', c', rfl, HF.out⟩
set_option maxHeartbeats 800000 in
theorem newC_nil (A : Option Addr) (ls : List PR) (c : Nat) (w : World) (hp : Prs w w.heap.size A c ls) (hc : ls.length ≤ c) (hm : c ≤ maxLen) (hl : ls.length ≤ 2932031007402) (hr : ¬ RightM ls) :
    Calls Try.prog 9 #[.slice A ls.length c] w fun e w' => e = .returned (.pointer none) ∧ Below w.heap.size w w' := by
  have K1 := Lib.hid (rightC A ls c w hp hc hm hl)
  rw [decide_eq_false hr] at K1
  clear hp hr hl
  unfold maxLen at hm
  go_enter Try.func9, Try.ntmps9
  go_wp2_with fail
  (with_reducible refine K1.out.mono ?_)
  rintro e w1 ⟨rfl, hb1⟩
  have HB := Lib.hid hb1
  clear hb1
  go_wp2
  go_ret
  exact ⟨rfl, HB.out⟩
/-- it is a journal -/
theorem NewJ.jr {n0 : Nat} {w : World} {ls : List PR} {e : Ending} {w' : World} (h : NewJ w ls e w') (hr : RightM ls) (hn : n0 ≤ w.heap.size) : ∃ J, e = .returned (.pointer (some ⟨J, 0, none⟩)) ∧ w.heap.size ≤ J ∧ Jr n0 w' J [] ls ∧ Below w.heap.size w w' := by
  obtain ⟨J, A', c', h1, h2, h3, h4, h5, h6, h7, h8⟩ := h
  exact ⟨J, h1, h2, ⟨Nat.le_trans hn h2, by simp, by simpa using hr, A', c', none, 0, [], [], h3, h4, h5, ⟨h6.here, h7.off⟩, .nil _ _ _, rfl, by simp, by simp, fun i F a b hF => by simp at hF⟩, h8⟩

/-- what a walk wants of a journal -/
theorem Jr.at {n0 : Nat} {w : World} {J : Nat} {hs : List (List PR)} {cur : List PR} (h : Jr n0 w J hs cur) : ∃ A c R cr, w.cell? ⟨J, 0, none⟩ = some (.slice A cur.length c) ∧ w.cell? ⟨J, 1, none⟩ = some (.slice R hs.length cr) ∧ cur.length ≤ c ∧ c ≤ maxLen ∧ PrsX n0 w A c cur ∧ hs.length ≤ 1000 := by
  obtain ⟨A, c, R, cr, fs, Fs, h1, h2, h3, h4, _⟩ := h.ex
  obtain ⟨g0, g1, _⟩ := cells2 h1
  exact ⟨A, c, R, cr, g0, g1, h2, h3, h4, h.len⟩

set_option maxHeartbeats 400000 in
theorem markC (n0 : Nat) (w : World) (J : Nat) (hs : List (List PR)) (cur : List PR) (h : Jr n0 w J hs cur) :
    Calls Try.prog 20 #[.pointer (some ⟨J, 0, none⟩)] w fun e w' => e = .returned (.int .i64 hs.length) ∧ w = w' := by
  obtain ⟨A, c, R, cr, g0, g1, g2, g3, g4, g5⟩ := h.at
  clear h g4
  go_enter Try.func20, Try.ntmps20
  go_wp2
  go_ret
  exact ⟨rfl, rfl⟩
set_option maxHeartbeats 400000 in
theorem jgetC (n0 : Nat) (w : World) (J : Nat) (hs : List (List PR)) (cur : List PR) (h : Jr n0 w J hs cur) (Ak : Option Addr) (key : List Int) (ck : Nat) (hk : SB w w.heap.size (.slice Ak key.length ck) key) :
    Calls Try.prog 18 #[.pointer (some ⟨J, 0, none⟩), .slice Ak key.length ck] w (GotO w (getM cur key) (hasM cur key)) := by
  obtain ⟨A, c, R, cr, g0, g1, g2, g3, g4, g5⟩ := h.at
  have K := Lib.hid (getC A cur c Ak key ck w g4.1 g2 g3 hk (right_sml h.cur).1)
  clear h g4 hk
  unfold maxLen at g3
  generalize getM cur key = gv at *
  generalize hasM cur key = hv at *
  go_enter Try.func18, Try.ntmps18
  go_wp2_with fail
  (with_reducible refine K.out.mono ?_)
  rintro e w1 ⟨V, rfl, h1⟩
  have H := Lib.hid h1
  clear h1
  go_wp2
  go_ret2
  exact ⟨V, rfl, H.out⟩
set_option maxHeartbeats 400000 in
theorem pairsC (n0 : Nat) (w : World) (J : Nat) (hs : List (List PR)) (cur : List PR) (h : Jr n0 w J hs cur) :
    Calls Try.prog 23 #[.pointer (some ⟨J, 0, none⟩)] w (NewO w cur) := by
  obtain ⟨A, c, R, cr, g0, g1, g2, g3, g4, g5⟩ := h.at
  have K := Lib.hid (jcopiedC A cur c w g4.1 (right_sml h.cur).1)
  clear h g4
  unfold maxLen at g3
  go_enter Try.func23, Try.ntmps23
  go_wp2_with fail
  (with_reducible refine K.out.mono ?_)
  rintro e w1 ⟨A', c', vs, rfl, h1⟩
  have H := Lib.hid h1
  clear h1
  go_wp2
  go_ret
  exact ⟨A', c', vs, rfl, H.out⟩

theorem Jr.jb {n0 : Nat} {w w' : World} {J : Nat} {hs : List (List PR)} {cur : List PR} (h : Jr n0 w J hs cur) (hb : Below w.heap.size w w') (b : Nat) : Jb w' J b ↔ Jb w J b := by
  unfold Jb
  rw [hb.cell (p := ⟨J, 1, none⟩) h.sp.lt]
/-- what was before a change changed nothing -/
theorem Chd.from {n0 J : Nat} {w w4 w' : World} {hs hs' : List (List PR)} {cur cur' : List PR} (h : Chd n0 J w4 hs' cur' w') (hj : Jr n0 w J hs cur) (hb : Below w.heap.size w w4) : Chd n0 J w hs' cur' w' :=
  ⟨(Off.of hb).trans h.1, fun b hlt hnb => (h.2.1 b (Nat.lt_of_lt_of_le hlt hb.size) fun h' => hnb ((hj.jb hb b).1 h')).trans (hb.block b hlt), h.2.2⟩
theorem NewA.on {n0 : Nat} {w w' w'' : World} {F : List PR → List PR} {fn : Nat} {lb : Array Value} (h : Acts n0 w' (.func (.func fn) #[] lb) F) (hb : Below w'.heap.size w' w'') : Acts n0 w'' (.func (.func fn) #[] lb) F := h.off (.of hb)

/-- what 'Put' of a journal returns and leaves -/
def PutJ (n0 J : Nat) (hs : List (List PR)) (cur : List PR) (key val : List Int) (w : World) (e : Ending) (w' : World) : Prop :=
  e = .returned (.int .i64 (putE cur key val)) ∧ (putE cur key val = 0 → Chd n0 J w (hs ++ [cur]) (putM cur key val) w') ∧ (putE cur key val ≠ 0 → Below w.heap.size w w')
theorem putE_lens {l : List PR} {k v : List Int} (h : putE l k v = 0) : k.length ≤ 64 ∧ v.length ≤ 256 ∧ putR l k v = putM l k v := by
  refine ⟨?_, ?_, if_pos h⟩ <;>
  · unfold putE at h
    split at h
    · cases h
    · omega

set_option maxHeartbeats 1600000 in
theorem putJC (n0 : Nat) (w : World) (J : Nat) (hs : List (List PR)) (cur : List PR) (h : Jr n0 w J hs cur) (hl : hs.length < 1000) (Ak : Option Addr) (key : List Int) (ck : Nat) (Av : Option Addr) (val : List Int) (cv : Nat)
    (hk : SB w w.heap.size (.slice Ak key.length ck) key) (hv : SB w w.heap.size (.slice Av val.length cv) val) :
    Calls Try.prog 12 #[.pointer (some ⟨J, 0, none⟩), .slice Ak key.length ck, .slice Av val.length cv] w (PutJ n0 J hs cur key val w) := by
  obtain ⟨A, c, R, cr, g0, g1, g2, g3, g4, g5⟩ := h.at
  have hsm := right_sml h.cur
  have K1 := Lib.hid (putC A cur c Ak key ck Av val cv w g4.1 g2 g3 hk hv hsm.1 (by have := hsm.2; omega))
  have hJlt := h.sp.lt
  have HJ := Lib.hid h
  have HK := Lib.hid hk
  have HM := Lib.hid g3
  have HP := Lib.hid g4
  clear h g4 hk hv hsm g1
  unfold maxLen at g3
  unfold PutJ
  by_cases hE : putE cur key val = 0
  · obtain ⟨q1, q2, q3⟩ := putE_lens hE
    have HR : Hid (RightM (putM cur key val)) := right_putM HJ.out.cur hE
    have HU : Hid (hasM cur key = false → delM (putM cur key val) key = cur) := undo_new HJ.out.cur
    have HU2 : Hid (hasM cur key = true → putR (putM cur key val) key (getM cur key) = cur) := undo_over HJ.out.cur
    have HG : Hid (hasM cur key = true → (getM cur key).length ≤ 256) := fun h => ((HJ.out.cur.1 _ (get_mem h)).2)
    rw [hE] at K1 ⊢
    rw [q3] at K1
    generalize putM cur key val = nxt at *
    generalize hgv : getM cur key = gv at *
    generalize hhv : hasM cur key = is at *
    have HV : Hid (getM cur key = gv ∧ hasM cur key = is) := ⟨hgv, hhv⟩
    clear hE q2 q3 hgv hhv
    go_enter Try.func12, Try.ntmps12
    go_wp2_with fail
    (with_reducible refine K1.out.mono ?_)
    rintro e w1 ⟨A1, c1, rfl, k1, k2, k3, k4, k5⟩
    have HN : Hid (nxt.length ≤ c1 ∧ c1 ≤ maxLen ∧ PrsX n0 w1 A1 c1 nxt) := ⟨k1, k2, k3.here, k4.off⟩
    have HB1 := Lib.hid k5
    have HK1 := Lib.hid (HK.out.on k5)
    have K2 := Lib.hid (takeOutC n0 Ak key ck w1 HK1.out (by omega))
    clear k1 k2 k3 k4 k5 K1
    go_wp2_with fail
    (with_reducible refine K2.out.mono ?_)
    rintro e w2 ⟨fn, lb, rfl, ha, hb⟩
    have HA := Lib.hid ha
    have HB2 := Lib.hid (HB1.out.trans (hb.mono HB1.out.size))
    have HN2 : Hid (nxt.length ≤ c1 ∧ c1 ≤ maxLen ∧ PrsX n0 w2 A1 c1 nxt) := ⟨HN.out.1, HN.out.2.1, HN.out.2.2.on hb⟩
    have hg0 : w2.cell? ⟨J, 0, none⟩ = some (.slice A cur.length c) := by rw [HB2.out.cell (p := ⟨J, 0, none⟩) hJlt]; exact g0
    have K3 := Lib.hid (getC A cur c Ak key ck w2 (HP.out.1.on HB2.out) g2 HM.out (HK.out.on HB2.out) (right_sml HJ.out.cur).1)
    rw [HV.out.1, HV.out.2] at K3
    clear ha hb K2 HN HK1
    go_wp2_with fail
    (with_reducible refine K3.out.mono ?_)
    rintro e w3 ⟨V, rfl, k1, k2, k3⟩
    have HB3 := Lib.hid (HB2.out.trans (k3.mono HB2.out.size))
    have HN3 : Hid (nxt.length ≤ c1 ∧ c1 ≤ maxLen ∧ PrsX n0 w3 A1 c1 nxt) := ⟨HN2.out.1, HN2.out.2.1, HN2.out.2.2.on k3⟩
    have HA3 : Hid (Acts n0 w3 (.func (.func fn) #[] lb) (fun a => delM a key)) := HA.out.off (.of k3)
    obtain ⟨Av', cv', rfl, hsv⟩ : ∃ A c, V = .slice A gv.length c ∧ SB w3 w3.heap.size (.slice A gv.length c) gv := by
      obtain ⟨A, c, rfl, x⟩ := own_SB k1 k2
      exact ⟨A, c, rfl, A, c, rfl, x⟩
    have HSV := Lib.hid hsv
    have HK3 := Lib.hid (HK.out.on HB3.out)
    have HJ3 := Lib.hid (HJ.out.on HB3.out)
    clear k1 k2 k3 K3 hsv HA HN2 hg0
    cases is with
    | false =>
      have K4 := Lib.hid (changeC n0 w3 J hs cur nxt A1 c1 fn lb (fun a => delM a key) HJ3.out HR.out HN3.out.1 HN3.out.2.1 HN3.out.2.2 HA3.out (mild_del key) (HU.out (by first | rfl | trivial)) hl)
      go_wp2_with fail
      (with_reducible refine K4.out.mono ?_)
      rintro e w4 ⟨rfl, hc⟩
      have HC := Lib.hid (hc.from HJ.out HB3.out)
      clear hc
      go_wp2
      go_ret
      exact ⟨rfl, fun _ => HC.out, fun h => absurd rfl h⟩
    | true =>
      have K4 := Lib.hid (putBackC n0 Ak key ck Av' gv cv' w3 HK3.out (by omega) HSV.out)
      go_wp2_with fail
      (with_reducible refine K4.out.mono ?_)
      rintro e w4 ⟨fn', lb', rfl, ha, hb⟩
      have HB4 := Lib.hid (HB3.out.trans (hb.mono HB3.out.size))
      have K5 := Lib.hid (changeC n0 w4 J hs cur nxt A1 c1 fn' lb' (fun a => putR a key gv) (HJ3.out.on hb) HR.out HN3.out.1 HN3.out.2.1 (HN3.out.2.2.on hb) ha (mild_put key gv) (HU2.out (by first | rfl | trivial)) hl)
      clear ha hb K4
      go_wp2_with fail
      (with_reducible refine K5.out.mono ?_)
      rintro e w5 ⟨rfl, hc⟩
      have HC := Lib.hid (hc.from HJ.out HB4.out)
      clear hc
      go_wp2
      go_ret
      exact ⟨rfl, fun _ => HC.out, fun h => absurd rfl h⟩
  · have hb0 : (putE cur key val == 0) = false := by simpa using hE
    have HEE := Lib.hid hE
    generalize putR cur key val = r at *
    generalize putE cur key val = E at *
    clear hE
    go_enter Try.func12, Try.ntmps12
    go_wp2_with fail
    (with_reducible refine K1.out.mono ?_)
    rintro e w1 ⟨A1, c1, rfl, k1, k2, k3, k4, k5⟩
    have HB1 := Lib.hid k5
    clear k1 k2 k3 k4 k5
    go_wp2
    go_ret
    exact ⟨rfl, fun h => absurd h HEE.out, fun _ => HB1.out⟩

set_option maxHeartbeats 1600000 in
theorem delJC (n0 : Nat) (w : World) (J : Nat) (hs : List (List PR)) (cur : List PR) (h : Jr n0 w J hs cur) (hl : hs.length < 1000) (Ak : Option Addr) (key : List Int) (ck : Nat)
    (hk : SB w w.heap.size (.slice Ak key.length ck) key) :
    Calls Try.prog 14 #[.pointer (some ⟨J, 0, none⟩), .slice Ak key.length ck] w fun e w' => e = .returned (.tuple #[]) ∧ Chd n0 J w (hs ++ [cur]) (delM cur key) w' := by
  obtain ⟨A, c, R, cr, g0, g1, g2, g3, g4, g5⟩ := h.at
  have hsm := right_sml h.cur
  have K1 := Lib.hid (getC A cur c Ak key ck w g4.1 g2 g3 hk hsm.1)
  have hJlt := h.sp.lt
  have HJ := Lib.hid h
  have HK := Lib.hid hk
  have HM := Lib.hid g3
  have HP := Lib.hid g4
  have HR : Hid (RightM (delM cur key)) := right_delM h.cur key
  have HU : Hid (hasM cur key = false → delM cur key = cur) := del_none
  have HU2 : Hid (hasM cur key = true → putR (delM cur key) key (getM cur key) = cur) := undo_del h.cur
  have HKL : Hid (hasM cur key = true → key.length ≤ 64) := fun h' => ((HJ.out.cur.1 _ (get_mem h')).1)
  have HD : Hid (∀ w', Below w.heap.size w w' → Calls Try.prog 36 #[.slice A cur.length c, .slice Ak key.length ck] w' (NewF w' (delM cur key))) := fun w' hb => delC A cur c Ak key ck w' (HP.out.1.on hb) g2 g3 (HK.out.on hb) hsm.1
  clear h g4 hk hsm g1
  unfold maxLen at g3
  generalize delM cur key = nxt at *
  generalize getM cur key = gv at *
  generalize hasM cur key = is at *
  go_enter Try.func14, Try.ntmps14
  go_wp2_with fail
  (with_reducible refine K1.out.mono ?_)
  rintro e w2 ⟨V, rfl, k1, k2, k3⟩
  have HB2 := Lib.hid k3
  obtain ⟨Av', cv', rfl, hsv⟩ : ∃ A c, V = .slice A gv.length c ∧ SB w2 w2.heap.size (.slice A gv.length c) gv := by
    obtain ⟨A, c, rfl, x⟩ := own_SB k1 k2
    exact ⟨A, c, rfl, A, c, rfl, x⟩
  have HSV := Lib.hid hsv
  have hg0 : w2.cell? ⟨J, 0, none⟩ = some (.slice A cur.length c) := by rw [HB2.out.cell (p := ⟨J, 0, none⟩) hJlt]; exact g0
  clear k1 k2 k3 K1 hsv
  cases is with
  | false =>
    obtain rfl : nxt = cur := HU.out (by first | rfl | trivial)
    have HB2d : Hid (Below w.heap.size w w2.drew) := HB2.out.drew
    have hg1 : w2.drew.cell? ⟨J, 0, none⟩ = some (.slice A nxt.length c) := hg0
    have K4 := Lib.hid (changeC n0 w2.drew J hs nxt nxt A c 53 #[] (fun a => a) (HJ.out.on HB2d.out) HR.out g2 HM.out (HP.out.on HB2d.out) (leave_acts n0 _) mild_id rfl hl)
    go_wp2_with fail
    refine wp_region_held_drew (S := fun w' => True) (by kernel_rfl) trivial (fun hHeld => ?_)
    refine wpAnyH_take (i := 0) (v := ?vd1) rfl (by kernel_rfl) (by kernel_rfl) (by kernel_rfl) (fun _ _ _ h => h) (Or.inl ⟨by kernel_rfl, ?yd1⟩) (by assumption) ?rd1
    case yd1 => (intro w hSw; (try dsimp only at hSw); go_simp; (try with_reducible rfl))
    try simp only [Act.put, List.getElem_toArray, List.getElem_cons_zero, List.getElem_cons_succ, List.setIfInBounds_toArray, List.set_cons_zero, List.set_cons_succ]
    refine wpAnyH_take (i := 1) (v := ?vd2) rfl (by kernel_rfl) (by kernel_rfl) (by kernel_rfl) (fun _ _ _ h => h) (Or.inl ⟨by kernel_rfl, ?yd2⟩) (by assumption) ?rd2
    case yd2 => (intro w hSw; (try dsimp only at hSw); go_simp; (try with_reducible rfl))
    try simp only [Act.put, List.getElem_toArray, List.getElem_cons_zero, List.getElem_cons_succ, List.setIfInBounds_toArray, List.set_cons_zero, List.set_cons_succ]
    refine wpAnyH_take (i := 2) (v := ?vd3) rfl (by kernel_rfl) (by kernel_rfl) (by kernel_rfl) (fun _ _ _ h => h) (Or.inl ⟨by kernel_rfl, ?yd3⟩) (by assumption) ?rd3
    case yd3 => (intro w hSw; (try dsimp only at hSw); go_simp; (try with_reducible rfl))
    try simp only [Act.put, List.getElem_toArray, List.getElem_cons_zero, List.getElem_cons_succ, List.setIfInBounds_toArray, List.set_cons_zero, List.set_cons_succ]
    refine wpAnyH_take (i := 3) (v := ?vd4) rfl (by kernel_rfl) (by kernel_rfl) (by kernel_rfl) (fun _ _ _ h => h) (Or.inl ⟨by kernel_rfl, ?yd4⟩) (by assumption) ?rd4
    case yd4 => (intro w hSw; (try dsimp only at hSw); go_simp; (try with_reducible rfl))
    try simp only [Act.put, List.getElem_toArray, List.getElem_cons_zero, List.getElem_cons_succ, List.setIfInBounds_toArray, List.set_cons_zero, List.set_cons_succ]
    refine wpAnyH_ready (rs := [4, 5]) (by kernel_rfl) (by simp) ?_
    refine AllReadyH.cons rfl (fun K hK => ?_) (AllReadyH.cons rfl (fun K hK => ?_) AllReadyH.nil)
    · skip
      go_simp
      refine hK.out _ _ trivial (fun hHeld => ?_)
      clear hK K
      refine wpAnyH_ready (rs := [5]) (by kernel_rfl) (by simp) ?_
      refine AllReadyH.cons rfl (fun K hK => ?_) AllReadyH.nil
      go_simp
      (with_reducible refine (leaveC n0 _).mono ?_)
      rintro e w4 ⟨rfl, rfl⟩
      go_wp2_with fail
      refine hK.out _ _ trivial (fun hHeld => ?_)
      clear hK K
      refine wpAnyH_ready (rs := [6]) (by kernel_rfl) (by simp) ?_
      refine AllReadyH.cons rfl (fun K hK => ?_) AllReadyH.nil
      go_simp
      (with_reducible refine K4.out.mono ?_)
      rintro e w5 ⟨rfl, hc⟩
      have HC := Lib.hid (hc.from HJ.out HB2d.out)
      clear hc
      go_wp2_with fail
      refine hK.out _ _ trivial (fun hHeld => ?_)
      clear hK K
      refine wpAnyH_done (by kernel_rfl) ?_ _
      go_wp2
      refine bodyPost_ret (results_none rfl _ _ _) rfl ?_
      exact ⟨rfl, HC.out⟩
    · skip
      go_simp
      (with_reducible refine (leaveC n0 _).mono ?_)
      rintro e w4 ⟨rfl, rfl⟩
      go_wp2_with fail
      refine hK.out _ _ trivial (fun hHeld => ?_)
      clear hK K
      refine wpAnyH_ready (rs := [4]) (by kernel_rfl) (by simp) ?_
      refine AllReadyH.cons rfl (fun K hK => ?_) AllReadyH.nil
      go_simp
      refine hK.out _ _ trivial (fun hHeld => ?_)
      clear hK K
      refine wpAnyH_ready (rs := [6]) (by kernel_rfl) (by simp) ?_
      refine AllReadyH.cons rfl (fun K hK => ?_) AllReadyH.nil
      go_simp
      (with_reducible refine K4.out.mono ?_)
      rintro e w5 ⟨rfl, hc⟩
      have HC := Lib.hid (hc.from HJ.out HB2d.out)
      clear hc
      go_wp2_with fail
      refine hK.out _ _ trivial (fun hHeld => ?_)
      clear hK K
      refine wpAnyH_done (by kernel_rfl) ?_ _
      go_wp2
      refine bodyPost_ret (results_none rfl _ _ _) rfl ?_
      exact ⟨rfl, HC.out⟩
  | true =>
    have K2 := Lib.hid (HD.out w2 HB2.out)
    go_wp2_with fail
    (with_reducible refine K2.out.mono ?_)
    rintro e w3 ⟨A1, c1, rfl, k1, k2, k3, k4, k5⟩
    have HN : Hid (nxt.length ≤ c1 ∧ c1 ≤ maxLen ∧ PrsX n0 w3 A1 c1 nxt) := ⟨k1, k2, k3.here, k4.off⟩
    have HB3 := Lib.hid (HB2.out.trans (k5.mono HB2.out.size))
    have K3 := Lib.hid (putBackC n0 Ak key ck Av' gv cv' w3 (HK.out.on HB3.out) (by have := HKL.out (by first | rfl | trivial); omega) (HSV.out.on k5))
    clear k1 k2 k3 k4 k5 K2
    go_wp2_with fail
    (with_reducible refine K3.out.mono ?_)
    rintro e w4 ⟨fn', lb', rfl, ha, hb⟩
    have HB4 := Lib.hid (HB3.out.trans (hb.mono HB3.out.size))
    have K5 := Lib.hid (changeC n0 w4 J hs cur nxt A1 c1 fn' lb' (fun a => putR a key gv) (HJ.out.on HB4.out) HR.out HN.out.1 HN.out.2.1 (HN.out.2.2.on hb) ha (mild_put key gv) (HU2.out (by first | rfl | trivial)) hl)
    clear ha hb K3
    go_wp2_with fail
    (with_reducible refine K5.out.mono ?_)
    rintro e w5 ⟨rfl, hc⟩
    have HC := Lib.hid (hc.from HJ.out HB4.out)
    clear hc
    go_wp2
    go_end0
    exact ⟨rfl, HC.out⟩
end Go.Proofs.Ytncbbjodianmoaa
