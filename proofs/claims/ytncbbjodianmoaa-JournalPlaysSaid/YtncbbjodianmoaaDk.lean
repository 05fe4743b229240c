/- The document's journal: its changes, back to a mark, made anew. Conditions: what is read lies in memory. -/
import Derived.Test.YtncbbjodianmoaaDj
namespace Go.Proofs.Ytncbbjodianmoaa
open Go.RowKit
set_option linter.unusedSimpArgs false
set_option linter.unusedVariables false

theorem heap_set1 {w : World} {J : Nat} {a : Value} {T : TypeId} (h : w.heap[J]? = some (.cells #[a] T (0, 0))) (u : Value) : (w.setCell ⟨J, 0, none⟩ u).heap[J]? = some (.cells #[u] T (0, 0)) := heap_setCell_same w J 0 _ T u h
/-- the row of stores, with one more, laid down in the journal -/
theorem Dr.grown {n0 J : Nat} {w w1 w2 : World} {hs : List (List PR)} {cur nxt : List PR} {L : Option Addr} {cl : Nat} {vs : List Value} {A : Option Addr} {c : Nat} {L' : Option Addr} {cl' : Nat} (h : Dr n0 w J hs cur)
    (h1 : w.heap[J]? = some (.cells #[.slice L (hs.length + 1) cl] 57 (0, 0))) (h2 : Rws n0 w 22 (.slice L (hs.length + 1) cl) (hs.length + 1) vs) (h3 : ∀ (i : Nat) (s : List PR), (hs ++ [cur])[i]? = some s → ∃ A c, vs[i]? = some (.slice A s.length c) ∧ s.length ≤ c ∧ c ≤ maxLen ∧ PrsX n0 w A c s)
    (hb : Below w.heap.size w w1) (ho2 : Rws n0 w2 22 (.slice L' (hs.length + 2) cl') (hs.length + 2) (vs ++ [.slice A nxt.length c])) (hg2 : w1.grownBy w2 (Value.slice L (hs.length + 1) cl).ownBlock) (hoff : Off n0 w1 w2)
    (hr : RightM nxt) (hl : hs.length < 1000) (hc : nxt.length ≤ c) (hm : c ≤ maxLen) (hp : PrsX n0 w A c nxt) :
    Dhd n0 J w (hs ++ [cur]) nxt (w2.setCell ⟨J, 0, none⟩ (.slice L' (hs.length + 2) cl')) := by
  have hJl := h.sp.lt
  have hLJ : ∀ g, (Value.slice L (hs.length + 1) cl).ownBlock = some g → g ≠ J ∧ Db w J g := fun g hg => by
    obtain ⟨cs, ht⟩ := h2.tag hg
    exact ⟨tag_ne ht h1 (by decide), .inr ⟨_, g, (cells1 h1).1, hg, rfl⟩⟩
  have hJ1 : w1.heap[J]? = some (.cells #[.slice L (hs.length + 1) cl] 57 (0, 0)) := by rw [hb.block J hJl]; exact h1
  have hJ2 : w2.heap[J]? = some (.cells #[.slice L (hs.length + 1) cl] 57 (0, 0)) := by
    rw [hg2.block J (Nat.lt_of_lt_of_le hJl hb.size) fun e => (hLJ J e.symm).1 rfl]
    exact hJ1
  have hJ3 := heap_set1 hJ2 (.slice L' (hs.length + 2) cl')
  have hof : Off n0 w (w2.setCell ⟨J, 0, none⟩ (.slice L' (hs.length + 2) cl')) :=
    ((Off.of hb).trans hoff).trans (Off.set2 ⟨h.hJ, _, 57, _, hJ2, .inr (.inl rfl), noI_one⟩ ⟨h.hJ, _, 57, _, hJ3, .inr (.inl rfl), noI_one⟩)
  have hlv : vs.length = hs.length + 1 := by have := h2.1.1; omega
  refine ⟨hof, fun b hlt hnb => ?_, h.hJ, by simp; omega, fun s hs' => ?_, L', cl', vs ++ [.slice A nxt.length c], by simpa using hJ3, ?_, fun i s hi => ?_⟩
  · have hbJ : b ≠ J := fun e => hnb (.inl e)
    rw [heap_setCell_far _ _ _ _ _ hbJ, hg2.block b (Nat.lt_of_lt_of_le hlt hb.size) fun e => hnb (hLJ b e.symm).2]
    exact hb.block b hlt
  · rcases List.mem_append.1 hs' with e | e
    · exact h.right s e
    · obtain rfl : s = nxt := by simpa using e
      exact hr
  · have hk : Rws n0 (w2.setCell ⟨J, 0, none⟩ (.slice L' (hs.length + 2) cl')) 22 (.slice L' (hs.length + 2) cl') (hs.length + 2) (vs ++ [.slice A nxt.length c]) := ho2.keep fun g hg => by
      obtain ⟨cs, ht⟩ := ho2.tag hg
      exact heap_setCell_far _ _ _ _ _ (tag_ne ht hJ2 (by decide))
    simpa using hk
  · rcases Nat.lt_or_ge i (hs ++ [cur]).length with hlt | hge
    · rw [List.getElem?_append_left hlt] at hi
      obtain ⟨A', c', g1, g2, g3, g4⟩ := h3 i s hi
      refine ⟨A', c', ?_, g2, g3, g4.off hof⟩
      rw [List.getElem?_append_left (by rw [hlv]; simpa using hlt)]
      exact g1
    · have hii : i = (hs ++ [cur]).length := by have := (List.getElem?_eq_some_iff.1 hi).1; simp at this hge ⊢; omega
      subst hii
      rw [List.getElem?_append_right (Nat.le_refl _)] at hi
      simp at hi
      subst hi
      refine ⟨A, c, ?_, hc, hm, hp.off hof⟩
      rw [List.getElem?_append_right (by rw [hlv]; simp)]
      simp [hlv]

/-- what 'Put' of the document's journal returns and leaves -/
def PutD (n0 J : Nat) (hs : List (List PR)) (cur : List PR) (key val : List Int) (w : World) (e : Ending) (w' : World) : Prop :=
  e = .returned (.int .i64 (putE cur key val)) ∧ (putE cur key val = 0 → Dhd n0 J w (hs ++ [cur]) (putM cur key val) w') ∧ (putE cur key val ≠ 0 → Below w.heap.size w w')

set_option maxHeartbeats 1600000 in
theorem refPutJC (n0 : Nat) (w : World) (J : Nat) (hs : List (List PR)) (cur : List PR) (h : Dr n0 w J hs cur) (hl : hs.length < 1000) (Ak : Option Addr) (key : List Int) (ck : Nat) (Av : Option Addr) (val : List Int) (cv : Nat)
    (hk : SB w w.heap.size (.slice Ak key.length ck) key) (hv : SB w w.heap.size (.slice Av val.length cv) val) :
    Calls Try.prog 13 #[.pointer (some ⟨J, 0, none⟩), .slice Ak key.length ck, .slice Av val.length cv] w (PutD n0 J hs cur key val w) := by
  have K1 := Lib.hid (refPairsC n0 w J hs cur h)
  have HJ := Lib.hid h
  have HK := Lib.hid hk
  have HV := Lib.hid hv
  have HS := Lib.hid (right_sml h.cur)
  obtain ⟨i0, hi, hz0, hz1, hz2⟩ := info_parts info22p
  clear h hk hv
  unfold PutD
  by_cases hE : putE cur key val = 0
  · obtain ⟨q1, q2, q3⟩ := putE_lens hE
    have HR : Hid (RightM (putM cur key val)) := right_putM HJ.out.cur hE
    have KP : Hid (∀ A c w1, PrsX n0 w1 A c cur → cur.length ≤ c → c ≤ maxLen → Below w.heap.size w w1 → Calls Try.prog 34 #[.slice A cur.length c, .slice Ak key.length ck, .slice Av val.length cv] w1 (PutR w1 (putM cur key val) 0)) := fun A c w1 h3 h1 h2 hb => by
      have := refPutC A cur c Ak key ck Av val cv w1 h3.1 h1 h2 (HK.out.on hb) (HV.out.on hb) HS.out.1 (by have := HS.out.2; omega)
      rwa [hE, q3] at this
    rw [hE]
    generalize putM cur key val = nxt at *
    clear hE q1 q2 q3
    go_enter Try.func13, Try.ntmps13
    go_wp2_with fail
    (with_reducible refine K1.out.mono ?_)
    rintro e w1 ⟨A, c, rfl, h1, h2, h3, hb⟩
    have K2 := Lib.hid (KP.out A c w1 h3 h1 h2 hb)
    have HB1 := Lib.hid hb
    clear h1 h2 h3 hb K1 KP
    go_wp2_with fail
    (with_reducible refine K2.out.mono ?_)
    rintro e w2 ⟨A1, c1, rfl, k1, k2, k3, k4, k5⟩
    have HB2 := Lib.hid (HB1.out.trans (k5.mono HB1.out.size))
    have HJ2 := Lib.hid (HJ.out.on HB2.out)
    have HP2 : Hid (nxt.length ≤ c1 ∧ c1 ≤ maxLen ∧ PrsX n0 w2 A1 c1 nxt) := ⟨k1, k2, k3, k4.off⟩
    obtain ⟨L, cl, vs, y1, y2, y3⟩ := HJ2.out.ex
    obtain ⟨x1, x2⟩ := cells1 y1
    have hlen := HJ2.out.len
    have hba := below_alloc w2 (.cells #[.slice A1 nxt.length c1] 22)
    have HRw := Lib.hid (y2.on hba)
    have HN := Lib.hid (cell_one_new w2 (.slice A1 nxt.length c1) 22)
    have HY : Hid (w2.heap[J]? = some (.cells #[.slice L (hs.length + 1) cl] 57 (0, 0)) ∧ Rws n0 w2 22 (.slice L (hs.length + 1) cl) (hs.length + 1) vs ∧ (∀ (i : Nat) (s : List PR), (hs ++ [cur])[i]? = some s → ∃ A c, vs[i]? = some (.slice A s.length c) ∧ s.length ≤ c ∧ c ≤ maxLen ∧ PrsX n0 w2 A c s) ∧ Below w2.heap.size w2 (w2.alloc (.cells #[.slice A1 nxt.length c1] 22)) ∧ J < w2.heap.size) := ⟨y1, y2, y3, hba, HJ2.out.sp.lt⟩
    have hn0 : n0 ≤ w2.heap.size + 1 := by have := HJ2.out.hJ; have := HJ2.out.sp.lt; omega
    clear k1 k2 k3 k4 k5 K2 y1 y2 y3 hba
    go_wp2_with (at_builtin; refine Rws.wpList (n0 := n0) rfl (.tmp 23) (.tmp 25) 55 rfl 22 i0 _ 24 Try.underlying55 hi hz0 hz1 hz2 rfl (NoI.list (l := [.slice none 0 0]) (by simp)) (.inr (.inr (.inr rfl))) rfl HRw.out ⟨w2.heap.size, 0, none⟩ 1 1 [.slice A1 nxt.length c1] rfl rfl (by omega) HN.out (by simp [Value.oneCell']) (by simp) (by unfold maxLen; omega) (by omega) (by simpa using hn0) ?_; intro v' w3 ho3 hg3 hoff; refine Hid.out ?_)
    obtain ⟨L', cl', rfl, z1, z2, z3⟩ := own_lies ho3.1
    have hJ3 : w3.heap[J]? = some (.cells #[.slice L (hs.length + 1) cl] 57 (0, 0)) := by
      rw [hg3.block J (by rw [World.size_alloc]; have := HY.out.2.2.2.2; omega) fun e => ?_, HY.out.2.2.2.1.block J HY.out.2.2.2.2]
      · exact HY.out.1
      · obtain ⟨cs, ht⟩ := HY.out.2.1.tag e.symm
        exact tag_ne ht HY.out.1 (by decide) rfl
    obtain ⟨u1, u2⟩ := cells1 hJ3
    have HF := Lib.hid (Dhd.from (Dr.grown HJ2.out HY.out.1 HY.out.2.1 HY.out.2.2.1 HY.out.2.2.2.1 ho3 hg3 hoff HR.out hl HP2.out.1 HP2.out.2.1 HP2.out.2.2) HJ.out HB2.out)
    clear ho3 hg3 hoff hJ3 z3
    refine Lib.hid ?_
    go_wp2
    go_ret
    exact ⟨rfl, fun _ => HF.out, fun h => absurd rfl h⟩
  · have hb0 : (putE cur key val == 0) = false := by simpa using hE
    have HEE := Lib.hid hE
    have KP : Hid (∀ A c w1, PrsX n0 w1 A c cur → cur.length ≤ c → c ≤ maxLen → Below w.heap.size w w1 → Calls Try.prog 34 #[.slice A cur.length c, .slice Ak key.length ck, .slice Av val.length cv] w1 (PutR w1 (putR cur key val) (putE cur key val))) := fun A c w1 h3 h1 h2 hb =>
      refPutC A cur c Ak key ck Av val cv w1 h3.1 h1 h2 (HK.out.on hb) (HV.out.on hb) HS.out.1 (by have := HS.out.2; omega)
    generalize putR cur key val = r at *
    generalize putE cur key val = E at *
    clear hE
    go_enter Try.func13, Try.ntmps13
    go_wp2_with fail
    (with_reducible refine K1.out.mono ?_)
    rintro e w1 ⟨A, c, rfl, h1, h2, h3, hb⟩
    have K2 := Lib.hid (KP.out A c w1 h3 h1 h2 hb)
    have HB1 := Lib.hid hb
    clear h1 h2 h3 hb K1 KP
    go_wp2_with fail
    (with_reducible refine K2.out.mono ?_)
    rintro e w2 ⟨A1, c1, rfl, k1, k2, k3, k4, k5⟩
    have HB2 := Lib.hid (HB1.out.trans (k5.mono HB1.out.size))
    clear k1 k2 k3 k4 k5
    go_wp2
    go_ret
    exact ⟨rfl, fun h => absurd h HEE.out, fun _ => HB2.out⟩

set_option maxHeartbeats 1600000 in
theorem refDelJC (n0 : Nat) (w : World) (J : Nat) (hs : List (List PR)) (cur : List PR) (h : Dr n0 w J hs cur) (hl : hs.length < 1000) (Ak : Option Addr) (key : List Int) (ck : Nat)
    (hk : SB w w.heap.size (.slice Ak key.length ck) key) :
    Calls Try.prog 15 #[.pointer (some ⟨J, 0, none⟩), .slice Ak key.length ck] w fun e w' => e = .returned (.tuple #[]) ∧ Dhd n0 J w (hs ++ [cur]) (delM cur key) w' := by
  have K1 := Lib.hid (refPairsC n0 w J hs cur h)
  have HJ := Lib.hid h
  have HK := Lib.hid hk
  have HS := Lib.hid (right_sml h.cur)
  have HR : Hid (RightM (delM cur key)) := right_delM h.cur key
  obtain ⟨i0, hi, hz0, hz1, hz2⟩ := info_parts info22p
  have KP : Hid (∀ A c w1, PrsX n0 w1 A c cur → cur.length ≤ c → c ≤ maxLen → Below w.heap.size w w1 → Calls Try.prog 37 #[.slice A cur.length c, .slice Ak key.length ck] w1 (NewR w1 (delM cur key))) := fun A c w1 h3 h1 h2 hb =>
    refDelC A cur c Ak key ck w1 h3.1 h1 h2 (HK.out.on hb) HS.out.1
  clear h hk
  generalize delM cur key = nxt at *
  go_enter Try.func15, Try.ntmps15
  go_wp2_with fail
  (with_reducible refine K1.out.mono ?_)
  rintro e w1 ⟨A, c, rfl, h1, h2, h3, hb⟩
  have K2 := Lib.hid (KP.out A c w1 h3 h1 h2 hb)
  have HB1 := Lib.hid hb
  clear h1 h2 h3 hb K1 KP
  go_wp2_with fail
  (with_reducible refine K2.out.mono ?_)
  rintro e w2 ⟨A1, c1, rfl, k1, k2, k3, k4, k5⟩
  have HB2 := Lib.hid (HB1.out.trans (k5.mono HB1.out.size))
  have HJ2 := Lib.hid (HJ.out.on HB2.out)
  have HP2 : Hid (nxt.length ≤ c1 ∧ c1 ≤ maxLen ∧ PrsX n0 w2 A1 c1 nxt) := ⟨k1, k2, k3, k4.off⟩
  obtain ⟨L, cl, vs, y1, y2, y3⟩ := HJ2.out.ex
  obtain ⟨x1, x2⟩ := cells1 y1
  have hlen := HJ2.out.len
  have hba := below_alloc w2 (.cells #[.slice A1 nxt.length c1] 22)
  have HRw := Lib.hid (y2.on hba)
  have HN := Lib.hid (cell_one_new w2 (.slice A1 nxt.length c1) 22)
  have HY : Hid (w2.heap[J]? = some (.cells #[.slice L (hs.length + 1) cl] 57 (0, 0)) ∧ Rws n0 w2 22 (.slice L (hs.length + 1) cl) (hs.length + 1) vs ∧ (∀ (i : Nat) (s : List PR), (hs ++ [cur])[i]? = some s → ∃ A c, vs[i]? = some (.slice A s.length c) ∧ s.length ≤ c ∧ c ≤ maxLen ∧ PrsX n0 w2 A c s) ∧ Below w2.heap.size w2 (w2.alloc (.cells #[.slice A1 nxt.length c1] 22)) ∧ J < w2.heap.size) := ⟨y1, y2, y3, hba, HJ2.out.sp.lt⟩
  have hn0 : n0 ≤ w2.heap.size + 1 := by have := HJ2.out.hJ; have := HJ2.out.sp.lt; omega
  clear k1 k2 k3 k4 k5 K2 y1 y2 y3 hba
  go_wp2_with (at_builtin; refine Rws.wpList (n0 := n0) rfl (.tmp 13) (.tmp 15) 55 rfl 22 i0 _ 24 Try.underlying55 hi hz0 hz1 hz2 rfl (NoI.list (l := [.slice none 0 0]) (by simp)) (.inr (.inr (.inr rfl))) rfl HRw.out ⟨w2.heap.size, 0, none⟩ 1 1 [.slice A1 nxt.length c1] rfl rfl (by omega) HN.out (by simp [Value.oneCell']) (by simp) (by unfold maxLen; omega) (by omega) (by simpa using hn0) ?_; intro v' w3 ho3 hg3 hoff; refine Hid.out ?_)
  obtain ⟨L', cl', rfl, z1, z2, z3⟩ := own_lies ho3.1
  have hJ3 : w3.heap[J]? = some (.cells #[.slice L (hs.length + 1) cl] 57 (0, 0)) := by
    rw [hg3.block J (by rw [World.size_alloc]; have := HY.out.2.2.2.2; omega) fun e => ?_, HY.out.2.2.2.1.block J HY.out.2.2.2.2]
    · exact HY.out.1
    · obtain ⟨cs, ht⟩ := HY.out.2.1.tag e.symm
      exact tag_ne ht HY.out.1 (by decide) rfl
  obtain ⟨u1, u2⟩ := cells1 hJ3
  have HF := Lib.hid (Dhd.from (Dr.grown HJ2.out HY.out.1 HY.out.2.1 HY.out.2.2.1 HY.out.2.2.2.1 ho3 hg3 hoff HR.out hl HP2.out.1 HP2.out.2.1 HP2.out.2.2) HJ.out HB2.out)
  clear ho3 hg3 hoff hJ3 z3
  refine Lib.hid ?_
  go_wp2
  go_end0
  exact ⟨rfl, HF.out⟩
end Go.Proofs.Ytncbbjodianmoaa
