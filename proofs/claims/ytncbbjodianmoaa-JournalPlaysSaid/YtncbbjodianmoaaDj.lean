/- The document's journal, as it lies in memory: made anew, its pairs, its mark, its value, and its changes. Conditions: what is read lies in memory. -/
import Derived.Test.YtncbbjodianmoaaJe
import Derived.Test.YtncbbjodianmoaaTv
namespace Go.Proofs.Ytncbbjodianmoaa
open Go.RowKit
set_option linter.unusedSimpArgs false
set_option linter.unusedVariables false

theorem info22p : (Try.prog.info? 22).map (fun i => (i.zero, i.size, i.bytes)) = some (some (.slice none 0 0), 1, 24) := by kernel_rfl
/-- the document's journal at J holds cur; before its changes it held hs -/
structure Dr (n0 : Nat) (w : World) (J : Nat) (hs : List (List PR)) (cur : List PR) : Prop where
  hJ : n0 ≤ J
  len : hs.length ≤ 1000
  right : ∀ s ∈ hs ++ [cur], RightM s
  ex : ∃ (L : Option Addr) (cl : Nat) (vs : List Value), w.heap[J]? = some (.cells #[.slice L (hs.length + 1) cl] 57 (0, 0)) ∧ Rws n0 w 22 (.slice L (hs.length + 1) cl) (hs.length + 1) vs ∧
    ∀ (i : Nat) (s : List PR), (hs ++ [cur])[i]? = some s → ∃ A c, vs[i]? = some (.slice A s.length c) ∧ s.length ≤ c ∧ c ≤ maxLen ∧ PrsX n0 w A c s
theorem Dr.cur {n0 : Nat} {w : World} {J : Nat} {hs : List (List PR)} {cur : List PR} (h : Dr n0 w J hs cur) : RightM cur := h.right cur (by simp)
theorem noI_one {A : Option Addr} {n c : Nat} : NoI #[.slice A n c] := by
  intro x hx q y e
  subst e
  simp at hx
theorem Dr.sp {n0 : Nat} {w : World} {J : Nat} {hs : List (List PR)} {cur : List PR} (h : Dr n0 w J hs cur) : Sp n0 w J := by
  obtain ⟨L, cl, vs, h1, _⟩ := h.ex
  exact ⟨h.hJ, _, 57, _, h1, .inr (.inl rfl), noI_one⟩
/-- the blocks of the document's journal at J -/
def Db (w : World) (J b : Nat) : Prop := b = J ∨ ∃ v R, w.cell? ⟨J, 0, none⟩ = some v ∧ v.ownBlock = some R ∧ b = R
theorem cells1 {w : World} {J : Nat} {a : Value} {T : TypeId} (h : w.heap[J]? = some (.cells #[a] T (0, 0))) : w.cell? ⟨J, 0, none⟩ = some a ∧ w.frozen? ⟨J, 0, none⟩ = false := by
  refine ⟨?_, ?_⟩ <;> simp [World.cell?, World.frozen?, h]
theorem Dr.off {n0 : Nat} {w w' : World} {J : Nat} {hs : List (List PR)} {cur : List PR} (h : Dr n0 w J hs cur) (ho : Off n0 w w') (hk : ∀ b, Db w J b → w'.heap[b]? = w.heap[b]?) : Dr n0 w' J hs cur := by
  obtain ⟨L, cl, vs, h1, h2, h3⟩ := h.ex
  exact ⟨h.hJ, h.len, h.right, L, cl, vs, by rw [hk J (.inl rfl)]; exact h1, h2.keep fun g hg => hk g (.inr ⟨_, g, (cells1 h1).1, hg, rfl⟩), fun i s hs' => by
    obtain ⟨A, c, g1, g2, g3, g4⟩ := h3 i s hs'
    exact ⟨A, c, g1, g2, g3, g4.off ho⟩⟩
theorem Dr.db_lt {n0 : Nat} {w : World} {J : Nat} {hs : List (List PR)} {cur : List PR} (h : Dr n0 w J hs cur) {b : Nat} (hb : Db w J b) : b < w.heap.size ∧ Sp n0 w b ∧ ∃ cs T z, w.heap[b]? = some (.cells cs T z) ∧ (T = 57 ∨ T = 22) := by
  obtain ⟨L, cl, vs, h1, h2, h3⟩ := h.ex
  rcases hb with rfl | ⟨v, R, g1, g2, rfl⟩
  · exact ⟨h.sp.lt, h.sp, _, 57, _, h1, .inl rfl⟩
  · have : v = .slice L (hs.length + 1) cl := by
      rw [(cells1 h1).1] at g1
      injection g1 with g1
      exact g1.symm
    subst this
    have h5 := h2.spb (.inr (.inr (.inr rfl))) g2
    obtain ⟨cs, h6⟩ := h2.tag g2
    exact ⟨h5.lt, h5, cs, 22, _, h6, .inr rfl⟩
theorem Dr.on {n0 : Nat} {w w' : World} {J : Nat} {hs : List (List PR)} {cur : List PR} (h : Dr n0 w J hs cur) (hb : Below w.heap.size w w') : Dr n0 w' J hs cur :=
  h.off (.of hb) fun b h' => hb.block b (h.db_lt h').1
/-- all but the journal's own blocks is as it was -/
def ChD (w : World) (J : Nat) (w' : World) : Prop := ∀ b, b < w.heap.size → ¬ Db w J b → w'.heap[b]? = w.heap[b]?
/-- what a change leaves -/
def Dhd (n0 J : Nat) (w : World) (hs : List (List PR)) (cur : List PR) (w' : World) : Prop := Off n0 w w' ∧ ChD w J w' ∧ Dr n0 w' J hs cur
theorem Dr.db {n0 : Nat} {w w' : World} {J : Nat} {hs : List (List PR)} {cur : List PR} (h : Dr n0 w J hs cur) (hb : Below w.heap.size w w') (b : Nat) : Db w' J b ↔ Db w J b := by
  unfold Db
  rw [hb.cell (p := ⟨J, 0, none⟩) h.sp.lt]
theorem Dhd.from {n0 J : Nat} {w w4 w' : World} {hs hs' : List (List PR)} {cur cur' : List PR} (h : Dhd n0 J w4 hs' cur' w') (hj : Dr n0 w J hs cur) (hb : Below w.heap.size w w4) : Dhd n0 J w hs' cur' w' :=
  ⟨(Off.of hb).trans h.1, fun b hlt hnb => (h.2.1 b (Nat.lt_of_lt_of_le hlt hb.size) fun h' => hnb ((hj.db hb b).1 h')).trans (hb.block b hlt), h.2.2⟩
/-- a change of the one journal leaves the other one -/
theorem Dr.beside {n0 J K : Nat} {w w' : World} {hs hs' hs2 : List (List PR)} {cur cur' cur2 : List PR} (h : Dr n0 w K hs cur) (hj : Jr n0 w J hs2 cur2) (hc : Chd n0 J w hs' cur' w') : Dr n0 w' K hs cur :=
  h.off hc.1 fun b hb => hc.2.1 b (h.db_lt hb).1 fun hjb => by
    obtain ⟨_, _, cs, T, z, h1, h2⟩ := h.db_lt hb
    obtain ⟨A, c, R, cr, fs, Fs, g1, _, _, _, g5, _⟩ := hj.ex
    rcases hjb with rfl | ⟨v, R', k1, k2, rfl⟩
    · exact tag_ne h1 g1 (by rcases h2 with e | e <;> subst e <;> decide) rfl
    · rw [(cells2 g1).2.1] at k1
      injection k1 with k1
      subst k1
      obtain ⟨cs', g6⟩ := g5.tag k2
      exact tag_ne h1 g6 (by rcases h2 with e | e <;> subst e <;> decide) rfl
theorem Jr.beside {n0 J K : Nat} {w w' : World} {hs hs' hs2 : List (List PR)} {cur cur' cur2 : List PR} (h : Jr n0 w J hs cur) (hd : Dr n0 w K hs2 cur2) (hc : Dhd n0 K w hs' cur' w') : Jr n0 w' J hs cur :=
  h.off hc.1 fun b hb => hc.2.1 b (h.jb_lt hb).1 fun hdb => by
    obtain ⟨_, _, cs, T, z, h1, h2⟩ := hd.db_lt hdb
    obtain ⟨A, c, R, cr, fs, Fs, g1, _, _, _, g5, _⟩ := h.ex
    rcases hb with rfl | ⟨v, R', k1, k2, rfl⟩
    · exact tag_ne h1 g1 (by rcases h2 with e | e <;> subst e <;> decide) rfl
    · rw [(cells2 g1).2.1] at k1
      injection k1 with k1
      subst k1
      obtain ⟨cs', g6⟩ := g5.tag k2
      exact tag_ne h1 g6 (by rcases h2 with e | e <;> subst e <;> decide) rfl

/-- what a walk wants of the document's journal -/
theorem Dr.at {n0 : Nat} {w : World} {J : Nat} {hs : List (List PR)} {cur : List PR} (h : Dr n0 w J hs cur) : ∃ L cl A c, w.cell? ⟨J, 0, none⟩ = some (.slice (some ⟨L, 0, none⟩) (hs.length + 1) cl) ∧ hs.length + 1 ≤ cl ∧ cl ≤ maxLen ∧
    w.cell? ⟨L, hs.length, none⟩ = some (.slice A cur.length c) ∧ cur.length ≤ c ∧ c ≤ maxLen ∧ PrsX n0 w A c cur ∧ hs.length ≤ 1000 := by
  obtain ⟨L, cl, vs, h1, h2, h3⟩ := h.ex
  obtain ⟨A, c, g1, g2, g3, g4⟩ := h3 hs.length cur (by simp)
  rcases h2.1.2 with ⟨e, _⟩ | ⟨g, cap, cr', e, _, _, k1, k2, _⟩
  · injection e with _ e _
    omega
  · injection e with e _ e'
    subst e e'
    have := h2.1.cells (g := g) rfl hs.length _ g1
    rw [Addr.add_mid, Nat.zero_add] at this
    exact ⟨g, cl, A, c, (cells1 h1).1, k1, k2, this, g2, g3, g4, h.len⟩

set_option maxHeartbeats 800000 in
theorem refPairsC (n0 : Nat) (w : World) (J : Nat) (hs : List (List PR)) (cur : List PR) (h : Dr n0 w J hs cur) :
    Calls Try.prog 24 #[.pointer (some ⟨J, 0, none⟩)] w fun e w' => ∃ A c, e = .returned (.slice A cur.length c) ∧ cur.length ≤ c ∧ c ≤ maxLen ∧ PrsX n0 w' A c cur ∧ Below w.heap.size w w' := by
  obtain ⟨L, cl, A, c, h1, h2, h3, h4, h5, h6, h7, h8⟩ := h.at
  have HP := Lib.hid h7
  have HM := Lib.hid h6
  clear h h7 h6
  unfold maxLen at h3
  have f1 : ((hs.length : Int) + 1) - 1 = (hs.length : Int) := by omega
  go_enter Try.func24, Try.ntmps24
  go_wp2
  go_quiet (fail)
  go_wp2
  go_ret
  exact ⟨A, c, rfl, h5, HM.out, HP.out.on (below_drewN (Below.refl _ _) _), below_drewN (Below.refl _ _) _⟩
set_option maxHeartbeats 800000 in
theorem refMarkC (n0 : Nat) (w : World) (J : Nat) (hs : List (List PR)) (cur : List PR) (h : Dr n0 w J hs cur) :
    Calls Try.prog 21 #[.pointer (some ⟨J, 0, none⟩)] w fun e w' => e = .returned (.int .i64 hs.length) ∧ w = w' := by
  obtain ⟨L, cl, A, c, h1, h2, h3, h4, h5, h6, h7, h8⟩ := h.at
  clear h h7 h6
  unfold maxLen at h3
  go_enter Try.func21, Try.ntmps21
  go_wp2
  go_ret
  exact ⟨by go_num, rfl⟩
set_option maxHeartbeats 800000 in
theorem refGetJC (n0 : Nat) (w : World) (J : Nat) (hs : List (List PR)) (cur : List PR) (h : Dr n0 w J hs cur) (Ak : Option Addr) (key : List Int) (ck : Nat) (hk : SB w w.heap.size (.slice Ak key.length ck) key) :
    Calls Try.prog 19 #[.pointer (some ⟨J, 0, none⟩), .slice Ak key.length ck] w (GotO w (getM cur key) (hasM cur key)) := by
  have K := Lib.hid (refPairsC n0 w J hs cur h)
  have HS := Lib.hid (right_sml h.cur).1
  have HK := Lib.hid hk
  clear h hk
  go_enter Try.func19, Try.ntmps19
  go_wp2_with fail
  (with_reducible refine K.out.mono ?_)
  rintro e w1 ⟨A, c, rfl, h1, h2, h3, hb⟩
  have K2 := Lib.hid (refGetC A cur c Ak key ck w1 h3.1 h1 h2 (HK.out.on hb) HS.out)
  have HB := Lib.hid hb
  clear h1 h2 h3 hb K
  generalize getM cur key = gv at *
  generalize hasM cur key = hv at *
  go_wp2_with fail
  (with_reducible refine K2.out.mono ?_)
  rintro e w2 ⟨V, rfl, h1, h2, h3⟩
  have H : Hid (w2.ownsRow w.heap.size 5 1 V gv.length (cellsOf gv) ∧ Byt gv ∧ Below w.heap.size w w2) := ⟨own_mono h1 HB.out.size, h2, HB.out.trans (h3.mono HB.out.size)⟩
  clear h1 h2 h3
  go_wp2
  go_ret2
  exact ⟨V, rfl, H.out⟩
end Go.Proofs.Ytncbbjodianmoaa
