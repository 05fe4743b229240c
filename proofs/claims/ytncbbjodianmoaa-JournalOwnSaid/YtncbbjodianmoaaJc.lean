/- A change of a journal. Conditions: the journal lies in memory. -/
import Derived.Test.YtncbbjodianmoaaJn
namespace Go.Proofs.Ytncbbjodianmoaa
open Go.RowKit
set_option linter.unusedSimpArgs false
set_option linter.unusedVariables false

theorem info60 : (Try.prog.info? 60).map (fun i => (i.zero, i.size, i.bytes)) = some (some (Value.nilFunc), 1, 8) := by kernel_rfl
theorem heap_set2 {w : World} {J : Nat} {a b : Value} {T : TypeId} (h : w.heap[J]? = some (.cells #[a, b] T (0, 0))) (u : Value) :
    (w.setCell ⟨J, 0, none⟩ u).heap[J]? = some (.cells #[u, b] T (0, 0)) ∧ (w.setCell ⟨J, 1, none⟩ u).heap[J]? = some (.cells #[a, u] T (0, 0)) :=
  ⟨heap_setCell_same w J 0 _ T u h, heap_setCell_same w J 1 _ T u h⟩
theorem cells2 {w : World} {J : Nat} {a b : Value} {T : TypeId} (h : w.heap[J]? = some (.cells #[a, b] T (0, 0))) :
    w.cell? ⟨J, 0, none⟩ = some a ∧ w.cell? ⟨J, 1, none⟩ = some b ∧ w.frozen? ⟨J, 0, none⟩ = false ∧ w.frozen? ⟨J, 1, none⟩ = false := by
  refine ⟨?_, ?_, ?_, ?_⟩ <;> simp [World.cell?, World.frozen?, h]
theorem setCell_size (w : World) (a : Addr) (v : Value) : (w.setCell a v).heap.size = w.heap.size := by simp [World.setCell]
theorem heap_setCell_far (w : World) (J k b : Nat) (v : Value) (h : b ≠ J) : (w.setCell ⟨J, k, none⟩ v).heap[b]? = w.heap[b]? := Below.heap_setCell _ _ _ _ h
theorem Off.set2 {n0 : Nat} {w : World} {J k : Nat} {v : Value} (hJ : Sp n0 w J) (hJ' : Sp n0 (w.setCell ⟨J, k, none⟩ v) J) : Off n0 w (w.setCell ⟨J, k, none⟩ v) :=
  .grown ⟨rfl, rfl, rfl, by rw [setCell_size]; exact Nat.le_refl _, fun i _ hi => heap_setCell_far _ _ _ _ _ fun e => hi (by rw [e])⟩ hJ hJ'
/-- blocks of unlike types are unlike -/
theorem tag_ne {w : World} {a b : Nat} {cs cs' : Array Value} {T T' : TypeId} {z z' : Nat × Nat} (h : w.heap[a]? = some (.cells cs T z)) (h' : w.heap[b]? = some (.cells cs' T' z')) (hT : T ≠ T') : a ≠ b := by
  intro e
  subst e
  rw [h] at h'
  injection h' with h'
  injection h' with _ h' _
  exact hT h'
theorem Rws.tag {n0 : Nat} {w : World} {T : TypeId} {v : Value} {n : Nat} {xs : List Value} (h : Rws n0 w T v n xs) {g : Nat} (hg : v.ownBlock = some g) : ∃ cs, w.heap[g]? = some (.cells cs T (0, 0)) := by
  rcases h.1.2 with ⟨rfl, _⟩ | ⟨g', cap, cur, rfl, h2, h3, _⟩
  · cases hg
  · obtain rfl : g' = g := by injection hg
    exact ⟨cur, h3⟩
/-- all but the journal's own blocks is as it was -/
def Ch (w : World) (J : Nat) (w' : World) : Prop := ∀ b, b < w.heap.size → ¬ Jb w J b → w'.heap[b]? = w.heap[b]?

/-- what a change leaves -/
def Chd (n0 J : Nat) (w : World) (hs : List (List PR)) (cur : List PR) (w' : World) : Prop := Off n0 w w' ∧ Ch w J w' ∧ Jr n0 w' J hs cur

set_option maxHeartbeats 1600000 in
theorem changeC (n0 : Nat) (w : World) (J : Nat) (hs : List (List PR)) (cur nxt : List PR) (A : Option Addr) (c fn : Nat) (lb : Array Value) (F : List PR → List PR) (h : Jr n0 w J hs cur)
    (hr : RightM nxt) (hc : nxt.length ≤ c) (hm : c ≤ maxLen) (hp : PrsX n0 w A c nxt) (ha : Acts n0 w (.func (.func fn) #[] lb) F) (hM : Mild F) (hF : F nxt = cur) (hl : hs.length < 1000) :
    Calls Try.prog 33 #[.pointer (some ⟨J, 0, none⟩), .slice A nxt.length c, .func (.func fn) #[] lb] w fun e w' => e = .returned (.tuple #[]) ∧ Chd n0 J w (hs ++ [cur]) nxt w' := by
  obtain ⟨A1, c1, R, cr, fs, Fs, h1, h2, h3, h4, h5, h7, h8, h9, h10⟩ := h.ex
  obtain ⟨g0, g1, g2, g3⟩ := cells2 h1
  obtain ⟨i0, hi, hz0, hz1, hz2⟩ := info_parts info60
  have hsp := h.sp
  have hJlt := hsp.lt
  have h1' := (heap_set2 h1 (.slice A nxt.length c)).1
  have hsz := setCell_size w ⟨J, 0, none⟩ (.slice A nxt.length c)
  have hsp1 : Sp n0 (w.setCell ⟨J, 0, none⟩ (.slice A nxt.length c)) J := ⟨h.hJ, _, 54, _, h1', .inl rfl, noI_two⟩
  have o1 : Off n0 w (w.setCell ⟨J, 0, none⟩ (.slice A nxt.length c)) := Off.set2 hsp hsp1
  have hb := below_alloc (w.setCell ⟨J, 0, none⟩ (.slice A nxt.length c)) (.cells #[.func (.func fn) #[] lb] 60)
  have hRJ : ∀ g, (Value.slice R hs.length cr).ownBlock = some g → g ≠ J := fun g hg => by
    obtain ⟨cs, ht⟩ := h5.tag hg
    exact tag_ne ht h1 (by decide)
  have hN := cell_one_new (w.setCell ⟨J, 0, none⟩ (.slice A nxt.length c)) (.func (.func fn) #[] lb) 60
  rw [hsz] at hN
  have HN := Lib.hid hN
  have hR1 : Rws n0 ((w.setCell ⟨J, 0, none⟩ (.slice A nxt.length c)).alloc (.cells #[.func (.func fn) #[] lb] 60)) 60 (.slice R hs.length cr) hs.length fs :=
    Rws.on (h5.keep fun g hg => heap_setCell_far _ _ _ _ _ (hRJ g hg)) hb
  have HO := Lib.hid hR1
  have HR : Hid (Off n0 w ((w.setCell ⟨J, 0, none⟩ (.slice A nxt.length c)).alloc (.cells #[.func (.func fn) #[] lb] 60)) ∧ ((w.setCell ⟨J, 0, none⟩ (.slice A nxt.length c)).alloc (.cells #[.func (.func fn) #[] lb] 60)).heap[J]? = some (.cells #[.slice A nxt.length c, .slice R hs.length cr] 54 (0, 0)) ∧ n0 ≤ ((w.setCell ⟨J, 0, none⟩ (.slice A nxt.length c)).alloc (.cells #[.func (.func fn) #[] lb] 60)).heap.size ∧ J < ((w.setCell ⟨J, 0, none⟩ (.slice A nxt.length c)).alloc (.cells #[.func (.func fn) #[] lb] 60)).heap.size ∧ (∀ b, b < w.heap.size → b ≠ J → ((w.setCell ⟨J, 0, none⟩ (.slice A nxt.length c)).alloc (.cells #[.func (.func fn) #[] lb] 60)).heap[b]? = w.heap[b]?) ∧ w.heap.size ≤ ((w.setCell ⟨J, 0, none⟩ (.slice A nxt.length c)).alloc (.cells #[.func (.func fn) #[] lb] 60)).heap.size) :=
    ⟨o1.then hb, by rw [hb.block J (by rw [hsz]; exact hJlt)]; exact h1', by have := h.hJ; rw [World.size_alloc, hsz]; omega, by rw [World.size_alloc, hsz]; omega,
      fun b hb' hbJ => by rw [hb.block b (by rw [hsz]; exact hb')]; exact heap_setCell_far _ _ _ _ _ hbJ, by rw [World.size_alloc, hsz]; omega⟩
  have HP := Lib.hid hp
  have HA := Lib.hid ha
  have HFF : Hid (RightM nxt ∧ Mild F ∧ F nxt = cur ∧ c ≤ maxLen) := ⟨hr, hM, hF, hm⟩
  have HE : Hid (Fs.length = hs.length ∧ (∀ (i : Nat) (f : Value) (F : List PR → List PR), fs[i]? = some f → Fs[i]? = some F → Acts n0 w f F) ∧ (∀ F ∈ Fs, Mild F) ∧ Chain (hs ++ [cur]) Fs ∧ fs.length = hs.length) := ⟨h7, h8, h9, h10, by have := h5.1.1; omega⟩
  have HJ : Hid (n0 ≤ J ∧ (∀ s ∈ hs ++ [cur], RightM s) ∧ (∀ g, (Value.slice R hs.length cr).ownBlock = some g → g ≠ J) ∧ w.cell? ⟨J, 1, none⟩ = some (.slice R hs.length cr) ∧ ∀ g, (Value.slice R hs.length cr).ownBlock = some g → g < w.heap.size) := ⟨h.hJ, h.right, hRJ, g1, fun g hg => (h5.1.lt g hg).2⟩
  clear hsz hsp hsp1 hN h h1 h2 h3 h4 h5 h7 h8 h9 h10 h1' o1 hb hR1 hp ha hr hM hF hm hRJ
  go_enter Try.func33, Try.ntmps33
  go_wp2_with (at_builtin; refine Rws.wpList (n0 := n0) rfl (.tmp 14) (.tmp 16) 52 rfl 60 i0 _ 8 Try.underlying52 hi hz0 hz1 hz2 rfl (NoI.list (l := [Value.nilFunc]) (by simp)) (.inr (.inr (.inl rfl))) rfl HO.out ⟨w.heap.size, 0, none⟩ 1 1 [.func (.func fn) #[] lb] rfl rfl (by omega) HN.out (by simp [Value.oneCell']) (by simp) (by unfold maxLen; omega) (by omega) HR.out.2.2.1 ?_; intro v' w2 ho2 hg2 hoff; refine Hid.out ?_)
  obtain ⟨R', cr', rfl, k1, k2, k3⟩ := own_lies ho2.1
  have hJ2 : w2.heap[J]? = some (.cells #[.slice A nxt.length c, .slice R hs.length cr] 54 (0, 0)) := by
    rw [hg2.block J HR.out.2.2.2.1 fun e => HJ.out.2.2.1 J e.symm rfl]
    exact HR.out.2.1
  obtain ⟨q0, q1, q2, q3⟩ := cells2 hJ2
  have h3 := (heap_set2 hJ2 (.slice R' (hs.length + 1) cr')).2
  have hsp2 : Sp n0 w2 J := ⟨HJ.out.1, _, 54, _, hJ2, .inl rfl, noI_two⟩
  have hsp3 : Sp n0 (w2.setCell ⟨J, 1, none⟩ (.slice R' (hs.length + 1) cr')) J := ⟨HJ.out.1, _, 54, _, h3, .inl rfl, noI_two⟩
  have hof : Off n0 w (w2.setCell ⟨J, 1, none⟩ (.slice R' (hs.length + 1) cr')) := (HR.out.1.trans hoff).trans (Off.set2 hsp2 hsp3)
  have HF : Hid (Chd n0 J w (hs ++ [cur]) nxt (w2.setCell ⟨J, 1, none⟩ (.slice R' (hs.length + 1) cr'))) := by
    refine ⟨hof, fun b hb hnb => ?_, HJ.out.1, by simp; omega, fun s hs' => ?_, A, c, R', cr', fs ++ [.func (.func fn) #[] lb], Fs ++ [F], by simpa using h3, hc, HFF.out.2.2.2, HP.out.off hof, ?_, by simp [HE.out.1], fun i f G h1 h2 => ?_, fun G hG => ?_, ?_⟩
    · have hbJ : b ≠ J := fun e => hnb (.inl e)
      rw [heap_setCell_far _ _ _ _ _ hbJ, hg2.block b (Nat.lt_of_lt_of_le hb HR.out.2.2.2.2.2) fun e => hnb (.inr ⟨_, b, HJ.out.2.2.2.1, e.symm, rfl⟩)]
      exact HR.out.2.2.2.2.1 b hb hbJ
    · rcases List.mem_append.1 hs' with e | e
      · exact HJ.out.2.1 s e
      · obtain rfl : s = nxt := by simpa using e
        exact HFF.out.1
    · have hk : Rws n0 (w2.setCell ⟨J, 1, none⟩ (.slice R' (hs.length + 1) cr')) 60 (.slice R' (hs.length + 1) cr') (hs.length + 1) (fs ++ [.func (.func fn) #[] lb]) := ho2.keep fun g hg => by
        obtain ⟨cs, ht⟩ := ho2.tag hg
        exact heap_setCell_far _ _ _ _ _ (tag_ne ht hJ2 (by decide))
      simpa using hk
    · rcases Nat.lt_or_ge i fs.length with hi | hi
      · rw [List.getElem?_append_left hi] at h1
        rw [List.getElem?_append_left (by rw [HE.out.1, ← HE.out.2.2.2.2]; exact hi)] at h2
        exact (HE.out.2.1 i f G h1 h2).off hof
      · have hii : i = fs.length := by have := (List.getElem?_eq_some_iff.1 h1).1; simp at this; omega
        subst hii
        rw [List.getElem?_append_right (Nat.le_refl _)] at h1
        rw [HE.out.2.2.2.2, ← HE.out.1, List.getElem?_append_right (Nat.le_refl _)] at h2
        simp at h1 h2
        subst h1 h2
        exact HA.out.off hof
    · rcases List.mem_append.1 hG with e | e
      · exact HE.out.2.2.1 G e
      · obtain rfl : G = F := by simpa using e
        exact HFF.out.2.1
    · exact chain_snoc HE.out.2.2.2.1 HE.out.1 HFF.out.2.2.1
  clear hof hsp3 hsp2 h3 hJ2 k3 ho2 hg2 hoff
  refine Lib.hid ?_
  go_wp2
  go_end0
  exact ⟨rfl, HF.out⟩
end Go.Proofs.Ytncbbjodianmoaa
