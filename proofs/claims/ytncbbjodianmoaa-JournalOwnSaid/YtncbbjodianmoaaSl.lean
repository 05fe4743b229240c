/- What 'span', 'Get', 'Del' and 'Put' return. Conditions: what is read lies in memory; rows and byte strings are not too great. -/
import Derived.Test.YtncbbjodianmoaaSk
namespace Go.Proofs.Ytncbbjodianmoaa
open Go.RowKit
set_option linter.unusedSimpArgs false
set_option linter.unusedVariables false

theorem szM_sml : ∀ {l : List PR}, (∀ p ∈ l, p.1.length ≤ 200000 ∧ p.2.length ≤ 200000) → szM l ≤ 400008 * l.length
  | [], _ => Nat.le_refl _
  | p :: l, h => by
    have h1 := h p (List.mem_cons_self ..)
    have h2 := szM_sml (l := l) fun q hq => h q (List.mem_cons_of_mem _ hq)
    rw [szM_cons, List.length_cons]
    omega
theorem Sml.sz {l : List PR} (h : Sml l) : szM l ≤ 4611686018427387904 := by
  have := szM_sml h.2
  have := h.1
  omega
theorem sp_le (k : List Int) (l : List PR) : spA k l ≤ spB k l ∧ spB k l ≤ l.length := by
  unfold spA spB
  have := bey_le k l
  split <;> omega
theorem sml_putM {l : List PR} (h : Sml l) (hl : l.length ≤ 100000) {k v : List Int} (hk : k.length ≤ 64) (hv : v.length ≤ 256) : Sml (putM l k v) := by
  unfold putM
  refine ⟨?_, fun p hp => ?_⟩
  · simp only [List.length_append, List.length_cons, List.length_take, List.length_drop]
    have := sp_le k l
    omega
  · rcases List.mem_append.1 hp with e | e
    · exact h.2 p (List.mem_of_mem_take e)
    · rcases List.mem_cons.1 e with e | e
      · subst e; exact ⟨by simp; omega, by simp; omega⟩
      · exact h.2 p (List.mem_of_mem_drop e)
theorem sml_delM {l : List PR} (h : Sml l) (k : List Int) : Sml (delM l k) :=
  ⟨Nat.le_trans (delM_sub l k).length_le h.1, fun p hp => h.2 p ((delM_sub l k).subset hp)⟩
theorem putM_eq (l : List PR) (k v : List Int) : putM l k v = l.take (spA k l) ++ [(k, v)] ++ l.drop (spB k l) := by simp [putM]

set_option maxHeartbeats 1600000 in
theorem spanC (A : Option Addr) (ls : List PR) (c : Nat) (Ak : Option Addr) (key : List Int) (ck : Nat) (w : World) (hp : Prs w w.heap.size A c ls) (hc : ls.length ≤ c) (hm : c ≤ maxLen) (hk : SB w w.heap.size (.slice Ak key.length ck) key) :
    Calls Try.prog 45 #[.slice A ls.length c, .slice Ak key.length ck] w fun e w' => e = .returned (.tuple #[.int .i64 (spA key ls), .int .i64 (spB key ls)]) ∧ Below w.heap.size w w' := by
  have hb1 := below_alloc w (.cells #[.slice Ak key.length ck] 30)
  have K1 := Lib.hid (indexC 57 w.heap.size (fun p => p.1 == key) ent37 A ls c _ (hp.on hb1) hc hm (with_asks Ak key ck w hk))
  have HP := Lib.hid hp
  have HK := Lib.hid hk
  have hm' := hm
  clear hp hk
  unfold maxLen at hm
  by_cases hf : fnd key ls < ls.length
  · have h0 : idxV (fun p => p.1 == key) ls = (fnd key ls : Nat) := if_pos hf
    have hA : spA key ls = fnd key ls := if_pos hf
    have hB : spB key ls = fnd key ls + 1 := if_pos hf
    rw [hA, hB]
    rw [h0] at K1
    have HB1 := Lib.hid hb1
    clear hA hB h0 hb1
    generalize fnd key ls = q at *
    go_enter Try.func45, Try.ntmps45
    go_wp2_with (first | (go_at_call 50; refine (withC _ _ _ _).mono ?_; rintro e w1 ⟨rfl, rfl⟩) | (go_at_call 49; (with_reducible refine K1.out.mono ?_); rintro e w2 ⟨rfl, hb2⟩))
    go_ret2
    exact ⟨by go_num, HB1.out.trans (hb2.mono HB1.out.size)⟩
  · have h0 : idxV (fun p => p.1 == key) ls = -1 := if_neg hf
    rw [h0] at K1
    have K2 : Hid (∀ w2, Below w.heap.size w w2 → Calls Try.prog 49 #[.slice A ls.length c, closV 59 w2.heap.size] (w2.alloc (.cells #[.slice Ak key.length ck] 30)) fun e w' => e = .returned (.int .i64 (idxV (fun p => decide (0 < cmpB p.1 key)) ls)) ∧ Below (w2.alloc (.cells #[.slice Ak key.length ck] 30)).heap.size (w2.alloc (.cells #[.slice Ak key.length ck] 30)) w') := fun w2 hb =>
      indexC 59 w2.heap.size _ ent49 A ls c _ ((HP.out.on hb).on (below_alloc w2 _)) hc hm' (beyond_asks Ak key ck w2 (HK.out.on hb))
    have HB1 := Lib.hid hb1
    have HB2 : Hid (∀ w2, Below w.heap.size w w2 → Below w.heap.size w (w2.alloc (.cells #[.slice Ak key.length ck] 30))) := fun w2 hb => hb.trans ((below_alloc w2 _).mono hb.size)
    by_cases hg : bey key ls < ls.length
    · have h1 : idxV (fun p => decide (0 < cmpB p.1 key)) ls = (bey key ls : Nat) := if_pos hg
      have hA : spA key ls = bey key ls := if_neg hf
      have hB : spB key ls = bey key ls := if_neg hf
      rw [hA, hB]
      rw [h1] at K2
      clear hA hB h0 h1 hb1 hf
      generalize bey key ls = q at *
      go_enter Try.func45, Try.ntmps45
      go_wp2_with (first | (go_at_call 50; refine (withC _ _ _ _).mono ?_; rintro e w1 ⟨rfl, rfl⟩) | fail)
      (with_reducible refine K1.out.mono ?_)
      rintro e w2 ⟨rfl, hb2⟩
      have HB3 := Lib.hid (HB1.out.trans (hb2.mono HB1.out.size))
      clear hb2
      go_wp2_with (first | (go_at_call 56; refine (beyondC _ _ _ _).mono ?_; rintro e w1 ⟨rfl, rfl⟩) | fail)
      (with_reducible refine (K2.out _ HB3.out).mono ?_)
      rintro e w3 ⟨rfl, hb3⟩
      have HB4 := Lib.hid ((HB2.out _ HB3.out).trans (hb3.mono (HB2.out _ HB3.out).size))
      clear hb3
      go_wp2
      go_ret2
      exact ⟨by go_num, HB4.out⟩
    · have h1 : idxV (fun p => decide (0 < cmpB p.1 key)) ls = -1 := if_neg hg
      have hl : bey key ls = ls.length := by have := bey_le key ls; omega
      have hA : spA key ls = ls.length := (if_neg hf).trans hl
      have hB : spB key ls = ls.length := (if_neg hf).trans hl
      rw [hA, hB]
      rw [h1] at K2
      clear hA hB h0 h1 hb1 hf hg hl
      go_enter Try.func45, Try.ntmps45
      go_wp2_with (first | (go_at_call 50; refine (withC _ _ _ _).mono ?_; rintro e w1 ⟨rfl, rfl⟩) | fail)
      (with_reducible refine K1.out.mono ?_)
      rintro e w2 ⟨rfl, hb2⟩
      have HB3 := Lib.hid (HB1.out.trans (hb2.mono HB1.out.size))
      clear hb2
      go_wp2_with (first | (go_at_call 56; refine (beyondC _ _ _ _).mono ?_; rintro e w1 ⟨rfl, rfl⟩) | fail)
      (with_reducible refine (K2.out _ HB3.out).mono ?_)
      rintro e w3 ⟨rfl, hb3⟩
      have HB4 := Lib.hid ((HB2.out _ HB3.out).trans (hb3.mono (HB2.out _ HB3.out).size))
      clear hb3
      go_wp2
      go_ret2
      exact ⟨rfl, HB4.out⟩

/-- what 'Get' returns: the value in memory of its own -/
def GotO (w : World) (v : List Int) (is : Bool) (e : Ending) (w' : World) : Prop :=
  ∃ V, e = .returned (.tuple #[V, .bool is]) ∧ w'.ownsRow w.heap.size 5 1 V v.length (cellsOf v) ∧ Byt v ∧ Below w.heap.size w w'
theorem own_SB {w : World} {base : Nat} {V : Value} {v : List Int} (h : w.ownsRow base 5 1 V v.length (cellsOf v)) (hb : Byt v) : SB w w.heap.size V v := by
  obtain ⟨A, c, e, h1, h2, h3⟩ := own_lies h
  exact ⟨A, c, e, h1, h2, h3, hb⟩

set_option maxHeartbeats 1600000 in
theorem getC (A : Option Addr) (ls : List PR) (c : Nat) (Ak : Option Addr) (key : List Int) (ck : Nat) (w : World) (hp : Prs w w.heap.size A c ls) (hc : ls.length ≤ c) (hm : c ≤ maxLen) (hk : SB w w.heap.size (.slice Ak key.length ck) key) (hs : Sml ls) :
    Calls Try.prog 31 #[.slice A ls.length c, .slice Ak key.length ck] w (GotO w (getM ls key) (hasM ls key)) := by
  have hb1 := below_alloc w (.cells #[.slice Ak key.length ck] 30)
  have K1 := Lib.hid (indexC 57 w.heap.size (fun p => p.1 == key) ent37 A ls c _ (hp.on hb1) hc hm (with_asks Ak key ck w hk))
  have HP := Lib.hid hp
  have HB1 := Lib.hid hb1
  clear hp hk
  unfold maxLen at hm
  by_cases hf : fnd key ls < ls.length
  · have h0 : idxV (fun p => p.1 == key) ls = (fnd key ls : Nat) := if_pos hf
    obtain ⟨v, hv⟩ := fnd_at hf
    have hg : getM ls key = v := by unfold getM; rw [List.getD, hv]; rfl
    have hh : hasM ls key = true := by unfold hasM; simpa using hf
    have hsm := hs.2 _ (List.mem_of_getElem? hv)
    rw [hg, hh]
    rw [h0] at K1
    clear h0 hb1 hg hh hs
    generalize fnd key ls = q at *
    go_enter Try.func31, Try.ntmps31
    go_wp2_with (first | (go_at_call 50; refine (withC _ _ _ _).mono ?_; rintro e w1 ⟨rfl, rfl⟩) | fail)
    (with_reducible refine K1.out.mono ?_)
    rintro e w2 ⟨rfl, hb2⟩
    have HB2 := Lib.hid (HB1.out.trans (hb2.mono HB1.out.size))
    obtain ⟨b, o, Au, cu, Av, cv, rfl, c1, c2, s1, s2, _⟩ := (HP.out.on HB2.out).at hv
    have HV := Lib.hid s2.byt
    have K27 : Hid (Calls Try.prog 44 #[.slice Av v.length cv] w2 (OwnBytes w2 v)) := by
      obtain ⟨_, _, e2, _, _, g2, _⟩ := s2
      injection e2 with e2 _ e2'
      subst e2 e2'
      exact cloneO _ v _ w2 g2 (by have h := hsm.2; omega)
    clear hb2 hv s1 s2 c1 hsm
    go_wp2_with (first | (go_at_call 44; (with_reducible refine K27.out.mono ?_); rintro e w3 ⟨V, rfl, ho3, hb3⟩) | fail)
    go_ret2
    exact ⟨V, rfl, own_mono ho3 HB2.out.size, HV.out, HB2.out.trans (hb3.mono HB2.out.size)⟩
  · have h0 : idxV (fun p => p.1 == key) ls = -1 := if_neg hf
    have hg : getM ls key = [] := by unfold getM; rw [List.getD, List.getElem?_eq_none (by omega)]; rfl
    have hh : hasM ls key = false := by unfold hasM; simpa using hf
    rw [hg, hh]
    rw [h0] at K1
    clear h0 hb1 hg hh hs hf
    go_enter Try.func31, Try.ntmps31
    go_wp2_with (first | (go_at_call 50; refine (withC _ _ _ _).mono ?_; rintro e w1 ⟨rfl, rfl⟩) | fail)
    (with_reducible refine K1.out.mono ?_)
    rintro e w2 ⟨rfl, hb2⟩
    have HB2 := Lib.hid (HB1.out.trans (hb2.mono HB1.out.size))
    clear hb2
    go_wp2
    go_ret2
    exact ⟨_, rfl, World.ownsRow_nil _ _ _ _, Byt.nil, HB2.out⟩

set_option maxHeartbeats 1600000 in
theorem delC (A : Option Addr) (ls : List PR) (c : Nat) (Ak : Option Addr) (key : List Int) (ck : Nat) (w : World) (hp : Prs w w.heap.size A c ls) (hc : ls.length ≤ c) (hm : c ≤ maxLen) (hk : SB w w.heap.size (.slice Ak key.length ck) key) (hs : Sml ls) :
    Calls Try.prog 36 #[.slice A ls.length c, .slice Ak key.length ck] w (NewF w (delM ls key)) := by
  have hb1 := below_alloc w (.cells #[.slice Ak key.length ck] 30)
  have K1 := Lib.hid (indexC 57 w.heap.size (fun p => p.1 == key) ent37 A ls c _ (hp.on hb1) hc hm (with_asks Ak key ck w hk))
  have HP := Lib.hid hp
  have HB1 := Lib.hid hb1
  have HSd := Lib.hid (sml_delM hs key)
  have hm' := hm
  have hsl := hs.1
  have HS := Lib.hid hs
  clear hp hk hs
  unfold maxLen at hm
  by_cases hf : fnd key ls < ls.length
  · have h0 : idxV (fun p => p.1 == key) ls = (fnd key ls : Nat) := if_pos hf
    have K2 : Hid (∀ w2, Below w.heap.size w w2 → Calls Try.prog 46 #[.slice A ls.length c, .int .i64 (fnd key ls : Nat), .int .i64 ((fnd key ls + 1 : Nat) : Int), .slice none 0 0] w2 (NewPrs w2 (delM ls key))) := fun w2 hb =>
      joinedC A none ls [] c (fnd key ls) (fnd key ls + 1) 0 0 w2 (HP.out.on hb) (Prs.nothing _ _) rfl (by omega) (by omega) hc hm' (by simp; omega) _ (by unfold delM; simp)
    have HCp : Hid (∀ A' c' w3, Prs w3 w3.heap.size A' c' (delM ls key) → Calls Try.prog 47 #[.slice A' (delM ls key).length c'] w3 (NewF w3 (delM ls key))) := fun A' c' w3 h => copiedC A' _ c' w3 h HSd.out
    rw [h0] at K1
    clear h0 hb1
    generalize delM ls key = ds at *
    generalize fnd key ls = q at *
    go_enter Try.func36, Try.ntmps36
    go_wp2_with (first | (go_at_call 50; refine (withC _ _ _ _).mono ?_; rintro e w1 ⟨rfl, rfl⟩) | fail)
    (with_reducible refine K1.out.mono ?_)
    rintro e w2 ⟨rfl, hb2⟩
    have HB2 := Lib.hid (HB1.out.trans (hb2.mono HB1.out.size))
    clear hb2
    have K2 := Lib.hid (K2.out _ HB2.out)
    rw [show (((q + 1 : Nat) : Int)) = (q : Int) + 1 by omega] at K2
    go_wp2_with fail
    (with_reducible refine K2.out.mono ?_)
    rintro e w3 ⟨A3, c3, rfl, g1, g2, g3, hb3⟩
    have HB3 := Lib.hid (HB2.out.trans (hb3.mono HB2.out.size))
    have K3 := Lib.hid (HCp.out A3 c3 w3 g3)
    clear hb3 g1 g2 g3
    go_wp2_with fail
    (with_reducible refine K3.out.mono ?_)
    rintro e w4 ⟨A4, c4, rfl, g1, g2, g3, g4, hb4⟩
    have HB4 : Hid (ds.length ≤ c4 ∧ c4 ≤ maxLen ∧ PrsD w4 (Fr w.heap.size w4.heap.size) A4 c4 ds ∧ RowF w4 A4 ∧ Below w.heap.size w w4) := ⟨g1, g2, g3.lo HB3.out.size, g4, HB3.out.trans (hb4.mono HB3.out.size)⟩
    clear hb4 g1 g2 g3 g4
    go_wp2
    go_ret
    exact ⟨A4, c4, rfl, HB4.out⟩
  · have h0 : idxV (fun p => p.1 == key) ls = -1 := if_neg hf
    have hd : delM ls key = ls := by
      unfold delM
      rw [List.take_of_length_le (by omega), List.drop_eq_nil_of_le (by omega), List.append_nil]
    rw [hd]
    rw [h0] at K1
    have HCp : Hid (∀ w3, Below w.heap.size w w3 → Calls Try.prog 47 #[.slice A ls.length c] w3 (NewF w3 ls)) := fun w3 h => copiedC A _ c w3 (HP.out.on h) HS.out
    clear h0 hb1 hf hd
    go_enter Try.func36, Try.ntmps36
    go_wp2_with (first | (go_at_call 50; refine (withC _ _ _ _).mono ?_; rintro e w1 ⟨rfl, rfl⟩) | fail)
    (with_reducible refine K1.out.mono ?_)
    rintro e w2 ⟨rfl, hb2⟩
    have HB2 := Lib.hid (HB1.out.trans (hb2.mono HB1.out.size))
    have K3 := Lib.hid (HCp.out _ HB2.out)
    clear hb2
    go_wp2_with fail
    (with_reducible refine K3.out.mono ?_)
    rintro e w4 ⟨A4, c4, rfl, g1, g2, g3, g4, hb4⟩
    have HB4 : Hid (ls.length ≤ c4 ∧ c4 ≤ maxLen ∧ PrsD w4 (Fr w.heap.size w4.heap.size) A4 c4 ls ∧ RowF w4 A4 ∧ Below w.heap.size w w4) := ⟨g1, g2, g3.lo HB2.out.size, g4, HB2.out.trans (hb4.mono HB2.out.size)⟩
    clear hb4 g1 g2 g3 g4
    go_wp2
    go_ret
    exact ⟨A4, c4, rfl, HB4.out⟩

theorem prs_one {w : World} {ku vu : Value} {k v : List Int} (h1 : SB w w.heap.size ku k) (h2 : SB w w.heap.size vu v) : Prs (w.alloc (.cells #[ku, vu] 47)) (w.alloc (.cells #[ku, vu] 47)).heap.size (some ⟨w.heap.size, 0, none⟩) 1 [(k, v)] :=
  ⟨[ku, vu], ⟨(fun e => by cases e), fun j u hu => ⟨_, rfl, by simp, by rw [Addr.add_mid, Nat.zero_add, cell_of_row _ _ _ _ _ _ (heap_alloc_new w _)]; simpa using hu⟩⟩, .cons (h1.on (below_alloc w _)) (h2.on (below_alloc w _)) .nil⟩

set_option maxHeartbeats 1600000 in
theorem putC (A : Option Addr) (ls : List PR) (c : Nat) (Ak : Option Addr) (key : List Int) (ck : Nat) (Av : Option Addr) (val : List Int) (cv : Nat) (w : World) (hp : Prs w w.heap.size A c ls) (hc : ls.length ≤ c) (hm : c ≤ maxLen) (hk : SB w w.heap.size (.slice Ak key.length ck) key) (hv : SB w w.heap.size (.slice Av val.length cv) val) (hs : Sml ls) (hl : ls.length ≤ 100000) :
    Calls Try.prog 29 #[.slice A ls.length c, .slice Ak key.length ck, .slice Av val.length cv] w (PutF w (putR ls key val) (putE ls key val)) := by
  have hkl : key.length ≤ maxLen := by obtain ⟨_, _, e, h1, h2, _⟩ := hk; omega
  have hvl : val.length ≤ maxLen := by obtain ⟨_, _, e, h1, h2, _⟩ := hv; omega
  have HP := Lib.hid hp
  have HK := Lib.hid hk
  have HV := Lib.hid hv
  have HS := Lib.hid hs
  have hm' := hm
  unfold maxLen at hm hkl hvl
  by_cases h1 : 64 < key.length
  · have hE : putE ls key val = 1 := if_pos (.inl h1)
    have hR : putR ls key val = [] := if_neg (by rw [hE]; decide)
    rw [hE, hR]
    clear hE hR hp hk hv hs
    go_enter Try.func29, Try.ntmps29
    go_wp2
    go_ret2
    exact .none _ _ _ (Below.refl _ _)
  · by_cases h2 : 256 < val.length
    · have hE : putE ls key val = 1 := if_pos (.inr h2)
      have hR : putR ls key val = [] := if_neg (by rw [hE]; decide)
      rw [hE, hR]
      clear hE hR hp hk hv hs
      go_enter Try.func29, Try.ntmps29
      go_wp2
      go_ret2
      exact .none _ _ _ (Below.refl _ _)
    · have K1 := Lib.hid (spanC A ls c Ak key ck w hp hc hm' hk)
      have hsl := sp_le key ls
      have K2 : Hid (∀ w1, Below w.heap.size w w1 → Calls Try.prog 46 #[.slice A ls.length c, .int .i64 (spA key ls), .int .i64 (spB key ls), .slice (some ⟨w1.heap.size, 0, none⟩) 1 1] (w1.alloc (.cells #[.slice Ak key.length ck, .slice Av val.length cv] 47)) (NewPrs (w1.alloc (.cells #[.slice Ak key.length ck, .slice Av val.length cv] 47)) (putM ls key val))) := fun w1 hb =>
        joinedC A _ ls [(key, val)] c (spA key ls) (spB key ls) 1 1 _ ((HP.out.on hb).on (below_alloc w1 _)) (prs_one (HK.out.on hb) (HV.out.on hb)) rfl hsl.1 hsl.2 hc hm' (by simp; omega) _ (putM_eq ls key val)
      have hSP := sml_putM hs hl (k := key) (v := val) (by omega) (by omega)
      have HSP := Lib.hid hSP
      have HSz : Hid (∀ A' c' w3, Prs w3 w3.heap.size A' c' (putM ls key val) → (putM ls key val).length ≤ c' → c' ≤ maxLen → Calls Try.prog 43 #[.slice A' (putM ls key val).length c'] w3 fun e w' => e = .returned (.int .i64 (szM (putM ls key val))) ∧ Below w3.heap.size w3 w') := fun A' c' w3 h g1 g2 => sizeC A' _ c' w3 h g1 g2 HSP.out.sz
      have HCp : Hid (∀ A' c' w3, Prs w3 w3.heap.size A' c' (putM ls key val) → Calls Try.prog 47 #[.slice A' (putM ls key val).length c'] w3 (NewF w3 (putM ls key val))) := fun A' c' w3 h => copiedC A' _ c' w3 h HSP.out
      have HB2 : Hid (∀ w1, Below w.heap.size w w1 → Below w.heap.size w (w1.alloc (.cells #[.slice Ak key.length ck, .slice Av val.length cv] 47))) := fun w1 hb => hb.trans ((below_alloc w1 _).mono hb.size)
      have h3 : ¬(64 < key.length ∨ 256 < val.length) := by omega
      by_cases hz : 2048 < szM (putM ls key val)
      · have hE : putE ls key val = 71 := by unfold putE; rw [if_neg h3, if_pos hz]
        have hR : putR ls key val = [] := if_neg (by rw [hE]; decide)
        rw [hE, hR]
        have hzz := HSP.out.sz
        clear hE hR hp hk hv hs hSP hsl h3
        generalize putM ls key val = ms at *
        generalize spA key ls = qa at *
        generalize spB key ls = qb at *
        generalize szM ms = z at *
        go_enter Try.func29, Try.ntmps29
        go_wp2_with fail
        (with_reducible refine K1.out.mono ?_)
        rintro e w1 ⟨rfl, hb1⟩
        have HB1 := Lib.hid hb1
        have K3 := Lib.hid (K2.out _ hb1)
        have HB3 := Lib.hid (HB2.out _ hb1)
        clear hb1
        go_wp2_with fail
        (with_reducible refine K3.out.mono ?_)
        rintro e w3 ⟨A3, c3, rfl, g1, g2, g3, hb3⟩
        have HB4 := Lib.hid (HB3.out.trans (hb3.mono HB3.out.size))
        have K4 := Lib.hid (HSz.out A3 c3 w3 g3 g1 g2)
        clear hb3 g1 g2 g3
        go_wp2_with fail
        (with_reducible refine K4.out.mono ?_)
        rintro e w4 ⟨rfl, hb4⟩
        have HB5 := Lib.hid (HB4.out.trans (hb4.mono HB4.out.size))
        clear hb4
        go_wp2
        go_ret2
        exact .none _ _ _ HB5.out
      · have hE : putE ls key val = 0 := by unfold putE; rw [if_neg h3, if_neg hz]
        have hR : putR ls key val = putM ls key val := if_pos hE
        rw [hE, hR]
        clear hE hR hp hk hv hs hSP hsl h3
        generalize putM ls key val = ms at *
        generalize spA key ls = qa at *
        generalize spB key ls = qb at *
        generalize szM ms = z at *
        go_enter Try.func29, Try.ntmps29
        go_wp2_with fail
        (with_reducible refine K1.out.mono ?_)
        rintro e w1 ⟨rfl, hb1⟩
        have HB1 := Lib.hid hb1
        have K3 := Lib.hid (K2.out _ hb1)
        have HB3 := Lib.hid (HB2.out _ hb1)
        clear hb1
        go_wp2_with fail
        (with_reducible refine K3.out.mono ?_)
        rintro e w3 ⟨A3, c3, rfl, g1, g2, g3, hb3⟩
        have HB4 := Lib.hid (HB3.out.trans (hb3.mono HB3.out.size))
        have HG := Lib.hid g3
        have K4 := Lib.hid (HSz.out A3 c3 w3 g3 g1 g2)
        clear hb3 g1 g2 g3
        go_wp2_with fail
        (with_reducible refine K4.out.mono ?_)
        rintro e w4 ⟨rfl, hb4⟩
        have HB5 := Lib.hid (HB4.out.trans (hb4.mono HB4.out.size))
        have K5 := Lib.hid (HCp.out A3 c3 w4 (HG.out.on hb4))
        clear hb4
        go_wp2_with fail
        (with_reducible refine K5.out.mono ?_)
        rintro e w5 ⟨A5, c5, rfl, g1, g2, g3, g4, hb5⟩
        have HB6 : Hid (ms.length ≤ c5 ∧ c5 ≤ maxLen ∧ PrsD w5 (Fr w.heap.size w5.heap.size) A5 c5 ms ∧ RowF w5 A5 ∧ Below w.heap.size w w5) := ⟨g1, g2, g3.lo HB5.out.size, g4, HB5.out.trans (hb5.mono HB5.out.size)⟩
        clear hb5 g1 g2 g3 g4
        go_wp2
        go_ret2
        exact ⟨A5, c5, rfl, HB6.out⟩
end Go.Proofs.Ytncbbjodianmoaa
