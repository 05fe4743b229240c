/- The walk of WireKept: it returns true, and nothing that was there has changed. Conditions: none beyond what its arguments are. -/
import Derived.Test.YtjkdlchfmgefjaaQ
import Derived.Test.YtjkdlchfmgefjaaL
import Derived.Test.YtjkdlchfmgefjaaHeld
import Derived.Deep.DeepCutAuto
namespace Go.Proofs.Ytjkdlchfmgefjaa
open Go.RowKit

theorem bool_again {l : List Int} (hb : Byt l) (h : boolE l 0 = 0) : [if boolA l 0 then 1 else 0] = l.take 1 ∧ boolB l 0 = 1 ∧ 1 ≤ l.length := by
  have hr : roomV l.length 0 1 = 0 := by
    unfold boolE at h
    split at h
    · assumption
    · exact h
  have h1 := room_is0 hr
  match l, h1 with
  | x :: r, h1 =>
    have hx := hb x (List.mem_cons_self ..)
    have hE := h
    unfold boolE at h
    rw [if_pos hr] at h
    have hle : ¬ 1 < x := by
      intro hlt
      rw [if_pos (by simpa using hlt)] at h
      cases h
    refine ⟨?_, ?_, by simp⟩
    · have hA : boolA (x :: r) 0 = (x == 1) := by unfold boolA; rw [if_pos hr]; rfl
      rw [hA]
      rcases (show x = 0 ∨ x = 1 by omega) with rfl | rfl <;> rfl
    · unfold boolB
      rw [if_pos hE]
      rfl
  | [], h1 => simp at h1

/-- what reading a byte string returns, found or not -/
def BytesAny (w : World) (l : List Int) (p : Int) (e : Ending) (w' : World) : Prop :=
  ∃ A' m c' T E, e = .returned (.tuple #[.slice A' m c', .int .i64 T, .int .i64 E]) ∧ m ≤ c' ∧ c' ≤ maxLen ∧ (E = 0 → bytesE l p = 0 ∧ T = bytesB l p ∧ m = cnt l p ∧ Lies w' w'.heap.size A' c' (cellsOf (bytesA l p))) ∧ Below w.heap.size w w'
theorem bytes_any (A : Option Addr) (l : List Int) (c : Nat) (p : Int) (w : World) (hc : l.length ≤ c) (hcm : c ≤ maxLen) (hp1 : -9223372036854775808 ≤ p) (hp2 : p ≤ 9223372036854775807) (hl : Lies w w.heap.size A c (cellsOf l)) (hby : Byt l) :
    Calls Try.prog 23 #[.slice A l.length c, .int .i64 p] w (BytesAny w l p) := by
  by_cases h : bytesE l p = 0
  · exact (bytes_ok A l c p w hc hcm hp1 hp2 hl hby h).mono fun e w' ⟨A', c', he, h1, h2, h3, h4⟩ => ⟨A', _, c', _, _, he, h1, h2, fun _ => ⟨h, rfl, rfl, h3⟩, h4⟩
  · refine (bytes_err A l c p w _ hc hcm hp1 hp2 hl hby h).mono fun e w' ⟨he, hw⟩ => ?_
    subst hw
    exact ⟨_, _, _, _, _, he, Nat.le_refl _, Nat.zero_le _, fun h0 => absurd h0 h, Below.refl _ _⟩
theorem putRow_n (A : Option Addr) (c n : Nat) (ls : List (List Int)) (w : World) (hnn : ls.length = n) (hg : Grid w w.heap.size A c ls) (hn : n ≤ 1024) (hgood : ∀ l ∈ ls, l.length ≤ 65536) :
    Calls Try.prog 21 #[.slice A n c] w fun e w' => ∃ A' c', e = .returned (.tuple #[.slice A' (rowBytes ls).length c', .int .i64 0]) ∧ (rowBytes ls).length ≤ c' ∧ c' ≤ maxLen ∧
      Lies w' w'.heap.size A' c' (cellsOf (rowBytes ls)) ∧ Below w.heap.size w w' := by
  subst hnn
  exact putRow A c ls w hg hn hgood

set_option maxRecDepth 100000 in
set_option maxHeartbeats 2000000 in
theorem kept_walk (A : Option Addr) (l : List Int) (c : Nat) (w : World) (hc : l.length ≤ c) (hcm : c ≤ maxLen) (hl : Lies w w.heap.size A c (cellsOf l)) (hby : Byt l) :
    Calls Try.prog 6 #[.slice A l.length c] w fun e w' => e = .returned (.bool true) ∧ Below w.heap.size w w' := by
  have HL := Lib.hid hl
  have HY := Lib.hid hby
  clear hl hby
  have hcm' := hcm
  unfold maxLen at hcm
  go_enter Try.func6, Try.ntmps6
  go_wp2_with fail
  refine (head_true _).mono ?_
  rintro e w1 ⟨rfl, hb1⟩
  have HL1 := Lib.hid (HL.out.below hb1)
  go_wp2_with fail
  refine (num A l c 0 _ _ hc hcm' (by omega) (by omega) HL1.out HY.out).mono ?_
  rintro e w2 ⟨rfl, rfl⟩
  go_upto_region 3 with fail
  go_cut [4, 5, 6, 35] (fun _ _ _ s wx => s = .bool false ∧ Below w.heap.size w wx)
  case first =>
    by_cases hr : roomV l.length 0 8 = 0
    · have h8 := room_is0 hr
      have hA : numA l 0 = wrap64 (val (l.take 8)) := by unfold numA; rw [if_pos hr]; rfl
      have hB : numB l 0 = 8 := by unfold numB; rw [if_pos hr]; rfl
      have hbe : be (wrap64 (val (l.take 8))) 7 8 = l.take 8 := be_val8 (by rw [List.length_take]; omega) (HY.out.pre 8)
      rw [hA, hB, hr]
      have k15 := putNumS (wrap64 (val (l.take 8)))
      rw [hbe] at k15
      have K15 := Lib.hid k15
      clear k15 hbe hA hB hr
      have hz1 := hb1.size
      have h8c : (8 : Int) ≤ (c : Int) := by omega
      have h8n : 8 ≤ c := by omega
      generalize wrap64 (val (l.take 8)) = N at *
      refine wp_region_held_drew (S := fun w' => Below w1.heap.size w1 w') (by kernel_rfl) ?_ (fun hHeld => ?_)
      · exact (Below.refl _ _).drew
      have hsb : Str w1 A 8 c (strOfNums (l.take 8)) := str_low (by rw [List.length_take]; omega) (HL1.out.pre 8) (Below.refl _ _) hz1
      refine wpAnyH_take (i := 0) (v := ?va0) rfl (by kernel_rfl) (by kernel_rfl) (by kernel_rfl) (fun _ _ _ h => h) (Or.inl ⟨by kernel_rfl, ?ya0⟩) (by assumption) ?ra0
      case ya0 => (intro w hSw; (try dsimp only at hSw); go_simp; (try with_reducible rfl))
      try simp only [Act.put, List.getElem_toArray, List.getElem_cons_zero, List.getElem_cons_succ, List.setIfInBounds_toArray, List.set_cons_zero, List.set_cons_succ]
      refine wpAnyH_take (i := 1) (v := ?va1) rfl (by kernel_rfl) (by kernel_rfl) (by kernel_rfl) (fun _ _ _ h => h) (Or.inl ⟨by kernel_rfl, ?ya1⟩) (by assumption) ?ra1
      case ya1 => (intro w hSw; (try dsimp only at hSw); go_simp; (try with_reducible rfl))
      try simp only [Act.put, List.getElem_toArray, List.getElem_cons_zero, List.getElem_cons_succ, List.setIfInBounds_toArray, List.set_cons_zero, List.set_cons_succ]
      refine wpAnyH_take (i := 2) (v := ?va2) rfl (by kernel_rfl) (by kernel_rfl) (by kernel_rfl) (fun _ _ _ h => h) (Or.inl ⟨by kernel_rfl, ?ya2⟩) (by assumption) ?ra2
      case ya2 => (intro w hSw; (try dsimp only at hSw); go_simp; (try with_reducible rfl))
      try simp only [Act.put, List.getElem_toArray, List.getElem_cons_zero, List.getElem_cons_succ, List.setIfInBounds_toArray, List.set_cons_zero, List.set_cons_succ]
      refine wpAnyH_take (i := 3) (v := ?va3) rfl (by kernel_rfl) (by kernel_rfl) (by kernel_rfl) (fun _ _ _ h => h) (Or.inl ⟨by kernel_rfl, ?ya3⟩) (by assumption) ?ra3
      case ya3 => (intro w hSw; (try dsimp only at hSw); go_simp; (try with_reducible rfl))
      try simp only [Act.put, List.getElem_toArray, List.getElem_cons_zero, List.getElem_cons_succ, List.setIfInBounds_toArray, List.set_cons_zero, List.set_cons_succ]
      refine wpAnyH_take (i := 4) (v := ?va4) rfl (by kernel_rfl) (by kernel_rfl) (by kernel_rfl) (fun _ _ _ h => h) (Or.inl ⟨by kernel_rfl, ?ya4⟩) (by assumption) ?ra4
      case ya4 => (intro w hSw; (try dsimp only at hSw); go_simp; (try with_reducible rfl))
      try simp only [Act.put, List.getElem_toArray, List.getElem_cons_zero, List.getElem_cons_succ, List.setIfInBounds_toArray, List.set_cons_zero, List.set_cons_succ]
      refine wpAnyH_take (i := 5) (v := ?va5) rfl (by kernel_rfl) (by kernel_rfl) (by kernel_rfl) (fun _ _ _ h => h) (Or.inl ⟨by kernel_rfl, ?ya5⟩) (by assumption) ?ra5
      case ya5 => (intro w hSw; (try dsimp only at hSw); go_simp; (try with_reducible rfl))
      try simp only [Act.put, List.getElem_toArray, List.getElem_cons_zero, List.getElem_cons_succ, List.setIfInBounds_toArray, List.set_cons_zero, List.set_cons_succ]
      refine wpAnyH_take (i := 6) (v := ?va6) rfl (by kernel_rfl) (by kernel_rfl) (by kernel_rfl) (fun _ _ _ h => h) (Or.inl ⟨by kernel_rfl, ?ya6⟩) (by assumption) ?ra6
      case ya6 => (intro w hSw; (try dsimp only at hSw); go_simp; (try with_reducible rfl))
      try simp only [Act.put, List.getElem_toArray, List.getElem_cons_zero, List.getElem_cons_succ, List.setIfInBounds_toArray, List.set_cons_zero, List.set_cons_succ]
      refine wpAnyH_take (i := 9) (v := ?va9) rfl (by kernel_rfl) (by kernel_rfl) (by kernel_rfl) (fun _ _ _ h => h) (Or.inl ⟨by kernel_rfl, ?ya9⟩) (by assumption) ?ra9
      case ya9 => (intro w hSw; (try dsimp only at hSw); go_simp; (try with_reducible rfl))
      try simp only [Act.put, List.getElem_toArray, List.getElem_cons_zero, List.getElem_cons_succ, List.setIfInBounds_toArray, List.set_cons_zero, List.set_cons_succ]
      refine wpAnyH_take (i := 10) (v := ?va10) rfl (by kernel_rfl) (by kernel_rfl) (by kernel_rfl) (fun _ _ _ h => h) (Or.inl ⟨by kernel_rfl, ?ya10⟩) (by assumption) ?ra10
      case ya10 => (intro w hSw; (try dsimp only at hSw); go_simp; (try with_reducible rfl))
      try simp only [Act.put, List.getElem_toArray, List.getElem_cons_zero, List.getElem_cons_succ, List.setIfInBounds_toArray, List.set_cons_zero, List.set_cons_succ]
      refine wpAnyH_take (i := 11) (v := ?va11) rfl (by kernel_rfl) (by kernel_rfl) (by kernel_rfl) (fun _ _ _ h => h) (Or.inl ⟨by kernel_rfl, ?ya11⟩) (by assumption) ?ra11
      case ya11 => (intro w hSw; (try dsimp only at hSw); have qc := hsb _ hSw; go_simp; (try with_reducible rfl))
      try simp only [Act.put, List.getElem_toArray, List.getElem_cons_zero, List.getElem_cons_succ, List.setIfInBounds_toArray, List.set_cons_zero, List.set_cons_succ]
      refine wpAnyH_ready (rs := [7]) (by kernel_rfl) (by simp) ?_
      refine AllReadyH.cons rfl (fun K hK => ?_) AllReadyH.nil
      go_simp
      refine (K15.out _).mono ?_
      rintro e w3 ⟨A3, c3, rfl, hs3, hb3⟩
      go_wp2_with fail
      replace hb3 : Below w1.heap.size w1 w3 := (Below.refl w1.heap.size w1).drew.trans hb3
      refine hK.out _ _ hb3 (fun _ => ?_)
      clear hK K hHeld
      refine held_mono (S := fun w' => Below w3.heap.size w3 w') (fun w' h => hb3.trans (h.mono hb3.size)) _ _ _ _ ?_
      have hHeld : Below w3.heap.size w3 w3 := Below.refl _ _
      refine wpAnyH_take (i := 8) (v := ?va8) rfl (by kernel_rfl) (by kernel_rfl) (by kernel_rfl) (fun _ _ _ h => h) (Or.inl ⟨by kernel_rfl, ?ya8⟩) (by assumption) ?ra8
      case ya8 => (intro w hSw; (try dsimp only at hSw); have qc := hs3 _ hSw; go_simp; (try with_reducible rfl))
      try simp only [Act.put, List.getElem_toArray, List.getElem_cons_zero, List.getElem_cons_succ, List.setIfInBounds_toArray, List.set_cons_zero, List.set_cons_succ]
      refine wpAnyH_take (i := 12) (v := ?va12) rfl (by kernel_rfl) (by kernel_rfl) (by kernel_rfl) (fun _ _ _ h => h) (Or.inl ⟨by kernel_rfl, ?ya12⟩) (by assumption) ?ra12
      case ya12 => (intro w hSw; (try dsimp only at hSw); go_simp; (try with_reducible rfl))
      try simp only [Act.put, List.getElem_toArray, List.getElem_cons_zero, List.getElem_cons_succ, List.setIfInBounds_toArray, List.set_cons_zero, List.set_cons_succ]
      refine wpAnyH_take (i := 13) (v := ?va13) rfl (by kernel_rfl) (by kernel_rfl) (by kernel_rfl) (fun _ _ _ h => h) (Or.inl ⟨by kernel_rfl, ?ya13⟩) (by assumption) ?ra13
      case ya13 => (intro w hSw; (try dsimp only at hSw); go_simp; (try with_reducible rfl))
      try simp only [Act.put, List.getElem_toArray, List.getElem_cons_zero, List.getElem_cons_succ, List.setIfInBounds_toArray, List.set_cons_zero, List.set_cons_succ]
      refine wpAnyH_take (i := 14) (v := ?va14) rfl (by kernel_rfl) (by kernel_rfl) (by kernel_rfl) (fun _ _ _ h => h) (Or.inl ⟨by kernel_rfl, ?ya14⟩) (by assumption) ?ra14
      case ya14 => (intro w hSw; (try dsimp only at hSw); go_simp; (try with_reducible rfl))
      try simp only [Act.put, List.getElem_toArray, List.getElem_cons_zero, List.getElem_cons_succ, List.setIfInBounds_toArray, List.set_cons_zero, List.set_cons_succ]
      refine wpAnyH_done (by kernel_rfl) ?_ _
      go_wp2
      go_meet
      exact ⟨rfl, hb1.trans (hb3.mono hz1)⟩
    · have h1 : (roomV l.length 0 8 == 0) = false := by simpa using hr
      clear hr
      generalize roomV l.length 0 8 = r at *
      generalize numA l 0 = q1
      generalize numB l 0 = q2
      go_quiet (fail)
      go_wp2
      go_meet
      exact ⟨rfl, below_drewN hb1 _⟩
  case rest =>
    obtain ⟨rfl, hb2⟩ := hcut
    have hz2 := hb2.size
    have HL2 := Lib.hid (HL.out.below hb2)
    clear HL1 hb1
    go_wp2_with fail
    refine (bool_ A l c 0 _ _ hc hcm' (by omega) (by omega) HL2.out HY.out).mono ?_
    rintro e w2 ⟨rfl, rfl⟩
    go_upto_region 6 with fail
    go_cut [7, 5, 6, 56] (fun _ _ _ s wx => s = .bool false ∧ Below w.heap.size w wx)
    case first =>
      by_cases hr : boolE l 0 = 0
      · obtain ⟨g1, g2, g3⟩ := bool_again HY.out hr
        rw [g2, hr]
        have k17 := putBoolS (boolA l 0)
        rw [g1] at k17
        have K17 := Lib.hid k17
        clear k17 g1 g2 hr
        have h8c : (1 : Int) ≤ (c : Int) := by omega
        have h8n : 1 ≤ c := by omega
        generalize boolA l 0 = N at *
        refine wp_region_held_drew (S := fun w' => Below wc.heap.size wc w') (by kernel_rfl) ?_ (fun hHeld => ?_)
        · exact (Below.refl _ _).drew
        have hsb : Str wc A 1 c (strOfNums (l.take 1)) := str_low (by rw [List.length_take]; omega) (HL2.out.pre 1) (Below.refl _ _) hz2
        refine wpAnyH_take (i := 0) (v := ?vb0) rfl (by kernel_rfl) (by kernel_rfl) (by kernel_rfl) (fun _ _ _ h => h) (Or.inl ⟨by kernel_rfl, ?yb0⟩) (by assumption) ?rb0
        case yb0 => (intro w hSw; (try dsimp only at hSw); go_simp; (try with_reducible rfl))
        try simp only [Act.put, List.getElem_toArray, List.getElem_cons_zero, List.getElem_cons_succ, List.setIfInBounds_toArray, List.set_cons_zero, List.set_cons_succ]
        refine wpAnyH_take (i := 1) (v := ?vb1) rfl (by kernel_rfl) (by kernel_rfl) (by kernel_rfl) (fun _ _ _ h => h) (Or.inl ⟨by kernel_rfl, ?yb1⟩) (by assumption) ?rb1
        case yb1 => (intro w hSw; (try dsimp only at hSw); go_simp; (try with_reducible rfl))
        try simp only [Act.put, List.getElem_toArray, List.getElem_cons_zero, List.getElem_cons_succ, List.setIfInBounds_toArray, List.set_cons_zero, List.set_cons_succ]
        refine wpAnyH_take (i := 2) (v := ?vb2) rfl (by kernel_rfl) (by kernel_rfl) (by kernel_rfl) (fun _ _ _ h => h) (Or.inl ⟨by kernel_rfl, ?yb2⟩) (by assumption) ?rb2
        case yb2 => (intro w hSw; (try dsimp only at hSw); go_simp; (try with_reducible rfl))
        try simp only [Act.put, List.getElem_toArray, List.getElem_cons_zero, List.getElem_cons_succ, List.setIfInBounds_toArray, List.set_cons_zero, List.set_cons_succ]
        refine wpAnyH_take (i := 3) (v := ?vb3) rfl (by kernel_rfl) (by kernel_rfl) (by kernel_rfl) (fun _ _ _ h => h) (Or.inl ⟨by kernel_rfl, ?yb3⟩) (by assumption) ?rb3
        case yb3 => (intro w hSw; (try dsimp only at hSw); go_simp; (try with_reducible rfl))
        try simp only [Act.put, List.getElem_toArray, List.getElem_cons_zero, List.getElem_cons_succ, List.setIfInBounds_toArray, List.set_cons_zero, List.set_cons_succ]
        refine wpAnyH_take (i := 4) (v := ?vb4) rfl (by kernel_rfl) (by kernel_rfl) (by kernel_rfl) (fun _ _ _ h => h) (Or.inl ⟨by kernel_rfl, ?yb4⟩) (by assumption) ?rb4
        case yb4 => (intro w hSw; (try dsimp only at hSw); go_simp; (try with_reducible rfl))
        try simp only [Act.put, List.getElem_toArray, List.getElem_cons_zero, List.getElem_cons_succ, List.setIfInBounds_toArray, List.set_cons_zero, List.set_cons_succ]
        refine wpAnyH_take (i := 5) (v := ?vb5) rfl (by kernel_rfl) (by kernel_rfl) (by kernel_rfl) (fun _ _ _ h => h) (Or.inl ⟨by kernel_rfl, ?yb5⟩) (by assumption) ?rb5
        case yb5 => (intro w hSw; (try dsimp only at hSw); go_simp; (try with_reducible rfl))
        try simp only [Act.put, List.getElem_toArray, List.getElem_cons_zero, List.getElem_cons_succ, List.setIfInBounds_toArray, List.set_cons_zero, List.set_cons_succ]
        refine wpAnyH_take (i := 6) (v := ?vb6) rfl (by kernel_rfl) (by kernel_rfl) (by kernel_rfl) (fun _ _ _ h => h) (Or.inl ⟨by kernel_rfl, ?yb6⟩) (by assumption) ?rb6
        case yb6 => (intro w hSw; (try dsimp only at hSw); go_simp; (try with_reducible rfl))
        try simp only [Act.put, List.getElem_toArray, List.getElem_cons_zero, List.getElem_cons_succ, List.setIfInBounds_toArray, List.set_cons_zero, List.set_cons_succ]
        refine wpAnyH_take (i := 9) (v := ?vb9) rfl (by kernel_rfl) (by kernel_rfl) (by kernel_rfl) (fun _ _ _ h => h) (Or.inl ⟨by kernel_rfl, ?yb9⟩) (by assumption) ?rb9
        case yb9 => (intro w hSw; (try dsimp only at hSw); go_simp; (try with_reducible rfl))
        try simp only [Act.put, List.getElem_toArray, List.getElem_cons_zero, List.getElem_cons_succ, List.setIfInBounds_toArray, List.set_cons_zero, List.set_cons_succ]
        refine wpAnyH_take (i := 10) (v := ?vb10) rfl (by kernel_rfl) (by kernel_rfl) (by kernel_rfl) (fun _ _ _ h => h) (Or.inl ⟨by kernel_rfl, ?yb10⟩) (by assumption) ?rb10
        case yb10 => (intro w hSw; (try dsimp only at hSw); go_simp; (try with_reducible rfl))
        try simp only [Act.put, List.getElem_toArray, List.getElem_cons_zero, List.getElem_cons_succ, List.setIfInBounds_toArray, List.set_cons_zero, List.set_cons_succ]
        refine wpAnyH_take (i := 11) (v := ?vb11) rfl (by kernel_rfl) (by kernel_rfl) (by kernel_rfl) (fun _ _ _ h => h) (Or.inl ⟨by kernel_rfl, ?yb11⟩) (by assumption) ?rb11
        case yb11 => (intro w hSw; (try dsimp only at hSw); have qc := hsb _ hSw; go_simp; (try with_reducible rfl))
        try simp only [Act.put, List.getElem_toArray, List.getElem_cons_zero, List.getElem_cons_succ, List.setIfInBounds_toArray, List.set_cons_zero, List.set_cons_succ]
        refine wpAnyH_ready (rs := [7]) (by kernel_rfl) (by simp) ?_
        refine AllReadyH.cons rfl (fun K hK => ?_) AllReadyH.nil
        go_simp
        refine (K17.out _).mono ?_
        rintro e w4 ⟨A4, c4, rfl, hs4, hb4⟩
        go_wp2_with fail
        replace hb4 : Below wc.heap.size wc w4 := (Below.refl wc.heap.size wc).drew.trans hb4
        refine hK.out _ _ hb4 (fun _ => ?_)
        clear hK K hHeld
        refine held_mono (S := fun w' => Below w4.heap.size w4 w') (fun w' h => hb4.trans (h.mono hb4.size)) _ _ _ _ ?_
        have hHeld : Below w4.heap.size w4 w4 := Below.refl _ _
        refine wpAnyH_take (i := 8) (v := ?vb8) rfl (by kernel_rfl) (by kernel_rfl) (by kernel_rfl) (fun _ _ _ h => h) (Or.inl ⟨by kernel_rfl, ?yb8⟩) (by assumption) ?rb8
        case yb8 => (intro w hSw; (try dsimp only at hSw); have qc := hs4 _ hSw; go_simp; (try with_reducible rfl))
        try simp only [Act.put, List.getElem_toArray, List.getElem_cons_zero, List.getElem_cons_succ, List.setIfInBounds_toArray, List.set_cons_zero, List.set_cons_succ]
        refine wpAnyH_take (i := 12) (v := ?vb12) rfl (by kernel_rfl) (by kernel_rfl) (by kernel_rfl) (fun _ _ _ h => h) (Or.inl ⟨by kernel_rfl, ?yb12⟩) (by assumption) ?rb12
        case yb12 => (intro w hSw; (try dsimp only at hSw); go_simp; (try with_reducible rfl))
        try simp only [Act.put, List.getElem_toArray, List.getElem_cons_zero, List.getElem_cons_succ, List.setIfInBounds_toArray, List.set_cons_zero, List.set_cons_succ]
        refine wpAnyH_take (i := 13) (v := ?vb13) rfl (by kernel_rfl) (by kernel_rfl) (by kernel_rfl) (fun _ _ _ h => h) (Or.inl ⟨by kernel_rfl, ?yb13⟩) (by assumption) ?rb13
        case yb13 => (intro w hSw; (try dsimp only at hSw); go_simp; (try with_reducible rfl))
        try simp only [Act.put, List.getElem_toArray, List.getElem_cons_zero, List.getElem_cons_succ, List.setIfInBounds_toArray, List.set_cons_zero, List.set_cons_succ]
        refine wpAnyH_take (i := 14) (v := ?vb14) rfl (by kernel_rfl) (by kernel_rfl) (by kernel_rfl) (fun _ _ _ h => h) (Or.inl ⟨by kernel_rfl, ?yb14⟩) (by assumption) ?rb14
        case yb14 => (intro w hSw; (try dsimp only at hSw); go_simp; (try with_reducible rfl))
        try simp only [Act.put, List.getElem_toArray, List.getElem_cons_zero, List.getElem_cons_succ, List.setIfInBounds_toArray, List.set_cons_zero, List.set_cons_succ]
        refine wpAnyH_done (by kernel_rfl) ?_ _
        go_wp2
        go_meet
        exact ⟨rfl, hb2.trans (hb4.mono hz2)⟩
      · have h1 : (boolE l 0 == 0) = false := by simpa using hr
        clear hr
        generalize boolE l 0 = r at *
        generalize boolA l 0 = q1
        generalize boolB l 0 = q2
        go_quiet (fail)
        go_wp2
        go_meet
        exact ⟨rfl, below_drewN hb2 _⟩
    case rest =>
      obtain ⟨rfl, hb3⟩ := hcut
      have hz3 := hb3.size
      have HL3 := Lib.hid ((HL.out.below hb3).more hz3)
      clear HL2 hb2 hz2
      go_wp2_with fail
      refine (bytes_any A l c 0 _ hc hcm' (by omega) (by omega) HL3.out HY.out).mono ?_
      rintro e w4 ⟨A4, m, c4, T, E, rfl, g1, g2, g3, hb4⟩
      have HG3 := Lib.hid g3
      have hb5 := hb3.trans (hb4.mono hz3)
      clear g3 hb4 HL3 hb3 hz3
      go_upto_if 64 with fail
      go_cut [9, 10] (fun _ _ wx => Below w.heap.size w wx)
      case first =>
        by_cases hE : E = 0
        · obtain ⟨k1, k2, k3, k4⟩ := HG3.out hE
          have k5 := bytesE_0 k1
          have k6 := bytesA_length k1
          have hagain := bytes_again (p := 0) HY.out k1
          rw [List.drop_zero] at hagain
          have hagain' : be (bytesA l 0).length 3 4 ++ bytesA l 0 = l.take (4 + m) := by rw [k6, k3]; exact hagain
          have hm : m ≤ 65536 := by omega
          have hT : T = 4 + (m : Int) := by rw [k2, k3]; unfold bytesB; omega
          have hml : 4 + m ≤ l.length := by omega
          subst hE
          have K19 := Lib.hid (putBytes_n A4 c4 m (bytesA l 0) w4 (by rw [k6, k3]) k4 hm)
          have hEQ : be m 3 4 ++ bytesA l 0 = l.take (4 + m) := by rw [k3]; exact hagain
          have HEQ := Lib.hid hEQ
          subst hT
          clear k1 k2 k3 k4 k5 k6 hagain hagain' HG3 hEQ
          go_wp2_with fail
          refine K19.out.mono ?_
          rintro e w5 ⟨A6, c6, rfl, q1, q2, q3, hb6⟩
          rw [HEQ.out] at q3
          have hb7 := hb5.trans (hb6.mono hb5.size)
          have hlen : (l.take (4 + m)).length = 4 + m := by rw [List.length_take]; omega
          have d1 := fun nq => run_string_lies (P := Try.prog) (w5.drewN nq) 22 9 5 Try.underlying22 Try.underlying5 Try.underlying9 w5.heap.size A6 (4 + m) c6 (l.take (4 + m)) hlen (q3.below (below_drewN (Below.refl _ _) nq))
          have d2 := fun nq => run_string_lies (P := Try.prog) (w5.drewN nq) 22 9 5 Try.underlying22 Try.underlying5 Try.underlying9 w.heap.size A (4 + m) c (l.take (4 + m)) hlen ((HL.out.below (below_drewN hb7 nq)).pre _)
          generalize strOfNums (l.take (4 + m)) = S at *
          clear q3 hb6 hlen K19
          have e1 : (4 + (m : Int)) ≤ (l.length : Int) := by omega
          have e2 : (4 + (m : Int)) ≤ (c : Int) := by omega
          have e3 : decide ((l.length : Int) < 4 + (m : Int)) = false := by simp; omega
          have e4 : (4 + (m : Int)).toNat = 4 + m := by omega
          have e5 : 4 + m ≤ c := by omega
          go_upto_region 11 with fail
          go_quiet (fail)
          go_wp2
          go_meet
          exact below_drewN hb7 _
        · have hEb : (E == 0) = false := by simpa using hE
          clear hE
          go_wp2
          go_meet
          exact hb5
      case rest =>
        have hb6 : Below w.heap.size w wc := hcut
        have hz6 := hb6.size
        have HL6 := Lib.hid ((HL.out.below hb6).more hz6)
        clear hb5 HG3
        go_wp2_with fail
        by_cases hE : rowE l 0 = 0
        · obtain ⟨o, ho1, ho2, ho3⟩ := row_again HY.out hE
          obtain ⟨hn, hgood⟩ := row_again_good hE
          have hil := items_length l ((0 : Int) + 4) (cnt l 0)
          have K25 := Lib.hid (row_ok A l c 0 _ hc hcm' (by omega) (by omega) HL6.out HY.out hE)
          have HIL := Lib.hid hil
          have HGO := Lib.hid hgood
          have HO1 := Lib.hid ho1
          have HO3 := Lib.hid ho3
          clear hil hgood ho1 ho3 hE
          refine K25.out.mono ?_
          rintro e w6 ⟨A7, c7, rfl, q1, q2, q3, hb7⟩
          rw [HO1.out]
          have hb8 := hb6.trans (hb7.mono hz6)
          have K21 := Lib.hid (putRow_n A7 c7 (cnt l 0) (items l ((0 : Int) + 4) (cnt l 0)) w6 HIL.out q3 hn HGO.out)
          clear q3 hb7 K25
          generalize items l ((0 : Int) + 4) (cnt l 0) = ls at *
          generalize cnt l 0 = n at *
          go_wp2_with fail
          refine K21.out.mono ?_
          rintro e w7 ⟨A8, c8, rfl, r1, r2, r3, hb9⟩
          rw [HO3.out] at r1 r3 ⊢
          have hlen : (l.take o).length = o := by rw [List.length_take]; omega
          rw [hlen] at r1 ⊢
          have hb10 := hb8.trans (hb9.mono hb8.size)
          have d1 := fun nq => run_string_lies (P := Try.prog) (w7.drewN nq) 22 9 5 Try.underlying22 Try.underlying5 Try.underlying9 w7.heap.size A8 o c8 (l.take o) hlen (r3.below (below_drewN (Below.refl _ _) nq))
          have d2 := fun nq => run_string_lies (P := Try.prog) (w7.drewN nq) 22 9 5 Try.underlying22 Try.underlying5 Try.underlying9 w.heap.size A o c (l.take o) hlen ((HL.out.below (below_drewN hb10 nq)).pre _)
          generalize strOfNums (l.take o) = S at *
          clear r3 hb9 hlen K21
          have e1 : (o : Int) ≤ (l.length : Int) := by omega
          have e2 : (o : Int) ≤ (c : Int) := by omega
          have e3 : decide ((o : Int) ≤ (l.length : Int)) = true := by simp; omega
          have e5 : o ≤ c := by omega
          go_upto_region 17 with fail
          go_quiet (fail)
          go_wp2
          go_ret
          exact ⟨rfl, below_drewN hb10 _⟩
        · have K25 := Lib.hid (row_err A l c 0 _ hc hcm' (by omega) (by omega) HL6.out HY.out hE)
          have h1 : (rowE l 0 != 0) = true := by simpa using hE
          clear hE
          generalize rowE l 0 = r at *
          refine K25.out.mono ?_
          rintro e w6 ⟨rfl, hb7⟩
          have hb8 := hb6.trans (hb7.mono hz6)
          clear hb7 K25
          go_wp2
          go_ret
          exact ⟨rfl, hb8⟩
end Go.Proofs.Ytjkdlchfmgefjaa
