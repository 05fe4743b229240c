/- What 'elements' reads: a number, and so many types, instructions, codes. Conditions: the place lies where it says, and the element's reader reads. -/
import Derived.Test.YtecjkmemihmkcaaDoorZi
namespace Go.Proofs.YtecjkmemihmkcaaDoor
set_option maxRecDepth 100000
open Go.RowKit
set_option linter.unusedSimpArgs false
set_option linter.unusedVariables false

theorem info43c : (Tryd.prog.info? 43).map (fun i => (i.zero, i.size, i.bytes)) = some (some (.int .i64 0), 1, 8) := by kernel_rfl
theorem info46c : (Tryd.prog.info? 46).map (fun i => (i.zero, i.size, i.bytes)) = some (some (.agg #[.string ⟨#[]⟩, .slice none 0 0, .int .i64 0, .int .i64 0, .slice none 0 0]), 5, 80) := by kernel_rfl

set_option maxHeartbeats 1600000 in
theorem elemsType (R : Nat) (S : Sc) (most : Int) (F : Value) (f : Int → Rd Int) (hf : ∀ {p q : Int} {a : Int}, f p = .ok a q → 0 ≤ p ∧ p ≤ q ∧ q ≤ S.l.length) (hmost : most ≤ 16384) (σ : Rd Unit) (w : World) (hF : Part R S F f (fun _ n v => v = .int .i64 n) (fun _ v => ∃ n, v = .int .i64 n) w) (h : PlS w R 57 S σ) :
    Calls Tryd.prog 59 #[.pointer (some ⟨R, 0, none⟩), .int .i64 most, F] w (Got R 57 S w (σ.bind fun _ p => rowOf S.l most f p) (fun w' l v => RowT w' 43 l.length (tysV l) v) (fun _ v => ∃ A n c, v = .slice A n c)) := by
  obtain ⟨i0, hi, hz0, hz1, hz2⟩ := info_parts info43c
  have hlt := h.lt
  obtain ⟨fn, caps, rfl, he, h3⟩ := hF
  have he' : ∀ (args : Array Value) (w : World), (callFunc fn args).run Tryd.prog w = .ok (.enter fn args) w := he
  have HF := Lib.hid h3
  have H0 := Lib.hid h
  have HFI : Hid (∀ p q a, f p = .ok a q → 0 ≤ p ∧ p ≤ q ∧ q ≤ S.l.length) := fun p q a h => hf h
  have HMD : Hid ((σ.bind fun _ p => rowOf S.l most f p) = (σ.bind fun _ p => numR S.l p).bind fun n q => if n < 0 ∨ most < n then .bad 111 else elemsR f q n.toNat) := Lib.hid (by
    rw [Rd.bind_bind]
    congr 1
    funext _ p
    unfold rowOf manyR
    rw [Rd.bind_bind]
    congr 1
    funext n q
    split <;> rfl)
  clear h3 h hf he
  generalize (σ.bind fun _ p => rowOf S.l most f p) = r at *
  go_enter Tryd.func59, Tryd.ntmps59
  go_wp2_with fail
  refine (makeNum R S w hlt).mono ?_
  rintro e w1 ⟨Fn, rfl, hb1, hPn⟩
  obtain ⟨fm, capm, rfl, hem, hm3⟩ := hPn
  have hem' : ∀ (args : Array Value) (w : World), (callFunc fm args).run Tryd.prog w = .ok (.enter fm args) w := hem
  have M1 := Lib.hid (Moves.of_below (R := R) hb1 (Nat.le_refl _))
  have K := Lib.hid (hm3 w1 σ (Moves.refl _ _) (H0.out.low hb1 hlt))
  clear hm3 hem hb1
  go_wp2_with fail
  refine K.out.mono ?_
  clear K
  rintro e w2 ⟨v, rfl, hm2, hp2, ⟨n, rfl⟩, hv2⟩
  have M2 := Lib.hid (M1.out.trans hm2)
  have HV2 := Lib.hid hv2
  clear hm2 hv2 M1 hem'
  generalize (σ.bind fun _ p => numR S.l p) = r1 at *
  obtain ⟨p, e, ha, hs⟩ := hp2
  obtain ⟨c0, c1, c2, c3⟩ := ha.cell
  have A2 := Lib.hid ha
  clear ha
  rcases hs with ⟨hst, rfl, p0, pl⟩ | ⟨hst, hne⟩
  · obtain ⟨n', hr1⟩ : ∃ n', r1 = .ok n' p := by
      cases r1 with
      | ok a q => injection hst with _ e2; exact ⟨a, by rw [e2]⟩
      | bad e => cases hst
    have hn := HV2.out _ _ hr1
    injection hn with _ hn
    subst hn
    have HR : Hid (r = if n < 0 ∨ most < n then .bad 111 else elemsR f p n.toNat) := Lib.hid (by rw [HMD.out, hr1]; rfl)
    clear hr1 hst HV2 HMD
    by_cases hnb : n < 0 ∨ most < n
    · have HR2 : Hid (r = .bad 111) := Lib.hid (by rw [HR.out, if_pos hnb])
      have hf2 := c3 2
      have AS := Lib.hid (A2.out.set2 111)
      have cs2 := AS.out.1.cell.2.2.1
      clear HR c3
      by_cases hn0 : n < 0
      · go_wp2
        go_loopw [8, 9] (fun l i wr => l = .slice none 0 0 ∧ i = .int .i64 0 ∧ wr = w2.setCell ⟨R, 2, none⟩ (.int .i64 111)) (fun _ _ _ => 0)
        case atStart => exact ⟨rfl, rfl, rfl⟩
        case round =>
          obtain ⟨rfl, rfl, rfl⟩ := hrel
          go_wp2
          all_goals go_ret
          all_goals exact ⟨_, rfl, M2.out.trans AS.out.2, ⟨_, _, AS.out.1, by rw [HR2.out]; exact .inr ⟨rfl, by decide⟩⟩, ⟨_, _, _, rfl⟩, fun a q h => by rw [HR2.out] at h; cases h⟩
      · have hn1 : most < n := by omega
        go_wp2
        go_loopw [8, 9] (fun l i wr => l = .slice none 0 0 ∧ i = .int .i64 0 ∧ wr = w2.setCell ⟨R, 2, none⟩ (.int .i64 111)) (fun _ _ _ => 0)
        case atStart => exact ⟨rfl, rfl, rfl⟩
        case round =>
          obtain ⟨rfl, rfl, rfl⟩ := hrel
          go_wp2
          all_goals go_ret
          all_goals exact ⟨_, rfl, M2.out.trans AS.out.2, ⟨_, _, AS.out.1, by rw [HR2.out]; exact .inr ⟨rfl, by decide⟩⟩, ⟨_, _, _, rfl⟩, fun a q h => by rw [HR2.out] at h; cases h⟩
    · have hn0 : 0 ≤ n := by omega
      have hnm : n ≤ most := by omega
      have HR2 : Hid (r = elemsR f p n.toNat) := Lib.hid (by rw [HR.out, if_neg hnb])
      obtain ⟨N, rfl⟩ := Int.eq_ofNat_of_zero_le hn0
      have HR3 : Hid (r = elemsR f p N) := Lib.hid (by rw [HR2.out, Int.toNat_natCast])
      have hnl : ¬ ((N : Int) < 0) := by omega
      have hng : ¬ (most < (N : Int)) := by omega
      clear HR HR2 hnb c3 hn0
      have hsz2 := M2.out.size
      go_wp2
      go_loopw [8, 9] (fun l i wr => ∃ (k m : Nat) (xs : List Value), k ≤ N ∧ i = .int .i64 k ∧ m ≤ k ∧ Hid (wr.ownsRow w.heap.size 43 1 l m xs) ∧ Hid (Moves R w wr ∧ PlS wr R 57 S (elemsR f p k).st ∧ ∀ t q, elemsR f p k = .ok t q → m = t.length ∧ xs = tysV t)) (fun _ i _ => N - (intOf i).toNat)
      case atStart =>
        exact ⟨0, 0, [], Nat.zero_le _, rfl, Nat.le_refl _, World.ownsRow_nil _ _ _ _, M2.out, ⟨_, _, A2.out, .inl ⟨rfl, rfl, p0, pl⟩⟩, fun t q h => by
          injection h with h1 h2
          subst h1
          exact ⟨rfl, rfl⟩⟩
      case round =>
        clear c0 c1 c2 A2
        obtain ⟨k, m, xs, hk, rfl, hmk, HO, HI⟩ := hrel
        have hsz := HI.out.1.size
        obtain ⟨pk, ek, hak, hsk⟩ := HI.out.2.1
        obtain ⟨c0, c1, c2, _⟩ := hak.cell
        rcases hsk with ⟨hst, rfl, q0, ql⟩ | ⟨hst, hne⟩
        · obtain ⟨t, ht⟩ : ∃ t, elemsR f p k = .ok t pk := by
            cases hx : elemsR f p k with
            | ok a q => rw [hx] at hst; injection hst with _ e2; exact ⟨a, by rw [e2]⟩
            | bad e => rw [hx] at hst; cases hst
          have HT := Lib.hid ht
          by_cases hkn : k < N
          · have K := Lib.hid (HF.out wr (.ok () pk) HI.out.1 ⟨pk, 0, hak, .inl ⟨rfl, rfl, q0, ql⟩⟩)
            obtain ⟨hml, hrel⟩ := HI.out.2.2 t pk ht
            have HL := Lib.hid hrel
            have HNX : Hid (elemsR f p (k + 1) = (f pk).bind fun a r => .ok (t ++ [a]) r) := Lib.hid (by show (elemsR f p k).bind _ = _; rw [ht]; rfl)
            clear ht hst hrel
            go_wp2_with fail
            refine K.out.mono ?_
            clear K
            rintro e w3 ⟨v, rfl, hm3, hp3, ⟨x, rfl⟩, hv3⟩
            have M3 := Lib.hid (HI.out.1.trans hm3)
            have O3 := Lib.hid (own_moves HO.out hm3 hlt)
            have P3 := Lib.hid hp3
            have V3 := Lib.hid hv3
            have KM := Lib.hid hm3
            have AK := Lib.hid hak
            have hs3 := hm3.size
            have bt := (Below.refl w3.heap.size w3).alloc (Nat.le_refl _) (.cells [.int .i64 x].toArray 43)
            have HA : Hid (Lies (w3.alloc (.cells [.int .i64 x].toArray 43)) (w3.heap.size + 1) (some ⟨w3.heap.size, 0, none⟩) 1 [.int .i64 x]) := Lib.hid ⟨(fun e => by cases e), fun j u hu => ⟨_, rfl, by simp, by rw [Addr.add_mid]; exact range_of (cs := [.int .i64 x]) (heap_alloc_new w3 _) j u hu⟩⟩
            have O4 := Lib.hid (own_below O3.out bt (Nat.le_refl _))
            have B4 := Lib.hid bt
            clear hm3 hp3 hv3 hak bt
            go_wp2_with (at_builtin; refine wpList_append_gro _ rfl (.tmp 42) (.tmp 45) 42 rfl w.heap.size 43 i0 _ 1 8 Tryd.underlying42 hi hz0 hz1 hz2 rfl (by omega) _ m xs rfl O4.out (w3.heap.size + 1) (some ⟨w3.heap.size, 0, none⟩) 1 1 [.int .i64 x] rfl rfl HA.out (by simp [Value.oneCell']) (by unfold maxLen; omega) (by omega) (by simp; omega) ?_; intro v5 w5 ho5 hg5)
            have O5 := Lib.hid ho5
            have M5 : Hid (Moves R w w5) := Lib.hid ((M3.out.low B4.out (by omega)).grown hg5.1 (fun g hg => (O4.out.lt g hg).1))
            have P5 : Hid (PlS w5 R 57 S (f pk).st) := Lib.hid ((P3.out.low B4.out P3.out.lt).low (hg5.below O4.out (by simp; omega)) hlt)
            have HG := Lib.hid hg5
            have HE : Hid ((elemsR f p (k + 1)).st = (f pk).st ∧ ∀ u q, elemsR f p (k + 1) = .ok u q → m + 1 = u.length ∧ (xs ++ [.int .i64 x]) = tysV u) := by
              rw [HNX.out]
              cases hfp : f pk with
              | bad e => exact ⟨rfl, fun u q h => by cases h⟩
              | ok a q =>
                refine ⟨rfl, fun u q' hu => ?_⟩
                injection hu with hu1 hu2
                subst hu1
                have hva := V3.out a q hfp
                refine ⟨by rw [List.length_append, hml]; rfl, ?_⟩
                injection hva with _ hva
                subst hva
                rw [tysV_snoc, HL.out]
            have HEI : Hid (PlS w5 R 57 S (elemsR f p (k + 1)).st) := Lib.hid (by rw [HE.out.1]; exact P5.out)
            clear ho5 hg5 c0 c1 c2
            go_wp2
            go_roundw
            case rel => exact ⟨k + 1, m + 1, _, by omega, by go_num, by omega, O5.out, M5.out, HEI.out, HE.out.2⟩
            case measure => simp [intOf]; omega
          · obtain rfl : k = N := by omega
            have HRW := RowT.own HO.out
            obtain ⟨hml, hrel⟩ := HI.out.2.2 t pk ht
            obtain ⟨A, cc, rfl⟩ := HRW.is
            have HQ := Lib.hid HRW
            have HL := Lib.hid hrel
            clear ht hst HRW hrel
            go_wp2
            go_ret
            refine ⟨_, rfl, HI.out.1, by rw [HR3.out]; exact HI.out.2.1, ⟨_, _, _, rfl⟩, fun a q h => ?_⟩
            rw [HR3.out, HT.out] at h
            injection h with h1 h2
            subst h1 hml
            exact (by rw [← HL.out]; exact HQ.out)
        · have hbad : elemsR f p k = .bad ek := by
            cases hx : elemsR f p k with
            | ok a q => rw [hx] at hst; cases hst
            | bad e => rw [hx] at hst; injection hst with e2; rw [e2]
          have HBD : Hid (r = .bad ek) := Lib.hid (by rw [HR3.out, show N = k + (N - k) by omega]; exact elemsR_bad hbad _)
          have hne2 : (ek == 0) = false := by simpa using hne
          have HRW := RowT.own HO.out
          obtain ⟨A, cc, rfl⟩ := HRW.is
          have HST : Hid (r.st = (elemsR f p k).st) := Lib.hid (by rw [HBD.out, hbad])
          clear hbad hst HRW hak
          go_wp2
          all_goals go_ret
          all_goals exact ⟨_, rfl, HI.out.1, by rw [HST.out]; exact HI.out.2.1, ⟨_, _, _, rfl⟩, fun a q h => by rw [HBD.out] at h; cases h⟩
  · have hr1 : r1 = .bad e := by
      cases r1 with
      | ok a q => cases hst
      | bad e' => injection hst with e2; rw [e2]
    have HR2 : Hid (r = .bad e) := Lib.hid (by rw [HMD.out, hr1]; rfl)
    have hne2 : (e == 0) = false := by simpa using hne
    clear hr1 hst HV2 HMD c3
    go_wp2
    go_loopw [8, 9] (fun l i wr => l = .slice none 0 0 ∧ i = .int .i64 0 ∧ wr = w2) (fun _ _ _ => 0)
    case atStart => exact ⟨rfl, rfl, rfl⟩
    case round =>
      obtain ⟨rfl, rfl, rfl⟩ := hrel
      go_wp2
      all_goals go_ret
      all_goals exact ⟨_, rfl, M2.out, ⟨_, _, A2.out, by rw [HR2.out]; exact .inr ⟨rfl, hne⟩⟩, ⟨_, _, _, rfl⟩, fun a q h => by rw [HR2.out] at h; cases h⟩

set_option maxHeartbeats 1600000 in
theorem elemsInstr (R : Nat) (S : Sc) (most : Int) (F : Value) (f : Int → Rd (Int × Int)) (hf : ∀ {p q : Int} {a : (Int × Int)}, f p = .ok a q → 0 ≤ p ∧ p ≤ q ∧ q ≤ S.l.length) (hmost : most ≤ 16384) (σ : Rd Unit) (w : World) (hF : Part R S F f (fun _ i v => v = .agg #[.int .i64 i.1, .int .i64 i.2]) (fun _ v => ∃ o a, v = .agg #[.int .i64 o, .int .i64 a]) w) (h : PlS w R 57 S σ) :
    Calls Tryd.prog 61 #[.pointer (some ⟨R, 0, none⟩), .int .i64 most, F] w (Got R 57 S w (σ.bind fun _ p => rowOf S.l most f p) (fun w' l v => RowT w' 50 l.length (insV l) v) (fun _ v => ∃ A n c, v = .slice A n c)) := by
  obtain ⟨i0, hi, hz0, hz1, hz2⟩ := info_parts info50c
  have hlt := h.lt
  obtain ⟨fn, caps, rfl, he, h3⟩ := hF
  have he' : ∀ (args : Array Value) (w : World), (callFunc fn args).run Tryd.prog w = .ok (.enter fn args) w := he
  have HF := Lib.hid h3
  have H0 := Lib.hid h
  have HFI : Hid (∀ p q a, f p = .ok a q → 0 ≤ p ∧ p ≤ q ∧ q ≤ S.l.length) := fun p q a h => hf h
  have HMD : Hid ((σ.bind fun _ p => rowOf S.l most f p) = (σ.bind fun _ p => numR S.l p).bind fun n q => if n < 0 ∨ most < n then .bad 111 else elemsR f q n.toNat) := Lib.hid (by
    rw [Rd.bind_bind]
    congr 1
    funext _ p
    unfold rowOf manyR
    rw [Rd.bind_bind]
    congr 1
    funext n q
    split <;> rfl)
  clear h3 h hf he
  generalize (σ.bind fun _ p => rowOf S.l most f p) = r at *
  go_enter Tryd.func61, Tryd.ntmps61
  go_wp2_with fail
  refine (makeNum R S w hlt).mono ?_
  rintro e w1 ⟨Fn, rfl, hb1, hPn⟩
  obtain ⟨fm, capm, rfl, hem, hm3⟩ := hPn
  have hem' : ∀ (args : Array Value) (w : World), (callFunc fm args).run Tryd.prog w = .ok (.enter fm args) w := hem
  have M1 := Lib.hid (Moves.of_below (R := R) hb1 (Nat.le_refl _))
  have K := Lib.hid (hm3 w1 σ (Moves.refl _ _) (H0.out.low hb1 hlt))
  clear hm3 hem hb1
  go_wp2_with fail
  refine K.out.mono ?_
  clear K
  rintro e w2 ⟨v, rfl, hm2, hp2, ⟨n, rfl⟩, hv2⟩
  have M2 := Lib.hid (M1.out.trans hm2)
  have HV2 := Lib.hid hv2
  clear hm2 hv2 M1 hem'
  generalize (σ.bind fun _ p => numR S.l p) = r1 at *
  obtain ⟨p, e, ha, hs⟩ := hp2
  obtain ⟨c0, c1, c2, c3⟩ := ha.cell
  have A2 := Lib.hid ha
  clear ha
  rcases hs with ⟨hst, rfl, p0, pl⟩ | ⟨hst, hne⟩
  · obtain ⟨n', hr1⟩ : ∃ n', r1 = .ok n' p := by
      cases r1 with
      | ok a q => injection hst with _ e2; exact ⟨a, by rw [e2]⟩
      | bad e => cases hst
    have hn := HV2.out _ _ hr1
    injection hn with _ hn
    subst hn
    have HR : Hid (r = if n < 0 ∨ most < n then .bad 111 else elemsR f p n.toNat) := Lib.hid (by rw [HMD.out, hr1]; rfl)
    clear hr1 hst HV2 HMD
    by_cases hnb : n < 0 ∨ most < n
    · have HR2 : Hid (r = .bad 111) := Lib.hid (by rw [HR.out, if_pos hnb])
      have hf2 := c3 2
      have AS := Lib.hid (A2.out.set2 111)
      have cs2 := AS.out.1.cell.2.2.1
      clear HR c3
      by_cases hn0 : n < 0
      · go_wp2
        go_loopw [8, 9] (fun l i wr => l = .slice none 0 0 ∧ i = .int .i64 0 ∧ wr = w2.setCell ⟨R, 2, none⟩ (.int .i64 111)) (fun _ _ _ => 0)
        case atStart => exact ⟨rfl, rfl, rfl⟩
        case round =>
          obtain ⟨rfl, rfl, rfl⟩ := hrel
          go_wp2
          all_goals go_ret
          all_goals exact ⟨_, rfl, M2.out.trans AS.out.2, ⟨_, _, AS.out.1, by rw [HR2.out]; exact .inr ⟨rfl, by decide⟩⟩, ⟨_, _, _, rfl⟩, fun a q h => by rw [HR2.out] at h; cases h⟩
      · have hn1 : most < n := by omega
        go_wp2
        go_loopw [8, 9] (fun l i wr => l = .slice none 0 0 ∧ i = .int .i64 0 ∧ wr = w2.setCell ⟨R, 2, none⟩ (.int .i64 111)) (fun _ _ _ => 0)
        case atStart => exact ⟨rfl, rfl, rfl⟩
        case round =>
          obtain ⟨rfl, rfl, rfl⟩ := hrel
          go_wp2
          all_goals go_ret
          all_goals exact ⟨_, rfl, M2.out.trans AS.out.2, ⟨_, _, AS.out.1, by rw [HR2.out]; exact .inr ⟨rfl, by decide⟩⟩, ⟨_, _, _, rfl⟩, fun a q h => by rw [HR2.out] at h; cases h⟩
    · have hn0 : 0 ≤ n := by omega
      have hnm : n ≤ most := by omega
      have HR2 : Hid (r = elemsR f p n.toNat) := Lib.hid (by rw [HR.out, if_neg hnb])
      obtain ⟨N, rfl⟩ := Int.eq_ofNat_of_zero_le hn0
      have HR3 : Hid (r = elemsR f p N) := Lib.hid (by rw [HR2.out, Int.toNat_natCast])
      have hnl : ¬ ((N : Int) < 0) := by omega
      have hng : ¬ (most < (N : Int)) := by omega
      clear HR HR2 hnb c3 hn0
      have hsz2 := M2.out.size
      go_wp2
      go_loopw [8, 9] (fun l i wr => ∃ (k m : Nat) (xs : List Value), k ≤ N ∧ i = .int .i64 k ∧ m ≤ k ∧ Hid (wr.ownsRow w.heap.size 50 2 l m xs) ∧ Hid (Moves R w wr ∧ PlS wr R 57 S (elemsR f p k).st ∧ ∀ t q, elemsR f p k = .ok t q → m = t.length ∧ xs = insV t)) (fun _ i _ => N - (intOf i).toNat)
      case atStart =>
        exact ⟨0, 0, [], Nat.zero_le _, rfl, Nat.le_refl _, World.ownsRow_nil _ _ _ _, M2.out, ⟨_, _, A2.out, .inl ⟨rfl, rfl, p0, pl⟩⟩, fun t q h => by
          injection h with h1 h2
          subst h1
          exact ⟨rfl, rfl⟩⟩
      case round =>
        clear c0 c1 c2 A2
        obtain ⟨k, m, xs, hk, rfl, hmk, HO, HI⟩ := hrel
        have hsz := HI.out.1.size
        obtain ⟨pk, ek, hak, hsk⟩ := HI.out.2.1
        obtain ⟨c0, c1, c2, _⟩ := hak.cell
        rcases hsk with ⟨hst, rfl, q0, ql⟩ | ⟨hst, hne⟩
        · obtain ⟨t, ht⟩ : ∃ t, elemsR f p k = .ok t pk := by
            cases hx : elemsR f p k with
            | ok a q => rw [hx] at hst; injection hst with _ e2; exact ⟨a, by rw [e2]⟩
            | bad e => rw [hx] at hst; cases hst
          have HT := Lib.hid ht
          by_cases hkn : k < N
          · have K := Lib.hid (HF.out wr (.ok () pk) HI.out.1 ⟨pk, 0, hak, .inl ⟨rfl, rfl, q0, ql⟩⟩)
            obtain ⟨hml, hrel⟩ := HI.out.2.2 t pk ht
            have HL := Lib.hid hrel
            have HNX : Hid (elemsR f p (k + 1) = (f pk).bind fun a r => .ok (t ++ [a]) r) := Lib.hid (by show (elemsR f p k).bind _ = _; rw [ht]; rfl)
            clear ht hst hrel
            go_wp2_with fail
            refine K.out.mono ?_
            clear K
            rintro e w3 ⟨v, rfl, hm3, hp3, ⟨x, y, rfl⟩, hv3⟩
            have M3 := Lib.hid (HI.out.1.trans hm3)
            have O3 := Lib.hid (own_moves HO.out hm3 hlt)
            have P3 := Lib.hid hp3
            have V3 := Lib.hid hv3
            have KM := Lib.hid hm3
            have AK := Lib.hid hak
            have hs3 := hm3.size
            have bt := (Below.refl w3.heap.size w3).alloc (Nat.le_refl _) (.cells [.int .i64 x, .int .i64 y].toArray 50)
            have HA : Hid (Lies (w3.alloc (.cells [.int .i64 x, .int .i64 y].toArray 50)) (w3.heap.size + 1) (some ⟨w3.heap.size, 0, none⟩) 1 [.int .i64 x, .int .i64 y]) := Lib.hid ⟨(fun e => by cases e), fun j u hu => ⟨_, rfl, by simp, by rw [Addr.add_mid]; exact range_of (cs := [.int .i64 x, .int .i64 y]) (heap_alloc_new w3 _) j u hu⟩⟩
            have O4 := Lib.hid (own_below O3.out bt (Nat.le_refl _))
            have B4 := Lib.hid bt
            clear hm3 hp3 hv3 hak bt
            go_wp2_with (at_builtin; refine wpList_append_gro _ rfl (.tmp 42) (.tmp 45) 44 rfl w.heap.size 50 i0 _ 2 16 Tryd.underlying44 hi hz0 hz1 hz2 rfl (by omega) _ m xs rfl O4.out (w3.heap.size + 1) (some ⟨w3.heap.size, 0, none⟩) 1 1 [.int .i64 x, .int .i64 y] rfl rfl HA.out (by simp [Value.oneCell']) (by unfold maxLen; omega) (by omega) (by simp; omega) ?_; intro v5 w5 ho5 hg5)
            have O5 := Lib.hid ho5
            have M5 : Hid (Moves R w w5) := Lib.hid ((M3.out.low B4.out (by omega)).grown hg5.1 (fun g hg => (O4.out.lt g hg).1))
            have P5 : Hid (PlS w5 R 57 S (f pk).st) := Lib.hid ((P3.out.low B4.out P3.out.lt).low (hg5.below O4.out (by simp; omega)) hlt)
            have HG := Lib.hid hg5
            have HE : Hid ((elemsR f p (k + 1)).st = (f pk).st ∧ ∀ u q, elemsR f p (k + 1) = .ok u q → m + 1 = u.length ∧ (xs ++ [.int .i64 x, .int .i64 y]) = insV u) := by
              rw [HNX.out]
              cases hfp : f pk with
              | bad e => exact ⟨rfl, fun u q h => by cases h⟩
              | ok a q =>
                refine ⟨rfl, fun u q' hu => ?_⟩
                injection hu with hu1 hu2
                subst hu1
                have hva := V3.out a q hfp
                refine ⟨by rw [List.length_append, hml]; rfl, ?_⟩
                obtain ⟨a1, a2⟩ := a
                simp only [Value.agg.injEq, Array.mk.injEq, List.cons.injEq, Value.int.injEq, true_and, and_true] at hva
                obtain ⟨rfl, rfl⟩ := hva
                rw [insV_snoc, HL.out]
            have HEI : Hid (PlS w5 R 57 S (elemsR f p (k + 1)).st) := Lib.hid (by rw [HE.out.1]; exact P5.out)
            clear ho5 hg5 c0 c1 c2
            go_wp2
            go_roundw
            case rel => exact ⟨k + 1, m + 1, _, by omega, by go_num, by omega, O5.out, M5.out, HEI.out, HE.out.2⟩
            case measure => simp [intOf]; omega
          · obtain rfl : k = N := by omega
            have HRW := RowT.own HO.out
            obtain ⟨hml, hrel⟩ := HI.out.2.2 t pk ht
            obtain ⟨A, cc, rfl⟩ := HRW.is
            have HQ := Lib.hid HRW
            have HL := Lib.hid hrel
            clear ht hst HRW hrel
            go_wp2
            go_ret
            refine ⟨_, rfl, HI.out.1, by rw [HR3.out]; exact HI.out.2.1, ⟨_, _, _, rfl⟩, fun a q h => ?_⟩
            rw [HR3.out, HT.out] at h
            injection h with h1 h2
            subst h1 hml
            exact (by rw [← HL.out]; exact HQ.out)
        · have hbad : elemsR f p k = .bad ek := by
            cases hx : elemsR f p k with
            | ok a q => rw [hx] at hst; cases hst
            | bad e => rw [hx] at hst; injection hst with e2; rw [e2]
          have HBD : Hid (r = .bad ek) := Lib.hid (by rw [HR3.out, show N = k + (N - k) by omega]; exact elemsR_bad hbad _)
          have hne2 : (ek == 0) = false := by simpa using hne
          have HRW := RowT.own HO.out
          obtain ⟨A, cc, rfl⟩ := HRW.is
          have HST : Hid (r.st = (elemsR f p k).st) := Lib.hid (by rw [HBD.out, hbad])
          clear hbad hst HRW hak
          go_wp2
          all_goals go_ret
          all_goals exact ⟨_, rfl, HI.out.1, by rw [HST.out]; exact HI.out.2.1, ⟨_, _, _, rfl⟩, fun a q h => by rw [HBD.out] at h; cases h⟩
  · have hr1 : r1 = .bad e := by
      cases r1 with
      | ok a q => cases hst
      | bad e' => injection hst with e2; rw [e2]
    have HR2 : Hid (r = .bad e) := Lib.hid (by rw [HMD.out, hr1]; rfl)
    have hne2 : (e == 0) = false := by simpa using hne
    clear hr1 hst HV2 HMD c3
    go_wp2
    go_loopw [8, 9] (fun l i wr => l = .slice none 0 0 ∧ i = .int .i64 0 ∧ wr = w2) (fun _ _ _ => 0)
    case atStart => exact ⟨rfl, rfl, rfl⟩
    case round =>
      obtain ⟨rfl, rfl, rfl⟩ := hrel
      go_wp2
      all_goals go_ret
      all_goals exact ⟨_, rfl, M2.out, ⟨_, _, A2.out, by rw [HR2.out]; exact .inr ⟨rfl, hne⟩⟩, ⟨_, _, _, rfl⟩, fun a q h => by rw [HR2.out] at h; cases h⟩

set_option maxHeartbeats 1600000 in
theorem elemsCode (R : Nat) (S : Sc) (most : Int) (F : Value) (f : Int → Rd Cd) (hf : ∀ {p q : Int} {a : Cd}, f p = .ok a q → 0 ≤ p ∧ p ≤ q ∧ q ≤ S.l.length) (hmost : most ≤ 16384) (σ : Rd Unit) (w : World) (hF : Part R S F f (fun w' c v => ∃ P I, v = .agg (coC c P I).toArray ∧ RowT w' 43 c.params.length (tysV c.params) P ∧ RowT w' 50 c.instrs.length (insV c.instrs) I ∧ Byt c.name) (fun _ v => ∃ s A n c x y A' n' c', v = .agg #[.string s, .slice A n c, .int .i64 x, .int .i64 y, .slice A' n' c']) w) (h : PlS w R 57 S σ) :
    Calls Tryd.prog 30 #[.pointer (some ⟨R, 0, none⟩), .int .i64 most, F] w (Got R 57 S w (σ.bind fun _ p => rowOf S.l most f p) (fun w' l v => ∃ xs, RowT w' 46 l.length xs v ∧ CosC (RowT w' 43) (RowT w' 50) l xs ∧ ∀ c ∈ l, Byt c.name) (fun _ v => ∃ A n c, v = .slice A n c)) := by
  obtain ⟨i0, hi, hz0, hz1, hz2⟩ := info_parts info46c
  have hlt := h.lt
  obtain ⟨fn, caps, rfl, he, h3⟩ := hF
  have he' : ∀ (args : Array Value) (w : World), (callFunc fn args).run Tryd.prog w = .ok (.enter fn args) w := he
  have HF := Lib.hid h3
  have H0 := Lib.hid h
  have HFI : Hid (∀ p q a, f p = .ok a q → 0 ≤ p ∧ p ≤ q ∧ q ≤ S.l.length) := fun p q a h => hf h
  have HMD : Hid ((σ.bind fun _ p => rowOf S.l most f p) = (σ.bind fun _ p => numR S.l p).bind fun n q => if n < 0 ∨ most < n then .bad 111 else elemsR f q n.toNat) := Lib.hid (by
    rw [Rd.bind_bind]
    congr 1
    funext _ p
    unfold rowOf manyR
    rw [Rd.bind_bind]
    congr 1
    funext n q
    split <;> rfl)
  clear h3 h hf he
  generalize (σ.bind fun _ p => rowOf S.l most f p) = r at *
  go_enter Tryd.func30, Tryd.ntmps30
  go_wp2_with fail
  refine (makeNum R S w hlt).mono ?_
  rintro e w1 ⟨Fn, rfl, hb1, hPn⟩
  obtain ⟨fm, capm, rfl, hem, hm3⟩ := hPn
  have hem' : ∀ (args : Array Value) (w : World), (callFunc fm args).run Tryd.prog w = .ok (.enter fm args) w := hem
  have M1 := Lib.hid (Moves.of_below (R := R) hb1 (Nat.le_refl _))
  have K := Lib.hid (hm3 w1 σ (Moves.refl _ _) (H0.out.low hb1 hlt))
  clear hm3 hem hb1
  go_wp2_with fail
  refine K.out.mono ?_
  clear K
  rintro e w2 ⟨v, rfl, hm2, hp2, ⟨n, rfl⟩, hv2⟩
  have M2 := Lib.hid (M1.out.trans hm2)
  have HV2 := Lib.hid hv2
  clear hm2 hv2 M1 hem'
  generalize (σ.bind fun _ p => numR S.l p) = r1 at *
  obtain ⟨p, e, ha, hs⟩ := hp2
  obtain ⟨c0, c1, c2, c3⟩ := ha.cell
  have A2 := Lib.hid ha
  clear ha
  rcases hs with ⟨hst, rfl, p0, pl⟩ | ⟨hst, hne⟩
  · obtain ⟨n', hr1⟩ : ∃ n', r1 = .ok n' p := by
      cases r1 with
      | ok a q => injection hst with _ e2; exact ⟨a, by rw [e2]⟩
      | bad e => cases hst
    have hn := HV2.out _ _ hr1
    injection hn with _ hn
    subst hn
    have HR : Hid (r = if n < 0 ∨ most < n then .bad 111 else elemsR f p n.toNat) := Lib.hid (by rw [HMD.out, hr1]; rfl)
    clear hr1 hst HV2 HMD
    by_cases hnb : n < 0 ∨ most < n
    · have HR2 : Hid (r = .bad 111) := Lib.hid (by rw [HR.out, if_pos hnb])
      have hf2 := c3 2
      have AS := Lib.hid (A2.out.set2 111)
      have cs2 := AS.out.1.cell.2.2.1
      clear HR c3
      by_cases hn0 : n < 0
      · go_wp2
        go_loopw [8, 9] (fun l i wr => l = .slice none 0 0 ∧ i = .int .i64 0 ∧ wr = w2.setCell ⟨R, 2, none⟩ (.int .i64 111)) (fun _ _ _ => 0)
        case atStart => exact ⟨rfl, rfl, rfl⟩
        case round =>
          obtain ⟨rfl, rfl, rfl⟩ := hrel
          go_wp2
          all_goals go_ret
          all_goals exact ⟨_, rfl, M2.out.trans AS.out.2, ⟨_, _, AS.out.1, by rw [HR2.out]; exact .inr ⟨rfl, by decide⟩⟩, ⟨_, _, _, rfl⟩, fun a q h => by rw [HR2.out] at h; cases h⟩
      · have hn1 : most < n := by omega
        go_wp2
        go_loopw [8, 9] (fun l i wr => l = .slice none 0 0 ∧ i = .int .i64 0 ∧ wr = w2.setCell ⟨R, 2, none⟩ (.int .i64 111)) (fun _ _ _ => 0)
        case atStart => exact ⟨rfl, rfl, rfl⟩
        case round =>
          obtain ⟨rfl, rfl, rfl⟩ := hrel
          go_wp2
          all_goals go_ret
          all_goals exact ⟨_, rfl, M2.out.trans AS.out.2, ⟨_, _, AS.out.1, by rw [HR2.out]; exact .inr ⟨rfl, by decide⟩⟩, ⟨_, _, _, rfl⟩, fun a q h => by rw [HR2.out] at h; cases h⟩
    · have hn0 : 0 ≤ n := by omega
      have hnm : n ≤ most := by omega
      have HR2 : Hid (r = elemsR f p n.toNat) := Lib.hid (by rw [HR.out, if_neg hnb])
      obtain ⟨N, rfl⟩ := Int.eq_ofNat_of_zero_le hn0
      have HR3 : Hid (r = elemsR f p N) := Lib.hid (by rw [HR2.out, Int.toNat_natCast])
      have hnl : ¬ ((N : Int) < 0) := by omega
      have hng : ¬ (most < (N : Int)) := by omega
      clear HR HR2 hnb c3 hn0
      have hsz2 := M2.out.size
      go_wp2
      go_loopw [8, 9] (fun l i wr => ∃ (k m : Nat) (xs : List Value), k ≤ N ∧ i = .int .i64 k ∧ m ≤ k ∧ Hid (wr.ownsRow w.heap.size 46 5 l m xs) ∧ Hid (Moves R w wr ∧ PlS wr R 57 S (elemsR f p k).st ∧ ∀ t q, elemsR f p k = .ok t q → m = t.length ∧ (CosC (RowT wr 43) (RowT wr 50) t xs ∧ ∀ c ∈ t, Byt c.name))) (fun _ i _ => N - (intOf i).toNat)
      case atStart =>
        exact ⟨0, 0, [], Nat.zero_le _, rfl, Nat.le_refl _, World.ownsRow_nil _ _ _ _, M2.out, ⟨_, _, A2.out, .inl ⟨rfl, rfl, p0, pl⟩⟩, fun t q h => by
          injection h with h1 h2
          subst h1
          exact ⟨rfl, ⟨.nil, fun c hc => by cases hc⟩⟩⟩
      case round =>
        clear c0 c1 c2 A2
        obtain ⟨k, m, xs, hk, rfl, hmk, HO, HI⟩ := hrel
        have hsz := HI.out.1.size
        obtain ⟨pk, ek, hak, hsk⟩ := HI.out.2.1
        obtain ⟨c0, c1, c2, _⟩ := hak.cell
        rcases hsk with ⟨hst, rfl, q0, ql⟩ | ⟨hst, hne⟩
        · obtain ⟨t, ht⟩ : ∃ t, elemsR f p k = .ok t pk := by
            cases hx : elemsR f p k with
            | ok a q => rw [hx] at hst; injection hst with _ e2; exact ⟨a, by rw [e2]⟩
            | bad e => rw [hx] at hst; cases hst
          have HT := Lib.hid ht
          by_cases hkn : k < N
          · have K := Lib.hid (HF.out wr (.ok () pk) HI.out.1 ⟨pk, 0, hak, .inl ⟨rfl, rfl, q0, ql⟩⟩)
            obtain ⟨hml, hrel⟩ := HI.out.2.2 t pk ht
            have HL := Lib.hid hrel
            have HNX : Hid (elemsR f p (k + 1) = (f pk).bind fun a r => .ok (t ++ [a]) r) := Lib.hid (by show (elemsR f p k).bind _ = _; rw [ht]; rfl)
            clear ht hst hrel
            go_wp2_with fail
            refine K.out.mono ?_
            clear K
            rintro e w3 ⟨v, rfl, hm3, hp3, ⟨sn, AP, np, cp, x, y, AI, ni, ci, rfl⟩, hv3⟩
            have M3 := Lib.hid (HI.out.1.trans hm3)
            have O3 := Lib.hid (own_moves HO.out hm3 hlt)
            have P3 := Lib.hid hp3
            have V3 := Lib.hid hv3
            have KM := Lib.hid hm3
            have AK := Lib.hid hak
            have hs3 := hm3.size
            have bt := (Below.refl w3.heap.size w3).alloc (Nat.le_refl _) (.cells [.string sn, .slice AP np cp, .int .i64 x, .int .i64 y, .slice AI ni ci].toArray 46)
            have HA : Hid (Lies (w3.alloc (.cells [.string sn, .slice AP np cp, .int .i64 x, .int .i64 y, .slice AI ni ci].toArray 46)) (w3.heap.size + 1) (some ⟨w3.heap.size, 0, none⟩) 1 [.string sn, .slice AP np cp, .int .i64 x, .int .i64 y, .slice AI ni ci]) := Lib.hid ⟨(fun e => by cases e), fun j u hu => ⟨_, rfl, by simp, by rw [Addr.add_mid]; exact range_of (cs := [.string sn, .slice AP np cp, .int .i64 x, .int .i64 y, .slice AI ni ci]) (heap_alloc_new w3 _) j u hu⟩⟩
            have O4 := Lib.hid (own_below O3.out bt (Nat.le_refl _))
            have B4 := Lib.hid bt
            clear hm3 hp3 hv3 hak bt
            go_wp2_with (at_builtin; refine wpList_append_gro _ rfl (.tmp 42) (.tmp 45) 22 rfl w.heap.size 46 i0 _ 5 80 Tryd.underlying22 hi hz0 hz1 hz2 rfl (by omega) _ m xs rfl O4.out (w3.heap.size + 1) (some ⟨w3.heap.size, 0, none⟩) 1 1 [.string sn, .slice AP np cp, .int .i64 x, .int .i64 y, .slice AI ni ci] rfl rfl HA.out (by simp [Value.oneCell']) (by unfold maxLen; omega) (by omega) (by simp; omega) ?_; intro v5 w5 ho5 hg5)
            have O5 := Lib.hid ho5
            have M5 : Hid (Moves R w w5) := Lib.hid ((M3.out.low B4.out (by omega)).grown hg5.1 (fun g hg => (O4.out.lt g hg).1))
            have P5 : Hid (PlS w5 R 57 S (f pk).st) := Lib.hid ((P3.out.low B4.out P3.out.lt).low (hg5.below O4.out (by simp; omega)) hlt)
            have HG := Lib.hid hg5
            have HE : Hid ((elemsR f p (k + 1)).st = (f pk).st ∧ ∀ u q, elemsR f p (k + 1) = .ok u q → m + 1 = u.length ∧ (CosC (RowT w5 43) (RowT w5 50) u (xs ++ [.string sn, .slice AP np cp, .int .i64 x, .int .i64 y, .slice AI ni ci]) ∧ ∀ c ∈ u, Byt c.name)) := by
              rw [HNX.out]
              cases hfp : f pk with
              | bad e => exact ⟨rfl, fun u q h => by cases h⟩
              | ok a q =>
                refine ⟨rfl, fun u q' hu => ?_⟩
                injection hu with hu1 hu2
                subst hu1
                have hva := V3.out a q hfp
                refine ⟨by rw [List.length_append, hml]; rfl, ?_⟩
                obtain ⟨P, I, hva, hP, hI, hby⟩ := hva
                have hk3 : ∀ T, T ≠ 57 → T ≠ 46 → KeptT T wr w5 := fun T h57 h46 => ((KeptT.moves KM.out AK.out.1 h57).trans (KeptT.alloc T w3 _)).trans (KeptT.grown O4.out HG.out.1 h46)
                have hk4 : ∀ T, T ≠ 46 → KeptT T w3 w5 := fun T h46 => (KeptT.alloc T w3 _).trans (KeptT.grown O4.out HG.out.1 h46)
                have hcl : [Value.string sn, .slice AP np cp, .int .i64 x, .int .i64 y, .slice AI ni ci] = coC a P I := by
                  have := congrArg Value.cells hva
                  simpa [Value.cells, coC] using this
                rw [hcl]
                refine ⟨(HL.out.1.mono (fun _ _ _ h => h.kept (hk3 43 (by decide) (by decide))) (fun _ _ _ h => h.kept (hk3 50 (by decide) (by decide)))).snoc (hP.kept (hk4 43 (by decide))) (hI.kept (hk4 50 (by decide))), fun c hc => ?_⟩
                rcases List.mem_append.1 hc with hc | hc
                · exact HL.out.2 c hc
                · rw [List.mem_singleton.1 hc]
                  exact hby
            have HEI : Hid (PlS w5 R 57 S (elemsR f p (k + 1)).st) := Lib.hid (by rw [HE.out.1]; exact P5.out)
            clear ho5 hg5 c0 c1 c2
            go_wp2
            go_roundw
            case rel => exact ⟨k + 1, m + 1, _, by omega, by go_num, by omega, O5.out, M5.out, HEI.out, HE.out.2⟩
            case measure => simp [intOf]; omega
          · obtain rfl : k = N := by omega
            have HRW := RowT.own HO.out
            obtain ⟨hml, hrel⟩ := HI.out.2.2 t pk ht
            obtain ⟨A, cc, rfl⟩ := HRW.is
            have HQ := Lib.hid HRW
            have HL := Lib.hid hrel
            clear ht hst HRW hrel
            go_wp2
            go_ret
            refine ⟨_, rfl, HI.out.1, by rw [HR3.out]; exact HI.out.2.1, ⟨_, _, _, rfl⟩, fun a q h => ?_⟩
            rw [HR3.out, HT.out] at h
            injection h with h1 h2
            subst h1 hml
            exact ⟨xs, HQ.out, HL.out⟩
        · have hbad : elemsR f p k = .bad ek := by
            cases hx : elemsR f p k with
            | ok a q => rw [hx] at hst; cases hst
            | bad e => rw [hx] at hst; injection hst with e2; rw [e2]
          have HBD : Hid (r = .bad ek) := Lib.hid (by rw [HR3.out, show N = k + (N - k) by omega]; exact elemsR_bad hbad _)
          have hne2 : (ek == 0) = false := by simpa using hne
          have HRW := RowT.own HO.out
          obtain ⟨A, cc, rfl⟩ := HRW.is
          have HST : Hid (r.st = (elemsR f p k).st) := Lib.hid (by rw [HBD.out, hbad])
          clear hbad hst HRW hak
          go_wp2
          all_goals go_ret
          all_goals exact ⟨_, rfl, HI.out.1, by rw [HST.out]; exact HI.out.2.1, ⟨_, _, _, rfl⟩, fun a q h => by rw [HBD.out] at h; cases h⟩
  · have hr1 : r1 = .bad e := by
      cases r1 with
      | ok a q => cases hst
      | bad e' => injection hst with e2; rw [e2]
    have HR2 : Hid (r = .bad e) := Lib.hid (by rw [HMD.out, hr1]; rfl)
    have hne2 : (e == 0) = false := by simpa using hne
    clear hr1 hst HV2 HMD c3
    go_wp2
    go_loopw [8, 9] (fun l i wr => l = .slice none 0 0 ∧ i = .int .i64 0 ∧ wr = w2) (fun _ _ _ => 0)
    case atStart => exact ⟨rfl, rfl, rfl⟩
    case round =>
      obtain ⟨rfl, rfl, rfl⟩ := hrel
      go_wp2
      all_goals go_ret
      all_goals exact ⟨_, rfl, M2.out, ⟨_, _, A2.out, by rw [HR2.out]; exact .inr ⟨rfl, hne⟩⟩, ⟨_, _, _, rfl⟩, fun a q h => by rw [HR2.out] at h; cases h⟩

end Go.Proofs.YtecjkmemihmkcaaDoor
