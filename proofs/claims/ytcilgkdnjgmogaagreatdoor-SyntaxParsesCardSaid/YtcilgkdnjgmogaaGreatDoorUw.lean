/- The walk of SyntaxParses. -/
import Derived.Test.YtcilgkdnjgmogaaGreatDoorUo
import Derived.Test.YtcilgkdnjgmogaaGreatDoorTn
import Derived.Test.YtcilgkdnjgmogaaGreatDoorNJ
namespace Go.Proofs.YtcilgkdnjgmogaaGreatDoor
open Go.RowKit
set_option maxRecDepth 100000
set_option linter.unusedSimpArgs false
set_option linter.unusedVariables false
theorem info5u : (Tryz.prog.info? 5).map (fun i => (i.zero, i.size, i.bytes)) = some (some (.int .u8 0), 1, 1) := by kernel_rfl
theorem own_newu (w : World) (cs : List Value) (n : Nat) (hn : cs.length = n) (hm : n ≤ maxLen) : (w.alloc (.cells cs.toArray 5)).ownsRow w.heap.size 5 1 (.slice (some ⟨w.heap.size, 0, none⟩) n n) n cs := by
 refine ⟨by omega, .inr ⟨w.heap.size, n, cs.toArray, rfl, Nat.le_refl _, heap_alloc_new w _, Nat.le_refl _, hm, by simp [hn], ?_⟩⟩
 rw [List.take_of_length_le (by simp; omega)]
def TouchRel (w0 : World) (base : Nat) (A : Option Addr) (c : Nat) (b : List Nat) (k : Nat) (wr : World) : Prop :=
 ∃ xs : List Value, wr.ownsRow base 5 1 (.slice A b.length c) b.length xs ∧ w0.grownBy wr (Value.ownBlock (.slice A b.length c)) ∧ ∀ (j x : Nat), k ≤ j → b[j]? = some x → xs[j]? = some (.int .u8 (x : Nat))
theorem TouchRel.step {w0 wr : World} {base g : Nat} {c : Nat} {b : List Nat} {k : Nat} (h : TouchRel w0 base (some ⟨g, 0, none⟩) c b k wr) (u : Value) : TouchRel w0 base (some ⟨g, 0, none⟩) c b (k + 1) (wr.setCell ⟨g, k, none⟩ u) := by
 obtain ⟨xs, h1, h2, h3⟩ := h
 have hst := h1.stored k u
 refine ⟨xs.set k u, hst.1, grown_trans h2 hst.2, fun j x hj hx => ?_⟩
 rw [List.getElem?_set_ne (by omega)]
 exact h3 j x (by omega) hx
set_option maxHeartbeats 1600000 in
theorem parses_walk (A : Option Addr) (l : List Nat) (c : Nat) (w : World) (hc : l.length ≤ c) (hcm : c ≤ maxLen) (hr : c ≤ 140737488351232) (hl : Lies w w.heap.size A c (bts l)) (hy : Byn l) (ht : Tab w) :
  Calls Tryz.prog 3 #[.slice A l.length c] w fun e w' => e = .returned (.bool true) ∧ Below w.heap.size w w' := by
 have HL := Lib.hid hl
 have HY := Lib.hid hy
 have HT := Lib.hid ht
 have hpos := ht.1
 clear hl hy ht
 obtain ⟨i0, hi, hz0, hz1, hz2⟩ := info_parts info5u
 go_enter Tryz.func3, Tryz.ntmps3
 go_wp2_with fail
 refine (head_true _ HT.out).mono ?_
 rintro e w1 ⟨rfl, hb1⟩
 have BW1 := Lib.hid hb1
 have s1 := hb1.size
 clear hb1
 have ho0 := Lib.hid (own_newu w1 [] 0 rfl (Nat.zero_le _))
 have hal := Lib.hid (below_alloc w1 (.cells #[] 5))
 have HZ0 := Lib.hid hal.out.size
 have lb0 := Lib.hid (((HL.out.below BW1.out).more s1).below hal.out)
 go_wp2_with (at_builtin; refine wpList_append_lies rfl (.tmp 13) (.tmp 14) 22 rfl w1.heap.size 5 i0 (.int .u8 0) 1 Tryz.underlying22 hi hz0 hz1 hz2 rfl _ _ _ rfl ho0.out _ A l.length c (bts l) rfl (by rw [bts_length]) lb0.out (bts_one _) (by unfold maxLen; omega) (by omega) HZ0.out ?_; intro v2 w2 ho2 hg2)
 have hB2 : Below w1.heap.size w1 w2 := hal.out.grown hg2 HZ0.out (fun k hk => (ho0.out.lt k hk).1)
 have hown := own_eq ho2 (m := l.length) (ys := bts l) (by omega) (by simp)
 obtain ⟨Ao, co, hv2, n1, n2, n3⟩ := own_lies hown
 subst hv2
 have BW2 := Lib.hid (BW1.out.trans (hB2.mono s1))
 have s2 := BW2.out.size
 have HOWN := Lib.hid hown
 have HLO := Lib.hid n3
 clear ho0 hal HZ0 lb0 ho2 hg2 hown n3 hB2 hi hz0 hz1 hz2
 cases hp : parsed l with
 | mk err fs place =>
  have K := Lib.hid (parseZ Ao l l.length co w2 rfl n1 n2 HLO.out HY.out (HT.out.below BW2.out hpos) err place fs hp err place rfl rfl)
  have HP := Lib.hid hp
  clear hp
  go_wp2_with fail
  (with_reducible refine K.out.mono ?_)
  clear K
  rintro e w3 ⟨V, rfl, hF, e3⟩
  obtain ⟨A2, c2, rfl⟩ : ∃ A c, V = .slice A fs.length c := hF.slice
  have e3a := below_alloc w3 (.cells #[.slice A2 fs.length c2] 26)
  have e4 := e3.trans (e3a.mono e3.size)
  have BW4 := Lib.hid (BW2.out.trans (e4.mono s2))
  have HF4 : Hid (FusC (w3.alloc (.cells #[.slice A2 fs.length c2] 26)) (Rng w2.heap.size w3.heap.size) fs (.slice A2 fs.length c2)) := hF.same fun k hk => e3a.block k hk.2
  have HV4 : Hid (VarAt (w3.alloc (.cells #[.slice A2 fs.length c2] 26)) w3.heap.size [.slice A2 fs.length c2]) := VarAt.block (cs := [_]) (T := 26) (heap_alloc_new w3 _)
  have HS4 : Hid (w2.heap.size ≤ w3.heap.size ∧ w3.heap.size < (w3.alloc (.cells #[.slice A2 fs.length c2] 26)).heap.size) := ⟨e3.size, by simp⟩
  have HST : Hid (TouchRel (w3.alloc (.cells #[.slice A2 fs.length c2] 26)) w1.heap.size Ao co l 0 (w3.alloc (.cells #[.slice A2 fs.length c2] 26))) := ⟨bts l, own_below HOWN.out e4 (Nat.le_refl _), World.grownBy.refl _ _, fun j x _ hx => bts_get hx⟩
  have HLT : Hid (∀ g, Value.ownBlock (.slice Ao l.length co) = some g → g < w2.heap.size) := fun g hg => (HOWN.out.lt g hg).2
  have hbl : l.length ≤ 140737488351232 := by omega
  clear hF e3 e3a e4
  go_upto_region 4 with fail
  generalize w3.alloc (.cells #[.slice A2 fs.length c2] 26) = w4 at *
  generalize w3.heap.size = z3 at *
  go_wp2
  go_loopw [8] (fun i wr => ∃ k : Nat, k ≤ l.length ∧ i = .int .i64 k ∧ TouchRel w4 w1.heap.size Ao co l k wr) (fun i _ => l.length - (intOf i).toNat)
  case atStart => exact ⟨0, Nat.zero_le _, rfl, HST.out⟩
  case round =>
   clear HST
   obtain ⟨k, hk, rfl, hR⟩ := hrel
   by_cases hkl : k < l.length
   ·obtain ⟨xs, r1, r2, r3⟩ := hR
    obtain ⟨g, rfl, hg⟩ := own_addr r1 (by omega)
    obtain ⟨x, hx⟩ : ∃ x, l[k]? = some x := ⟨_, List.getElem?_eq_getElem hkl⟩
    have hcell : wr.cell? ⟨g, k, none⟩ = some (.int .u8 (x : Nat)) := by rw [r1.cellAt k (by omega)]; exact r3 k x (Nat.le_refl _) hx
    have hfz := r1.frozenAt k
    have HR : Hid (TouchRel w4 w1.heap.size (some ⟨g, 0, none⟩) co l k wr) := ⟨xs, r1, r2, r3⟩
    clear r1 r2 r3 hx
    go_wp2
    go_roundw
    case rel => exact ⟨k + 1, by omega, by go_num, HR.out.step _⟩
    case measure => simp [intOf]; omega
   ·obtain ⟨xs, r1, r2, r3⟩ := hR
    have hne : ∀ b, w2.heap.size ≤ b → some b ≠ Value.ownBlock (.slice Ao l.length co) := fun b hb e => by
     have := HLT.out b e.symm
     omega
    have hbw : Below w.heap.size w wr := BW4.out.grown r2 BW4.out.size (fun g hg => by have h1 := (r1.lt g hg).1; omega)
    have hFr : FusC wr (Rng w2.heap.size z3) fs (.slice A2 fs.length c2) := HF4.out.same fun k hk => r2.block k (by have := hk.2; have := HS4.out.2; omega) (fun e => hne k hk.1 e)
    have hVr : VarAt wr z3 [.slice A2 fs.length c2] := HV4.out.of (r2.block z3 HS4.out.2 (fun e => hne z3 HS4.out.1 e))
    have hz : z3 < wr.heap.size := Nat.lt_of_lt_of_le HS4.out.2 r2.size
    have HBW := Lib.hid hbw
    have sw := hbw.size
    have K2 := Lib.hid (refParse A l c wr hc hcm ((HL.out.below HBW.out).more sw) HY.out)
    rw [HP.out] at K2
    have HFr := Lib.hid hFr
    have HVr := Lib.hid hVr
    have HZ := Lib.hid hz
    clear r1 r2 r3 HOWN HLO hbw hFr hVr hz hne HF4 HV4
    go_wp2_with fail
    (with_reducible refine K2.out.mono ?_)
    clear K2
    rintro e w5 ⟨V5, rfl, hF5, e5⟩
    obtain ⟨A5, c5, rfl⟩ : ∃ A c, V5 = .slice A fs.length c := hF5.slice
    have e5a := below_alloc w5 (.cells #[.slice A5 fs.length c5] 26)
    have e6 := e5.trans (e5a.mono e5.size)
    have BW6 := Lib.hid (HBW.out.trans (e6.mono sw))
    have f1 : FusC (w5.alloc (.cells #[.slice A5 fs.length c5] 26)) (· < (w5.alloc (.cells #[.slice A5 fs.length c5] 26)).heap.size) fs (.slice A2 fs.length c2) :=
     (HFr.out.same fun k hk => e6.block k (by have := hk.2; have := HZ.out; omega)).more fun k hk => by have := hk.2; have := HZ.out; have := e6.size; omega
    have f2 : FusC (w5.alloc (.cells #[.slice A5 fs.length c5] 26)) (· < (w5.alloc (.cells #[.slice A5 fs.length c5] 26)).heap.size) fs (.slice A5 fs.length c5) :=
     (hF5.same fun k hk => e5a.block k hk.2).more fun k hk => by have := hk.2; have := e5a.size; omega
    have K3 := Lib.hid (sameT fs fs (alsoFs_refl true fs) _ _ (w5.alloc (.cells #[.slice A5 fs.length c5] 26)) _ (Nat.le_refl _) f1 f2)
    have x0 := ((HVr.out.of (e6.block z3 HZ.out)).cell 0 _ rfl).1
    have x1 := ((VarAt.block (cs := [_]) (T := 26) (heap_alloc_new w5 (.cells #[.slice A5 fs.length c5] 26))).cell 0 _ rfl).1
    have q1 : (((err : Nat) : Int) == err) = true := by simp
    have q2 : (((place : Nat) : Int) == place) = true := by simp
    clear hF5 e5 e5a e6 f1 f2 HFr HVr
    go_upto_region 9 with fail
    generalize w5.alloc (.cells #[.slice A5 fs.length c5] 26) = w6 at *
    generalize w5.heap.size = z5 at *
    go_wp2_with fail
    (with_reducible refine K3.out.mono ?_)
    clear K3
    rintro e w7 ⟨rfl, e7⟩
    have HB7 := Lib.hid (BW6.out.trans (e7.mono BW6.out.size))
    clear e7
    go_wp2
    go_ret
    exact ⟨rfl, HB7.out⟩
end Go.Proofs.YtcilgkdnjgmogaaGreatDoor
