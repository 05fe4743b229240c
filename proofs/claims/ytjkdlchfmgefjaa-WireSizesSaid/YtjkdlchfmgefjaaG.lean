/- The walk of WireSizes: it returns true, and nothing that was there has changed. Conditions: none beyond what its arguments are. -/
import Derived.Test.YtjkdlchfmgefjaaF
namespace Go.Proofs.Ytjkdlchfmgefjaa
open Go.RowKit

set_option maxHeartbeats 1000000 in
theorem sizes_walk (n : Int) (A0 A1 : Option Addr) (c0 c1 : Nat) (s : List Int) (ls : List (List Int)) (w : World) 
    (hs1 : s.length ≤ c0) (hs2 : c0 ≤ maxLen) (hl1 : ls.length ≤ c1) (hl2 : c1 ≤ maxLen) (hs : Lies w w.heap.size A0 c0 (cellsOf s)) (hl : Grid w w.heap.size A1 c1 ls) :
    Calls Try.prog 8 #[.int .i64 n, .slice A0 s.length c0, .slice A1 ls.length c1] w fun e w' => e = .returned (.bool true) ∧ Below w.heap.size w w' := by
  have HS := Lib.hid hs
  have HL := Lib.hid hl
  clear hs hl
  have hsm : s.length ≤ maxLen := by omega
  have hlm : ls.length ≤ maxLen := by omega
  have hsm' := hsm
  have hlm' := hlm
  unfold maxLen at hsm hlm
  go_enter Try.func8, Try.ntmps8
  go_wp2_with fail
  refine (head_true _).mono ?_
  rintro e w1 ⟨rfl, hb1⟩
  have hz1 := hb1.size
  go_wp2_with fail
  by_cases hlen : s.length ≤ 65536
  · have hd1 : decide ((s.length : Int) ≤ 65536) = true := by simp; omega
    have hd2 : ((4 + (s.length : Int)) != ((s.length : Int) + 4)) = false := by simp; omega
    refine (putBytes A0 c0 s _ ((HS.out.below hb1).more hz1) hlen).mono ?_
    rintro e w2 ⟨A2, c2, rfl, _, _, _, hb2⟩
    have hb := hb1.trans (hb2.mono hz1)
    clear hb1 hb2
    have hz := hb.size
    clear hz1
    have hg := (HL.out.below hb).more hz
    go_wp2_with fail
    rcases Nat.lt_or_ge 1024 ls.length with hlong | hshort
    · refine (putRow_long A1 ls.length c1 _ hlm' hlong).mono ?_
      rintro e w3 ⟨rfl, rfl⟩
      go_wp2
      go_ret
      exact ⟨rfl, hb⟩
    · rcases bad_or_good ls with hbad | hgood
      · refine (putRow_bad A1 c1 ls _ hg hshort hbad).mono ?_
        rintro e w3 ⟨rfl, rfl⟩
        go_wp2
        go_ret
        exact ⟨rfl, hb⟩
      · have HB := Lib.hid (szTo_le hgood)
        have HZ := Lib.hid (szTo_zero ls)
        have HO := Lib.hid hgood
        refine (putRow A1 c1 ls _ hg hshort hgood).mono ?_
        clear hgood
        rintro e w3 ⟨A3, c3, rfl, _, _, _, hb3⟩
        rw [rowBytes_length]
        have hb' := hb.trans (hb3.mono hz)
        have hz' := hb'.size
        clear hb hz hb3 hg
        have HG := Lib.hid ((HL.out.below hb').more hz')
        go_wp2
        go_loop [12, 13] (fun s i => ∃ k : Nat, k ≤ ls.length ∧ i = .int .i64 k ∧ s = .int .i64 (4 + (szTo ls k : Int))) (fun _ i => ls.length - (intOf i).toNat)
        case atStart => exact ⟨0, Nat.zero_le _, rfl, by rw [HZ.out]; rfl⟩
        case round =>
          obtain ⟨k, hk, rfl, rfl⟩ := hrel
          have hsz := HB.out k hk
          by_cases hkl : k < ls.length
          · obtain ⟨l, hl⟩ : ∃ l, ls[k]? = some l := ⟨_, List.getElem?_eq_getElem hkl⟩
            have hle := HO.out l (List.mem_of_getElem? hl)
            have HN := Lib.hid (szTo_next hl)
            obtain ⟨ad, A', c', rfl, hB, hc, h1, h2, h3⟩ := HG.out.2 k l hl
            unfold maxLen at h2
            clear hl
            go_wp2
            go_round
            case rel => exact ⟨k + 1, by omega, by go_num, by rw [HN.out]; go_num⟩
            case measure => simp [intOf]; omega
          · obtain rfl : k = ls.length := by omega
            go_wp2_with fail
            refine (putNum n _).mono ?_
            rintro e w4 ⟨A4, c4, rfl, _, _, _, hb4⟩
            go_wp2_with fail
            refine (putBool _ _).mono ?_
            rintro e w5 ⟨A5, c5, rfl, _, _, _, hb5⟩
            go_wp2
            go_ret
            exact ⟨rfl, (hb'.trans (hb4.mono hz')).trans (hb5.mono (Nat.le_trans hz' hb4.size))⟩
  · have hd1 : decide ((s.length : Int) ≤ 65536) = false := by simp; omega
    refine (putBytes_long A0 s.length c0 _ hsm' (by omega)).mono ?_
    rintro e w2 ⟨rfl, rfl⟩
    have hb := hb1
    clear hb1
    have hz := hz1
    clear hz1
    have hg := (HL.out.below hb).more hz
    go_wp2_with fail
    rcases Nat.lt_or_ge 1024 ls.length with hlong | hshort
    · refine (putRow_long A1 ls.length c1 _ hlm' hlong).mono ?_
      rintro e w3 ⟨rfl, rfl⟩
      go_wp2
      go_ret
      exact ⟨rfl, hb⟩
    · rcases bad_or_good ls with hbad | hgood
      · refine (putRow_bad A1 c1 ls _ hg hshort hbad).mono ?_
        rintro e w3 ⟨rfl, rfl⟩
        go_wp2
        go_ret
        exact ⟨rfl, hb⟩
      · have HB := Lib.hid (szTo_le hgood)
        have HZ := Lib.hid (szTo_zero ls)
        have HO := Lib.hid hgood
        refine (putRow A1 c1 ls _ hg hshort hgood).mono ?_
        clear hgood
        rintro e w3 ⟨A3, c3, rfl, _, _, _, hb3⟩
        rw [rowBytes_length]
        have hb' := hb.trans (hb3.mono hz)
        have hz' := hb'.size
        clear hb hz hb3 hg
        have HG := Lib.hid ((HL.out.below hb').more hz')
        go_wp2
        go_loop [12, 13] (fun s i => ∃ k : Nat, k ≤ ls.length ∧ i = .int .i64 k ∧ s = .int .i64 (4 + (szTo ls k : Int))) (fun _ i => ls.length - (intOf i).toNat)
        case atStart => exact ⟨0, Nat.zero_le _, rfl, by rw [HZ.out]; rfl⟩
        case round =>
          obtain ⟨k, hk, rfl, rfl⟩ := hrel
          have hsz := HB.out k hk
          by_cases hkl : k < ls.length
          · obtain ⟨l, hl⟩ : ∃ l, ls[k]? = some l := ⟨_, List.getElem?_eq_getElem hkl⟩
            have hle := HO.out l (List.mem_of_getElem? hl)
            have HN := Lib.hid (szTo_next hl)
            obtain ⟨ad, A', c', rfl, hB, hc, h1, h2, h3⟩ := HG.out.2 k l hl
            unfold maxLen at h2
            clear hl
            go_wp2
            go_round
            case rel => exact ⟨k + 1, by omega, by go_num, by rw [HN.out]; go_num⟩
            case measure => simp [intOf]; omega
          · obtain rfl : k = ls.length := by omega
            go_wp2_with fail
            refine (putNum n _).mono ?_
            rintro e w4 ⟨A4, c4, rfl, _, _, _, hb4⟩
            go_wp2_with fail
            refine (putBool _ _).mono ?_
            rintro e w5 ⟨A5, c5, rfl, _, _, _, hb5⟩
            go_wp2
            go_ret
            exact ⟨rfl, (hb'.trans (hb4.mono hz')).trans (hb5.mono (Nat.le_trans hz' hb4.size))⟩
end Go.Proofs.Ytjkdlchfmgefjaa
