/- The walk of WireCuts: it returns true, and nothing that was there has changed. Conditions: none beyond what its arguments are. -/
import Derived.Test.YtjkdlchfmgefjaaO
namespace Go.Proofs.Ytjkdlchfmgefjaa
open Go.RowKit

set_option maxRecDepth 100000 in
set_option maxHeartbeats 1000000 in
theorem cuts_walk (A0 : Option Addr) (c0 : Nat) (ls : List (List Int)) (n : Int) (cut : Nat) (w : World)
    (hcut : cut < 4294967296) (hl1 : ls.length ≤ c0) (hl2 : c0 ≤ maxLen) (hl : Grid w w.heap.size A0 c0 ls) (yl : ∀ l ∈ ls, Byt l) :
    Calls Try.prog 7 #[.slice A0 ls.length c0, .int .i64 n, .int .u32 cut] w fun e w' => e = .returned (.bool true) ∧ Below w.heap.size w w' := by
  have HL := Lib.hid hl
  have HY := Lib.hid (rowBytes_byt yl)
  have HYL := Lib.hid yl
  have HC := Lib.hid hcut
  clear hl yl hcut
  have hlm : ls.length ≤ maxLen := by omega
  have hlm' : ls.length ≤ 9223372036854775807 := by unfold maxLen at hlm; omega
  go_enter Try.func7, Try.ntmps7
  go_wp2_with fail
  refine (head_true _).mono ?_
  rintro e w1 ⟨rfl, hb⟩
  have hz := hb.size
  go_wp2_with fail
  have hg := (HL.out.below hb).more hz
  rcases Nat.lt_or_ge 1024 ls.length with hlong | hshort
  · refine (putRow_long A0 ls.length c0 _ hlm hlong).mono ?_
    rintro e w3 ⟨rfl, rfl⟩
    go_wp2
    go_ret
    exact ⟨rfl, hb⟩
  · rcases bad_or_good ls with hbad | hgood
    · refine (putRow_bad A0 c0 ls _ hg hshort hbad).mono ?_
      rintro e w3 ⟨rfl, rfl⟩
      go_wp2
      go_ret
      exact ⟨rfl, hb⟩
    · have HO := Lib.hid hgood
      refine (putRow A0 c0 ls _ hg hshort hgood).mono ?_
      clear hgood hg
      rintro e w3 ⟨A7, c7, rfl, r1, r2, t7, hb3⟩
      have T7 := Lib.hid t7
      have hb' := hb.trans (hb3.mono hz)
      clear t7 hb hz hb3
      have hz := hb'.size
      have hpos : 4 ≤ (rowBytes ls).length := by rw [rowBytes_length]; omega
      have r2' := r2
      unfold maxLen at r2
      by_cases hbig : (rowBytes ls).length ≤ 1000000
      · have hlt : cut % (rowBytes ls).length < (rowBytes ls).length := Nat.mod_lt _ (by omega)
        have hlen : ((rowBytes ls).take (cut % (rowBytes ls).length)).length = cut % (rowBytes ls).length := by rw [List.length_take]; omega
        have K1 := row_err A7 ((rowBytes ls).take (cut % (rowBytes ls).length)) c7 0 w3 (by omega) r2' (by omega) (by omega) (T7.out.pre _) (HY.out.pre _) (by rw [row_cut hshort HO.out hlt]; omega)
        rw [row_cut hshort HO.out hlt, hlen] at K1
        have HK1 := Lib.hid K1
        clear K1 hlen
        have hm8 : cut % 8 < 8 := Nat.mod_lt _ (by omega)
        go_wp2_with fail
        any_goals (go_ret; exact ⟨rfl, hb'⟩)
        refine HK1.out.mono ?_
        rintro e w4 ⟨rfl, hb4⟩
        have hB4 := hb'.trans (hb4.mono hz)
        clear hb' hz hb4 HK1
        go_wp2_with fail
        refine (putNum n _).mono ?_
        rintro e w5 ⟨A8, c8, rfl, p1, p2, p3, hb5⟩
        have hB5 := hB4.trans (hb5.mono hB4.size)
        obtain ⟨nc1, nc2⟩ := num_cut (n := n) hm8
        have K2 := num A8 ((be n 7 8).take (cut % 8)) c8 0 w5 w5.heap.size (by omega) p2 (by omega) (by omega) (p3.pre _) ((be_byt _ _ _).pre _)
        rw [nc1, nc2] at K2
        have HK2 := Lib.hid K2
        clear nc1 nc2 K2 p3 hB4 hb5
        go_wp2_with fail
        refine HK2.out.mono ?_
        rintro e w6 ⟨rfl, rfl⟩
        clear HK2
        generalize numA ((be n 7 8).take (cut % 8)) 0 = q1
        generalize numB ((be n 7 8).take (cut % 8)) 0 = q2
        by_cases hl0 : ls.length = 0
        · obtain rfl : ls = [] := List.eq_nil_of_length_eq_zero hl0
          go_wp2
          go_ret
          exact ⟨rfl, hB5⟩
        · have hlpos : 0 < ls.length := by omega
          obtain ⟨l0, hl0'⟩ : ∃ l, ls[0]? = some l := ⟨_, List.getElem?_eq_getElem hlpos⟩
          have hle := HO.out l0 (List.mem_of_getElem? hl0')
          have HY0 := Lib.hid (HYL.out l0 (List.mem_of_getElem? hl0'))
          obtain ⟨ad, A9, c9, rfl, hBk, hcell0, k1, k2, k3⟩ := (HL.out.below hB5).2 0 l0 hl0'
          have hcell : w5.cell? ad = some (.slice A9 l0.length c9) := by simpa [Addr.add] using hcell0
          have K3 := putBytes A9 c9 l0 w5 (k3.more hB5.size) hle
          have HK3 := Lib.hid K3
          clear hl0 hl0' hcell0 k3 K3
          go_wp2_with fail
          refine HK3.out.mono ?_
          rintro e w7 ⟨A10, c10, rfl, m1, m2, m3, hb7⟩
          have hB7 := hB5.trans (hb7.mono hB5.size)
          have hlt2 : cut % (4 + l0.length) < 4 + l0.length := Nat.mod_lt _ (by omega)
          have hlen2 : ((be l0.length 3 4 ++ l0).take (cut % (4 + l0.length))).length = cut % (4 + l0.length) := by rw [List.length_take, List.length_append, be_length]; omega
          have hcut2 : bytesE ((be l0.length 3 4 ++ l0).take (cut % (4 + l0.length))) (0 : Int) = 11 := by
            have := bytes_cut (l := be l0.length 3 4 ++ l0) (p := 0) (t := cut % (4 + l0.length)) (s := l0) (r := []) (by simp) hle (by omega) (by omega)
            exact this
          have K4 := bytes_err A10 ((be l0.length 3 4 ++ l0).take (cut % (4 + l0.length))) c10 0 w7 w7.heap.size (by omega) m2 (by omega) (by omega) (m3.pre _) (((be_byt _ _ _).append HY0.out).pre _) (by rw [hcut2]; omega)
          rw [hcut2, hlen2] at K4
          have HK4 := Lib.hid K4
          unfold maxLen at m2
          have hmod : ((cut : Int) % (4 + (l0.length : Int))) = ((cut % (4 + l0.length) : Nat) : Int) := by push_cast; rfl
          generalize cut % (4 + l0.length) = m at *
          clear hcut2 hlen2 K4 m3 HK3 hb7 hB5 hcell
          go_wp2_with fail
          refine HK4.out.mono ?_
          rintro e w8 ⟨rfl, rfl⟩
          clear HK4
          go_wp2
          go_ret
          exact ⟨rfl, hB7⟩
      · have hbig' : 1000000 < (rowBytes ls).length := by omega
        go_wp2
        go_ret
        exact ⟨rfl, hb'⟩
end Go.Proofs.Ytjkdlchfmgefjaa
