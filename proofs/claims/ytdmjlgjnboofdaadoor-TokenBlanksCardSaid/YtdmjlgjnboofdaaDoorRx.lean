/- What the document's reader of a sign, and that of any token, return: what the program's do. Conditions: what is read lies in memory. -/
import Derived.Test.YtdmjlgjnboofdaaDoorRs
import Derived.Test.YtdmjlgjnboofdaaDoorR
import Derived.Test.YtdmjlgjnboofdaaDoorRn
import Derived.Test.YtdmjlgjnboofdaaDoorRt
namespace Go.Proofs.YtdmjlgjnboofdaaDoor
open Go.RowKit

theorem sign_yes2 {r : List Nat} {m : Nat} (hm : m ≤ r.length) (h : twos.contains (r.take m) = true) : signT r = ⟨0, 4, r.take m, 0, m⟩ := by
  have hl : (r.take m).length = m := by rw [List.length_take]; omega
  have h2 : m = 2 := by
    cases Nat.decEq m 2 with
    | isTrue h2 => exact h2
    | isFalse h2 => rw [twos_not (by rw [hl]; exact h2)] at h; cases h
  subst h2
  exact signT_two h
theorem sign_yes1 {r : List Nat} {m : Nat} (hm : m ≤ r.length) (h1 : 1 ≤ m) (h2 : m ≤ 2) (hi : m < 2 → twos.contains (r.take 2) = false) (h : ones.contains (r.take m) = true) : signT r = ⟨0, 4, r.take m, 0, m⟩ := by
  have hl : (r.take m).length = m := by rw [List.length_take]; omega
  have h3 : m = 1 := by
    rcases Nat.lt_or_ge m 2 with h4 | h4
    · omega
    · rw [ones_not (by rw [hl]; omega)] at h
      cases h
  subst h3
  exact signT_one (hi (by omega)) h (by omega)
theorem sign_no {r : List Nat} {m : Nat} (h1 : 1 ≤ m) (h2 : m ≤ 2) (hi : m < 2 → twos.contains (r.take 2) = false) (q2 : twos.contains (r.take m) = false) (q1 : ones.contains (r.take m) = false) :
    (m - 1 < 2 → twos.contains (r.take 2) = false) ∧ (m - 1 < 1 → ones.contains (r.take 1) = false) := by
  rcases Nat.lt_or_ge m 2 with h4 | h4
  · obtain rfl : m = 1 := by omega
    exact ⟨fun _ => hi (by omega), fun _ => q1⟩
  · obtain rfl : m = 2 := by omega
    exact ⟨fun _ => q2, fun h => by omega⟩

set_option maxRecDepth 100000 in
set_option maxHeartbeats 800000 in
theorem refSign (A : Option Addr) (l : List Nat) (c p : Nat) (w : World) (hc : l.length ≤ c) (hl : Lies w w.heap.size A c (bts l)) (hy : Byn l) (hp : p < l.length) (h4 : l.length ≤ 4096) :
    Calls Tryd.prog 34 #[.slice A l.length c, .int .i64 p] w fun e w' => e = .returned (readV (signT (l.drop p)) p) ∧ Below w.heap.size w w' := by
  have HL := Lib.hid hl
  have HY := Lib.hid hy
  clear hl hy
  obtain ⟨ad, _, rfl, _, _, _⟩ := HL.out.nat hp
  have hne : ¬ c = p := by omega
  have b0 := Lib.hid (below_alloc w (.cells #[.int .i64 0, .string ⟨#[]⟩, .int .i64 0, .int .i64 0] 33))
  have hnew := Lib.hid (heap_alloc_new w (.cells #[.int .i64 0, .string ⟨#[]⟩, .int .i64 0, .int .i64 0] 33))
  have hth := Lib.hid (there_of hnew.out)
  have hdl : (l.drop p).length = l.length - p := by simp
  have HDL := Lib.hid hdl
  clear hdl
  go_enter Tryd.func34, Tryd.ntmps34
  go_wp2
  generalize w.alloc (.cells #[.int .i64 0, .string ⟨#[]⟩, .int .i64 0, .int .i64 0] 33) = wn at *
  go_loopw [7] (fun i wr => ∃ m : Nat, m ≤ 2 ∧ i = .int .i64 m ∧ wr.there w.heap.size 0 4 ∧ Below w.heap.size w wr ∧ Hid (m < 2 → twos.contains ((l.drop p).take 2) = false) ∧ Hid (m < 1 → ones.contains ((l.drop p).take 1) = false)) (fun i _ => (intOf i).toNat)
  case atStart => exact ⟨2, Nat.le_refl _, rfl, hth.out, b0.out, (fun h => by omega : 2 < 2 → twos.contains ((l.drop p).take 2) = false), (fun h => by omega : 2 < 1 → ones.contains ((l.drop p).take 1) = false)⟩
  case round =>
    obtain ⟨m, hm, rfl, hthr, hbel, HI2, HI1⟩ := hrel
    have HTH := Lib.hid hthr
    have HB := Lib.hid hbel
    clear hthr hbel hnew hth b0
    by_cases h1 : 1 ≤ m
    · by_cases hfit : p + m ≤ l.length
      · have hcv := run_part (HL.out.below HB.out) (p := p) (n := m) hc hfit
        rw [if_neg hne, Option.map_some] at hcv
        have G2 : Hid (twos.contains ((l.drop p).take m) = true → signT (l.drop p) = ⟨0, 4, (l.drop p).take m, 0, m⟩) := sign_yes2 (by rw [HDL.out]; omega)
        have G1 : Hid (ones.contains ((l.drop p).take m) = true → signT (l.drop p) = ⟨0, 4, (l.drop p).take m, 0, m⟩) := sign_yes1 (by rw [HDL.out]; omega) h1 hm HI2.out
        have G0 : Hid (twos.contains ((l.drop p).take m) = false → ones.contains ((l.drop p).take m) = false → (m - 1 < 2 → twos.contains ((l.drop p).take 2) = false) ∧ (m - 1 < 1 → ones.contains ((l.drop p).take 1) = false)) := sign_no h1 hm HI2.out
        have hys : Byn ((l.drop p).take m) := HY.out.sub fun x hx => List.mem_of_mem_drop (List.mem_of_mem_take hx)
        have hrows := signs_rows wr
        have K2 := Lib.hid (refIn _ twos ⟨wr.heap.size, 0, none⟩ 6 6 _ _ hys rfl (by omega) hrows.1)
        have K1 := Lib.hid (refIn _ ones ⟨wr.heap.size + 1, 0, none⟩ 16 16 _ _ hys rfl (by omega) hrows.2)
        have TH2 := Lib.hid (World.there_alloc (World.there_alloc HTH.out (.cells #[.string ⟨#[61, 61]⟩, .string ⟨#[33, 61]⟩, .string ⟨#[60, 61]⟩, .string ⟨#[62, 61]⟩, .string ⟨#[38, 38]⟩, .string ⟨#[124, 124]⟩] 9)) (.cells #[.string ⟨#[40]⟩, .string ⟨#[41]⟩, .string ⟨#[123]⟩, .string ⟨#[125]⟩, .string ⟨#[44]⟩, .string ⟨#[59]⟩, .string ⟨#[58]⟩, .string ⟨#[61]⟩, .string ⟨#[60]⟩, .string ⟨#[62]⟩, .string ⟨#[43]⟩, .string ⟨#[45]⟩, .string ⟨#[42]⟩, .string ⟨#[47]⟩, .string ⟨#[37]⟩, .string ⟨#[33]⟩] 9))
        have HB2 := Lib.hid (below_pair HB.out HB.out.size (.cells #[.string ⟨#[61, 61]⟩, .string ⟨#[33, 61]⟩, .string ⟨#[60, 61]⟩, .string ⟨#[62, 61]⟩, .string ⟨#[38, 38]⟩, .string ⟨#[124, 124]⟩] 9) (.cells #[.string ⟨#[40]⟩, .string ⟨#[41]⟩, .string ⟨#[123]⟩, .string ⟨#[125]⟩, .string ⟨#[44]⟩, .string ⟨#[59]⟩, .string ⟨#[58]⟩, .string ⟨#[61]⟩, .string ⟨#[60]⟩, .string ⟨#[62]⟩, .string ⟨#[43]⟩, .string ⟨#[45]⟩, .string ⟨#[42]⟩, .string ⟨#[47]⟩, .string ⟨#[37]⟩, .string ⟨#[33]⟩] 9))
        clear hrows hys HI1 HI2
        generalize twos.contains ((l.drop p).take m) = q2 at *
        generalize ones.contains ((l.drop p).take m) = q1 at *
        generalize (l.drop p).take m = s at *
        go_wp2_with fail
        generalize (wr.alloc (.cells #[.string ⟨#[61, 61]⟩, .string ⟨#[33, 61]⟩, .string ⟨#[60, 61]⟩, .string ⟨#[62, 61]⟩, .string ⟨#[38, 38]⟩, .string ⟨#[124, 124]⟩] 9)).alloc (.cells #[.string ⟨#[40]⟩, .string ⟨#[41]⟩, .string ⟨#[123]⟩, .string ⟨#[125]⟩, .string ⟨#[44]⟩, .string ⟨#[59]⟩, .string ⟨#[58]⟩, .string ⟨#[61]⟩, .string ⟨#[60]⟩, .string ⟨#[62]⟩, .string ⟨#[43]⟩, .string ⟨#[45]⟩, .string ⟨#[42]⟩, .string ⟨#[47]⟩, .string ⟨#[37]⟩, .string ⟨#[33]⟩] 9) = wz at *
        clear hcv
        refine K2.out.mono ?_
        rintro e w' ⟨rfl, rfl⟩
        cases q2
        · go_wp2_with fail
          refine K1.out.mono ?_
          rintro e w' ⟨rfl, rfl⟩
          cases q1
          · have hG := G0.out trivial rfl
            have HG := Lib.hid hG
            clear hG
            go_wp2
            go_roundw
            case rel => exact ⟨m - 1, by omega, by go_num, TH2.out, HB2.out, HG.out.1, HG.out.2⟩
            case measure => simp [intOf]; omega
          · have HX := Lib.hid (G1.out rfl)
            go_wp2_with (refine wpList_store4 rfl (.tmp 4) (.tmp 40) rfl rfl w.heap.size rfl _ _ _ _ rfl TH2.out rfl rfl rfl rfl ?_; intro w3 g1 g2 g3 g4)
            refine bodyPost_ret (ret_reader Tryd.results34 _ _ w.heap.size _ rfl g1 rfl) rfl ?_
            refine ⟨ret_eq ?_, HB2.out.trans g3⟩
            rw [HX.out, readV_ok, okV]
            simp
        · have HX := Lib.hid (G2.out rfl)
          go_wp2_with (refine wpList_store4 rfl (.tmp 4) (.tmp 40) rfl rfl w.heap.size rfl _ _ _ _ rfl TH2.out rfl rfl rfl rfl ?_; intro w3 g1 g2 g3 g4)
          refine bodyPost_ret (ret_reader Tryd.results34 _ _ w.heap.size _ rfl g1 rfl) rfl ?_
          refine ⟨ret_eq ?_, HB2.out.trans g3⟩
          rw [HX.out, readV_ok, okV]
          simp
      · have H2 : Hid (twos.contains ((l.drop p).take 2) = false) := twos_not (by rw [List.length_take, HDL.out]; omega)
        go_wp2
        go_roundw
        case rel => exact ⟨m - 1, by omega, by go_num, HTH.out, HB.out, (fun _ => H2.out : m - 1 < 2 → twos.contains ((l.drop p).take 2) = false), (fun h => by omega : m - 1 < 1 → ones.contains ((l.drop p).take 1) = false)⟩
        case measure => simp [intOf]; omega
    · have HX := Lib.hid (signT_no (HI2.out (by omega)) (HI1.out (by omega)))
      clear HI1 HI2
      go_wp2_with (refine wpList_store4 rfl (.tmp 4) (.tmp 44) rfl rfl w.heap.size rfl _ _ _ _ rfl HTH.out rfl rfl rfl rfl ?_; intro w3 g1 g2 g3 g4)
      refine bodyPost_ret (ret_reader Tryd.results34 _ _ w.heap.size _ rfl g1 rfl) rfl ?_
      refine ⟨ret_eq ?_, HB.out.trans g3⟩
      rw [HX.out, readV_bad 31 p (by omega)]
      rfl
end Go.Proofs.YtdmjlgjnboofdaaDoor
