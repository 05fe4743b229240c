/- What the document's 'Lex' returns: the document's tokens, or the error and its place. Conditions: what is read lies in memory. -/
import Derived.Test.YtdmjlgjnboofdaaDoorRx
import Derived.Test.YtdmjlgjnboofdaaDoorG
namespace Go.Proofs.YtdmjlgjnboofdaaDoor
open Go.RowKit

set_option maxRecDepth 100000 in
set_option maxHeartbeats 1600000 in
theorem refNext (A : Option Addr) (l : List Nat) (c p : Nat) (w : World) (hc : l.length ≤ c) (hcm : c ≤ maxLen) (hl : Lies w w.heap.size A c (bts l)) (hy : Byn l) (hp : p < l.length) (h4 : l.length ≤ 4096) :
    Calls Tryd.prog 18 #[.slice A l.length c, .int .i64 p] w fun e w' => e = .returned (readV (readT (l.drop p)) p) ∧ Below w.heap.size w w' := by
  have HL := Lib.hid hl
  have HY := Lib.hid hy
  clear hl hy
  obtain ⟨ad, b, rfl, hB, hg, hcell⟩ := HL.out.nat hp
  have hb := byn_get HY.out hg
  have HR := Lib.hid (readT_at hg)
  clear hg
  have b0 := Lib.hid (below_alloc w (.cells #[.int .i64 0, .string ⟨#[]⟩, .int .i64 0, .int .i64 0] 33))
  have hnew := Lib.hid (heap_alloc_new w (.cells #[.int .i64 0, .string ⟨#[]⟩, .int .i64 0, .int .i64 0] 33))
  have hcell0 := b0.out.cell (p := ad.add p) (by rw [addr_block]; exact hB)
  rw [hcell] at hcell0
  have HLn := Lib.hid ((HL.out.below b0.out).more b0.out.size)
  clear hcell
  have K1 := Lib.hid (refLetter b (w.alloc (.cells #[.int .i64 0, .string ⟨#[]⟩, .int .i64 0, .int .i64 0] 33)) hb)
  have K2 := Lib.hid (refDigit b (w.alloc (.cells #[.int .i64 0, .string ⟨#[]⟩, .int .i64 0, .int .i64 0] 33)) hb)
  go_enter Tryd.func18, Tryd.ntmps18
  go_wp2_with fail
  generalize w.alloc (.cells #[.int .i64 0, .string ⟨#[]⟩, .int .i64 0, .int .i64 0] 33) = wn at *
  clear hcell0
  refine K1.out.mono ?_
  rintro e w1 ⟨rfl, rfl⟩
  by_cases h1 : letterB b = true
  · rw [if_pos h1] at HR
    rw [h1]
    obtain ⟨c0, c1, c2, c3, q, er, hV, o0, o1, o2, o3⟩ := readV_form (nameT (l.drop p)) p
    have HV := Lib.hid hV
    have K3 := Lib.hid (refName (some ad) l c p wn hc hcm HLn.out HY.out hp)
    rw [hV] at K3
    clear hV K1 K2
    go_wp2_with fail
    refine K3.out.mono ?_
    rintro e w2 ⟨rfl, hb2⟩
    have HP := Lib.hid (reader_post b0.out hnew.out hb2)
    clear hb2 K3
    go_wp2_with (refine wpList_store4 rfl (.tmp 4) (.tmp 17) rfl rfl w.heap.size rfl _ _ _ _ rfl HP.out.1 o0 o1 o2 o3 ?_; intro w3 g1 g2 g3 g4)
    refine bodyPost_ret (ret_reader Tryd.results18 _ _ w.heap.size _ rfl g1 rfl) rfl ?_
    exact ⟨ret_eq (by rw [HR.out, HV.out]; rfl), HP.out.2.trans g3⟩
  · rw [if_neg h1] at HR
    rw [show letterB b = false by simpa using h1]
    clear K1
    go_wp2_with fail
    refine K2.out.mono ?_
    rintro e w1 ⟨rfl, rfl⟩
    by_cases h2 : digitB b = true
    · rw [if_pos h2] at HR
      rw [h2]
      obtain ⟨c0, c1, c2, c3, q, er, hV, o0, o1, o2, o3⟩ := readV_form (numT (l.drop p)) p
      have HV := Lib.hid hV
      have K3 := Lib.hid (refNumber (some ad) l c p wn hc hcm HLn.out HY.out hp)
      rw [hV] at K3
      clear hV K2
      go_wp2_with fail
      refine K3.out.mono ?_
      rintro e w2 ⟨rfl, hb2⟩
      have HP := Lib.hid (reader_post b0.out hnew.out hb2)
      clear hb2 K3
      go_wp2_with (refine wpList_store4 rfl (.tmp 4) (.tmp 25) rfl rfl w.heap.size rfl _ _ _ _ rfl HP.out.1 o0 o1 o2 o3 ?_; intro w3 g1 g2 g3 g4)
      refine bodyPost_ret (ret_reader Tryd.results18 _ _ w.heap.size _ rfl g1 rfl) rfl ?_
      exact ⟨ret_eq (by rw [HR.out, HV.out]; rfl), HP.out.2.trans g3⟩
    · rw [if_neg h2] at HR
      rw [show digitB b = false by simpa using h2]
      clear K2
      by_cases h3 : b = 34
      · rw [if_pos h3] at HR
        subst h3
        obtain ⟨c0, c1, c2, c3, q, er, hV, o0, o1, o2, o3⟩ := readV_form (textT (l.drop p)) p
        have HV := Lib.hid hV
        have K3 := Lib.hid (refText (some ad) l c p wn hc hcm HLn.out HY.out hp)
        rw [hV] at K3
        clear hV
        go_wp2_with fail
        refine K3.out.mono ?_
        rintro e w2 ⟨rfl, hb2⟩
        have HP := Lib.hid (reader_post b0.out hnew.out hb2)
        clear hb2 K3
        go_wp2_with (refine wpList_store4 rfl (.tmp 4) (.tmp 33) rfl rfl w.heap.size rfl _ _ _ _ rfl HP.out.1 o0 o1 o2 o3 ?_; intro w3 g1 g2 g3 g4)
        refine bodyPost_ret (ret_reader Tryd.results18 _ _ w.heap.size _ rfl g1 rfl) rfl ?_
        exact ⟨ret_eq (by rw [HR.out, HV.out]; rfl), HP.out.2.trans g3⟩
      · rw [if_neg h3] at HR
        have h34 : ((b : Int) == 34) = false := by rw [beq_eq_false_iff_ne]; omega
        obtain ⟨c0, c1, c2, c3, q, er, hV, o0, o1, o2, o3⟩ := readV_form (signT (l.drop p)) p
        have HV := Lib.hid hV
        have K3 := Lib.hid (refSign (some ad) l c p wn hc HLn.out HY.out hp h4)
        rw [hV] at K3
        clear hV
        go_wp2_with fail
        refine K3.out.mono ?_
        rintro e w2 ⟨rfl, hb2⟩
        have HP := Lib.hid (reader_post b0.out hnew.out hb2)
        clear hb2 K3
        go_wp2_with (refine wpList_store4 rfl (.tmp 4) (.tmp 39) rfl rfl w.heap.size rfl _ _ _ _ rfl HP.out.1 o0 o1 o2 o3 ?_; intro w3 g1 g2 g3 g4)
        refine bodyPost_ret (ret_reader Tryd.results18 _ _ w.heap.size _ rfl g1 rfl) rfl ?_
        exact ⟨ret_eq (by rw [HR.out, HV.out]; rfl), HP.out.2.trans g3⟩

set_option maxRecDepth 100000 in
set_option maxHeartbeats 1600000 in
theorem refLex (A : Option Addr) (l : List Nat) (c : Nat) (w : World) (hc : l.length ≤ c) (hcm : c ≤ maxLen) (hl : Lies w w.heap.size A c (bts l)) (hy : Byn l) :
    Calls Tryd.prog 11 #[.slice A l.length c] w (LexO w (lexed l)) := by
  have HL := Lib.hid hl
  have HY := Lib.hid hy
  clear hl hy
  have hcm' := hcm
  unfold maxLen at hcm'
  obtain ⟨i0, hi, hz0, hz1, hz2⟩ := info_parts info33
  by_cases hbig : l.length > 4096
  · have HE : Hid (lexed l = ⟨2, [], 0⟩) := by show _ = _; unfold lexed; rw [if_pos hbig]
    clear hi hz0 hz1 hz2
    go_enter Tryd.func11, Tryd.ntmps11
    go_wp2
    go_ret3
    rw [HE.out]
    exact ⟨_, rfl, World.ownsRow_nil _ _ _ _, Below.refl _ _⟩
  · have HE := Lib.hid (lexed_rest (l := l) (by omega))
    go_enter Tryd.func11, Tryd.ntmps11
    go_wp2_with fail
    refine (blanks A l c 0 _ w hc hcm HL.out HY.out (by omega)).mono ?_
    rintro e w0 ⟨rfl, rfl⟩
    have hb0 := Below.refl w.heap.size w
    have hs0 := skip_le l 0 (Nat.zero_le _)
    generalize skip l 0 = p0 at *
    have HB0 := Lib.hid hb0
    clear hb0
    go_wp2
    go_loopw [5, 6] (fun v i wr => ∃ (p : Nat) (ts : List Tok), p ≤ l.length ∧ ts.length ≤ 2048 ∧ i = .int .i64 p ∧ wr.ownsRow w.heap.size 33 4 v ts.length (toksC ts) ∧ Below w.heap.size w wr ∧ Hid (lexed l = rest l p ts)) (fun _ i _ => l.length - (intOf i).toNat)
    case atStart => exact ⟨p0, [], hs0, Nat.zero_le _, rfl, World.ownsRow_nil _ _ _ _, HB0.out, HE.out⟩
    case round =>
      clear HE HB0
      obtain ⟨p, ts, hp, hts, rfl, hown, hbel, HR⟩ := hrel
      have HO := Lib.hid hown
      have HB := Lib.hid hbel
      have hsz := hbel.size
      clear hown hbel
      by_cases hlt : p < l.length
      · go_wp2_with fail
        refine (refNext A l c p wr hc hcm ((HL.out.below HB.out).more hsz) HY.out hlt (by omega)).mono ?_
        rintro e w1 ⟨rfl, hb1⟩
        have HB1 := Lib.hid (HB.out.trans (hb1.mono hsz))
        have HO1 := Lib.hid (own_below HO.out hb1 (Nat.le_refl _))
        have hsz1 := Nat.le_trans hsz hb1.size
        clear hb1
        have HN0 : Hid ((readT (l.drop p)).err ≠ 0 → rest l p ts = ⟨(readT (l.drop p)).err, [], p⟩) := fun h => rest_bad ts hlt h
        have HN1 : Hid ((readT (l.drop p)).err = 0 → ts.length = 2048 → rest l p ts = ⟨2, [], p⟩) := fun h h2 => rest_many hlt h h2
        have HN2 : Hid ((readT (l.drop p)).err = 0 → ts.length ≠ 2048 → rest l p ts = rest l (skip l (p + (readT (l.drop p)).len)) (ts ++ [⟨(readT (l.drop p)).kind, (readT (l.drop p)).text, (readT (l.drop p)).num, p⟩])) := fun h h2 => rest_next hlt h h2
        have HLn : Hid ((readT (l.drop p)).err = 0 → 1 ≤ (readT (l.drop p)).len ∧ (readT (l.drop p)).len ≤ (l.drop p).length) := read_len (l.drop p)
        generalize readT (l.drop p) = r at *
        obtain ⟨er, kind, text, num, len⟩ := r
        dsimp only at HN0 HN1 HN2 HLn
        by_cases her : er = 0
        · subst her
          rw [readV_ok, okV]
          have hlen := HLn.out rfl
          rw [List.length_drop] at hlen
          by_cases hfull : ts.length = 2048
          · have HX := Lib.hid (HN1.out rfl hfull)
            clear HN0 HN1 HN2 HLn hi hz0 hz1 hz2
            obtain ⟨A1, c1, hv⟩ := own_shape HO1.out
            subst hv
            go_wp2
            go_ret3
            rw [HR.out, HX.out]
            exact ⟨_, rfl, World.ownsRow_nil _ _ _ _, HB1.out.alloc hsz1 _⟩
          · have HX := Lib.hid (HN2.out rfl hfull)
            have hfull' : ts.length < 2048 := by omega
            clear HN0 HN1 HN2 HLn
            obtain ⟨A1, c1, hv⟩ := own_shape HO1.out
            subst hv
            have ho2 := Lib.hid ((HO1.out.alloc (.cells #[.int .i64 kind, .string (strN text), .int .i64 num, .int .i64 p] 33)).alloc (.cells #[.int .i64 kind, .string (strN text), .int .i64 num, .int .i64 p] 33))
            have hb2 := Lib.hid (below_two HB1.out hsz1 (.cells #[.int .i64 kind, .string (strN text), .int .i64 num, .int .i64 p] 33) (.cells #[.int .i64 kind, .string (strN text), .int .i64 num, .int .i64 p] 33))
            have hr2 := row_cells (w1.alloc (.cells #[.int .i64 kind, .string (strN text), .int .i64 num, .int .i64 p] 33)) (.int .i64 kind) (.string (strN text)) (.int .i64 num) (.int .i64 p)
            rw [World.size_alloc] at hr2
            replace hr2 := Lib.hid hr2
            have hbig2 : w.heap.size ≤ ((w1.alloc (.cells #[.int .i64 kind, .string (strN text), .int .i64 num, .int .i64 p] 33)).alloc (.cells #[.int .i64 kind, .string (strN text), .int .i64 num, .int .i64 p] 33)).heap.size := by simp; omega
            have HZ2 := Lib.hid hbig2
            clear hbig2
            go_wp2_with (at_builtin; refine wpList_append_own _ rfl (.tmp 34) (.tmp 36) 24 rfl w.heap.size 33 i0 _ 4 40 Tryd.underlying24 hi hz0 hz1 hz2 rfl (by omega) _ _ _ rfl ho2.out ⟨w1.heap.size + 1, 0, none⟩ 1 1 [.int .i64 kind, .string (strN text), .int .i64 num, .int .i64 p] rfl rfl hr2.out one4 (by unfold maxLen; omega) (by omega) HZ2.out ?_; intro v3 w3 ho3 hg3 hn3)
            have hb3 : Below w.heap.size w w3 := hb2.out.grown hg3 HZ2.out (fun k hk => (ho2.out.lt k hk).1)
            have hs3 := hb3.size
            have HO3 := Lib.hid (own_toks ho3)
            have HB3 := Lib.hid hb3
            clear ho3 hg3 hn3 hb3 ho2 hb2 hr2 HZ2 hi hz0 hz1 hz2
            rw [show ((p : Int) + (len : Int)) = ((p + len : Nat) : Int) by simp]
            refine (blanks A l c (p + len) _ w3 hc hcm ((HL.out.below HB3.out).more hs3) HY.out (by omega)).mono ?_
            rintro e w4 ⟨rfl, rfl⟩
            have hb4 := Below.refl w3.heap.size w3
            have hsk1 := skip_le l (p + len) (by omega)
            have hsk2 := skip_ge l (p + len)
            have HB4 := Lib.hid (HB3.out.trans (hb4.mono hs3))
            have HO4 := Lib.hid (own_below HO3.out hb4 (Nat.le_refl _))
            clear hb4
            generalize skip l (p + len) = p2 at *
            go_wp2
            go_roundw
            case rel => exact ⟨p2, _, hsk1, by simp; omega, rfl, HO4.out, HB4.out, HR.out.trans HX.out⟩
            case measure => simp [intOf]; omega
        · have HX := Lib.hid (HN0.out her)
          rw [readV, show (er == 0) = false by simpa using her]
          clear HN0 HN1 HN2 HLn hi hz0 hz1 hz2
          have he1 : ((er : Int) == 0) = false := by rw [beq_eq_false_iff_ne]; omega
          have he2 : ((er : Int) != 0) = true := by rw [bne_iff_ne]; omega
          unfold badV
          go_wp2
          go_ret3
          rw [HR.out, HX.out]
          exact ⟨_, rfl, World.ownsRow_nil _ _ _ _, HB1.out.alloc hsz1 _⟩
      · obtain rfl : p = l.length := by omega
        have HX := Lib.hid (rest_end (l := l) (p := l.length) ts (Nat.le_refl _))
        go_wp2
        go_ret3
        rw [HR.out, HX.out]
        exact ⟨_, rfl, HO.out, HB.out⟩
end Go.Proofs.YtdmjlgjnboofdaaDoor
