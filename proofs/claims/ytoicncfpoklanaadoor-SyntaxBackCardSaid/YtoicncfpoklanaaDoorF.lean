/- What the program's 'readToken' returns. Conditions: what is read lies in memory; the tables lie as the program lays them. -/
import Derived.Test.YtoicncfpoklanaaDoorE
namespace Go.Proofs.YtoicncfpoklanaaDoor
open Go.RowKit
set_option maxRecDepth 100000

theorem readV_form (r : Read) (p : Nat) : ∃ c0 c1 c2 c3 q e : Value, readV r p = .tuple #[.agg #[c0, c1, c2, c3], q, e] ∧ c0.oneCell' = true ∧ c1.oneCell' = true ∧ c2.oneCell' = true ∧ c3.oneCell' = true := by
  unfold readV
  cases r.err == 0
  · exact ⟨_, _, _, _, _, _, rfl, rfl, rfl, rfl, rfl⟩
  · exact ⟨_, _, _, _, _, _, rfl, rfl, rfl, rfl, rfl⟩
theorem readT_at {l : List Nat} {p b : Nat} (h : l[p]? = some b) : readT (l.drop p) = if letterB b then nameT (l.drop p) else if digitB b then numT (l.drop p) else if b = 34 then textT (l.drop p) else signT (l.drop p) := by
  obtain ⟨hk, rfl⟩ := List.getElem?_eq_some_iff.1 h
  rw [List.drop_eq_getElem_cons hk]
  exact readT_cons _ _

theorem reader_post {w wn w2 : World} {c0 c1 c2 c3 : Value} (hb0 : Below w.heap.size w wn) (hnew : wn.heap[w.heap.size]? = some (.cells #[c0, c1, c2, c3] 77 (0, 0))) (h : Below wn.heap.size wn w2) : w2.there w.heap.size 0 4 ∧ Below w.heap.size w w2 := by
  refine ⟨there_of (c0 := c0) (c1 := c1) (c2 := c2) (c3 := c3) ?_, hb0.trans (h.mono hb0.size)⟩
  rw [h.block _ (lt_of_block hnew)]
  exact hnew
theorem ret_eq {v v' : Value} (h : v = v') : Ending.returned v = .returned v' := by rw [h]

set_option maxHeartbeats 3200000 in
theorem readToken (A : Option Addr) (l : List Nat) (c p : Nat) (w : World) (hc : l.length ≤ c) (hcm : c ≤ maxLen) (hl : Lies w w.heap.size A c (bts l)) (hy : Byn l) (hp : p < l.length) (ht : Tab w) :
    Calls Tryd.prog 20 #[.slice A l.length c, .int .i64 p] w fun e w' => e = .returned (readV (readT (l.drop p)) p) ∧ Below w.heap.size w w' := by
  have HL := Lib.hid hl
  have HY := Lib.hid hy
  have HT := Lib.hid ht
  have hpos := ht.1
  clear hl hy ht
  obtain ⟨ad, b, rfl, hB, hg, hcell⟩ := HL.out.nat hp
  have hb := byn_get HY.out hg
  have HR := Lib.hid (readT_at hg)
  clear hg
  have b0 := Lib.hid (below_alloc w (.cells #[.int .i64 0, .string ⟨#[]⟩, .int .i64 0, .int .i64 0] 77))
  have hnew := Lib.hid (heap_alloc_new w (.cells #[.int .i64 0, .string ⟨#[]⟩, .int .i64 0, .int .i64 0] 77))
  have hcell0 := b0.out.cell (p := ad.add p) (by rw [addr_block]; exact hB)
  rw [hcell] at hcell0
  have HLn := Lib.hid ((HL.out.below b0.out).more b0.out.size)
  have HTn := Lib.hid (HT.out.below b0.out hpos)
  clear hcell
  have K1 := Lib.hid (letter b (w.alloc (.cells #[.int .i64 0, .string ⟨#[]⟩, .int .i64 0, .int .i64 0] 77)) hb)
  have K2 := Lib.hid (digit b (w.alloc (.cells #[.int .i64 0, .string ⟨#[]⟩, .int .i64 0, .int .i64 0] 77)) hb)
  go_enter Tryd.func20, Tryd.ntmps20
  go_wp2_with fail
  generalize w.alloc (.cells #[.int .i64 0, .string ⟨#[]⟩, .int .i64 0, .int .i64 0] 77) = wn at *
  clear hcell0
  refine K1.out.mono ?_
  rintro e w1 ⟨rfl, rfl⟩
  by_cases h1 : letterB b = true
  · rw [if_pos h1] at HR
    rw [h1]
    obtain ⟨c0, c1, c2, c3, q, er, hV, o0, o1, o2, o3⟩ := readV_form (nameT (l.drop p)) p
    have HV := Lib.hid hV
    have K3 := Lib.hid (readName (some ad) l c p wn hc hcm HLn.out HY.out hp HTn.out)
    rw [hV] at K3
    clear hV K1 K2
    go_wp2_with fail
    refine K3.out.mono ?_
    rintro e w2 ⟨rfl, hb2⟩
    have HP := Lib.hid (reader_post b0.out hnew.out hb2)
    clear hb2 K3
    go_wp2_with (refine wpList_store4 rfl (.tmp 4) (.tmp 18) rfl rfl w.heap.size rfl _ _ _ _ rfl HP.out.1 o0 o1 o2 o3 ?_; intro w3 g1 g2 g3 g4)
    refine bodyPost_ret (ret_reader Tryd.results20 _ _ w.heap.size _ rfl g1 rfl) rfl ?_
    exact ⟨ret_eq (by rw [HR.out, HV.out]; rfl), HP.out.2.trans g3⟩
  · rw [if_neg h1] at HR
    rw [show letterB b = false by simpa using h1]
    clear K1
    go_wp2_with fail
    refine K2.out.mono ?_
    rintro e w1 ⟨rfl, rfl⟩
    by_cases h2 : digitB b = true
    · rw [if_pos h2] at HR
      rw [h2]
      obtain ⟨c0, c1, c2, c3, q, er, hV, o0, o1, o2, o3⟩ := readV_form (numT (l.drop p)) p
      have HV := Lib.hid hV
      have K3 := Lib.hid (readNum (some ad) l c p wn hc hcm HLn.out HY.out hp)
      rw [hV] at K3
      clear hV K2
      go_wp2_with fail
      refine K3.out.mono ?_
      rintro e w2 ⟨rfl, hb2⟩
      have HP := Lib.hid (reader_post b0.out hnew.out hb2)
      clear hb2 K3
      go_wp2_with (refine wpList_store4 rfl (.tmp 4) (.tmp 27) rfl rfl w.heap.size rfl _ _ _ _ rfl HP.out.1 o0 o1 o2 o3 ?_; intro w3 g1 g2 g3 g4)
      refine bodyPost_ret (ret_reader Tryd.results20 _ _ w.heap.size _ rfl g1 rfl) rfl ?_
      exact ⟨ret_eq (by rw [HR.out, HV.out]; rfl), HP.out.2.trans g3⟩
    · rw [if_neg h2] at HR
      rw [show digitB b = false by simpa using h2]
      clear K2
      by_cases h3 : b = 34
      · rw [if_pos h3] at HR
        subst h3
        obtain ⟨c0, c1, c2, c3, q, er, hV, o0, o1, o2, o3⟩ := readV_form (textT (l.drop p)) p
        have HV := Lib.hid hV
        have K3 := Lib.hid (readText (some ad) l c p wn hc hcm HLn.out HY.out hp)
        rw [hV] at K3
        clear hV
        go_wp2_with fail
        refine K3.out.mono ?_
        rintro e w2 ⟨rfl, hb2⟩
        have HP := Lib.hid (reader_post b0.out hnew.out hb2)
        clear hb2 K3
        go_wp2_with (refine wpList_store4 rfl (.tmp 4) (.tmp 36) rfl rfl w.heap.size rfl _ _ _ _ rfl HP.out.1 o0 o1 o2 o3 ?_; intro w3 g1 g2 g3 g4)
        refine bodyPost_ret (ret_reader Tryd.results20 _ _ w.heap.size _ rfl g1 rfl) rfl ?_
        exact ⟨ret_eq (by rw [HR.out, HV.out]; rfl), HP.out.2.trans g3⟩
      · rw [if_neg h3] at HR
        have h34 : ((b : Int) == 34) = false := by rw [beq_eq_false_iff_ne]; omega
        obtain ⟨c0, c1, c2, c3, q, er, hV, o0, o1, o2, o3⟩ := readV_form (signT (l.drop p)) p
        have HV := Lib.hid hV
        have K3 := Lib.hid (readSign (some ad) l c p wn hc hcm HLn.out HY.out hp HTn.out)
        rw [hV] at K3
        clear hV
        go_wp2_with fail
        refine K3.out.mono ?_
        rintro e w2 ⟨rfl, hb2⟩
        have HP := Lib.hid (reader_post b0.out hnew.out hb2)
        clear hb2 K3
        go_wp2_with (refine wpList_store4 rfl (.tmp 4) (.tmp 42) rfl rfl w.heap.size rfl _ _ _ _ rfl HP.out.1 o0 o1 o2 o3 ?_; intro w3 g1 g2 g3 g4)
        refine bodyPost_ret (ret_reader Tryd.results20 _ _ w.heap.size _ rfl g1 rfl) rfl ?_
        exact ⟨ret_eq (by rw [HR.out, HV.out]; rfl), HP.out.2.trans g3⟩
end Go.Proofs.YtoicncfpoklanaaDoor
