/- What the program's readers of a name, a number and a text return. Conditions: what is read lies in memory; the tables lie as the program lays them. -/
import Derived.Test.YtoicncfpoklanaaDoorC
namespace Go.Proofs.YtoicncfpoklanaaDoor
open Go.RowKit
set_option maxRecDepth 100000

/-- what a reader returns -/
def okV (kind : Nat) (text : List Nat) (num p q : Nat) : Value := .tuple #[.agg #[.int .i64 kind, .string (strN text), .int .i64 num, .int .i64 p], .int .i64 q, .int .i64 0]
def badV (e : Nat) : Value := .tuple #[.agg #[.int .i64 0, .string ⟨#[]⟩, .int .i64 0, .int .i64 0], .int .i64 0, .int .i64 e]
def readV (r : Read) (p : Nat) : Value := bif r.err == 0 then okV r.kind r.text r.num p (p + r.len) else badV r.err
theorem readV_bad (e p : Nat) (he : e ≠ 0) : readV (bad e) p = badV e := by
  unfold readV bad
  cases e with
  | zero => exact absurd rfl he
  | succ e => rfl
theorem readV_ok (k : Nat) (t : List Nat) (n len p : Nat) : readV ⟨0, k, t, n, len⟩ p = okV k t n p (p + len) := rfl

theorem below_alloc (w : World) (o : Obj) : Below w.heap.size w (w.alloc o) := (Below.refl _ _).alloc (Nat.le_refl _) o
theorem addr_succ (a : Addr) (p : Nat) : a.add (p + 1) = ⟨a.block, a.off + (p + 1), none⟩ := by unfold Addr.add; simp
/-- a part of a slice, as a string -/
theorem run_part {w : World} {B : Nat} {A : Option Addr} {c : Nat} {l : List Nat} (h : Lies w B A c (bts l)) {p n : Nat} (hc : l.length ≤ c) (hn : p + n ≤ l.length) :
    (convert 22 9 (.slice (if c = p then A else A.map (fun x => x.add p)) n (c - p))).run Tryd.prog w = .ok (.string (strN ((l.drop p).take n))) w := by
  have hm := h.midN (p := p) (n := n) hc
  exact run_string_lies w 22 9 5 Tryd.underlying22 Tryd.underlying5 Tryd.underlying9 B _ n (c - p) _ (by simp; omega) hm

set_option maxHeartbeats 800000 in
theorem readName (A : Option Addr) (l : List Nat) (c p : Nat) (w : World) (hc : l.length ≤ c) (hcm : c ≤ maxLen) (hl : Lies w w.heap.size A c (bts l)) (hy : Byn l) (hp : p < l.length) (ht : Tab w) :
    Calls Tryd.prog 31 #[.slice A l.length c, .int .i64 p] w fun e w' => e = .returned (readV (nameT (l.drop p)) p) ∧ Below w.heap.size w w' := by
  have HL := Lib.hid hl
  have HY := Lib.hid hy
  have HT := Lib.hid ht
  have hpos := ht.1
  clear hl hy ht
  obtain ⟨ad, _, rfl, _, _, _⟩ := HL.out.nat hp
  have hne : ¬ c = p := by omega
  have b0 := Lib.hid ((Below.refl w.heap.size w).alloc (Nat.le_refl _) (.cells #[.int .i64 0, .string ⟨#[]⟩, .int .i64 0, .int .i64 0] 77))
  go_enter Tryd.func31, Tryd.ntmps31
  go_wp2_with fail
  refine (extent 47 nameB ent47 nameByte (some ad) l c p _ w.heap.size hc hcm (HL.out.below b0.out) HY.out (by omega)).mono ?_
  rintro e w1 ⟨rfl, rfl⟩
  have hrl := run_le nameB (l.drop p)
  rw [List.length_drop] at hrl
  have HN : Hid (nameT (l.drop p) = if run nameB (l.drop p) > 16 then bad 32 else ⟨0, bif isWord ((l.drop p).take (run nameB (l.drop p))) then 4 else 1, (l.drop p).take (run nameB (l.drop p)), 0, run nameB (l.drop p)⟩) := rfl
  have hcv := run_part (HL.out.below b0.out) (p := p) (n := run nameB (l.drop p)) hc (by omega)
  have K1 := Lib.hid (word ((l.drop p).take (run nameB (l.drop p))) _ (HY.out.sub fun x hx => List.mem_of_mem_drop (List.mem_of_mem_take hx)) (HT.out.below b0.out hpos))
  rw [if_neg hne, Option.map_some] at hcv
  generalize run nameB (l.drop p) = n at *
  generalize (l.drop p).take n = t at *
  unfold maxLen at hcm
  by_cases h16 : n > 16
  · have HE := Lib.hid (readV_bad 32 p (by omega))
    rw [if_pos h16] at HN
    clear hcv
    go_wp2
    refine bodyPost_ret (by simp [results, Tryd.results31, go_sem]; rfl) rfl ?_
    refine ⟨?_, ?_⟩
    · rw [HN.out, HE.out]
      rfl
    · exact below_alloc _ _
  · rw [if_neg h16] at HN
    generalize isWord t = q at *
    cases q
    · go_wp2_with fail
      refine K1.out.mono ?_
      rintro e w1 ⟨rfl, rfl⟩
      go_wp2
      refine bodyPost_ret (by simp [results, Tryd.results31, go_sem]; rfl) rfl ?_
      refine ⟨?_, ?_⟩
      · rw [HN.out]
        simp [readV, okV]
      · exact below_alloc _ _
    · go_wp2_with fail
      refine K1.out.mono ?_
      rintro e w1 ⟨rfl, rfl⟩
      go_wp2
      refine bodyPost_ret (by simp [results, Tryd.results31, go_sem]; rfl) rfl ?_
      refine ⟨?_, ?_⟩
      · rw [HN.out]
        simp [readV, okV]
      · exact below_alloc _ _

theorem digit_range {b : Nat} (h : digitB b = true) : 48 ≤ b ∧ b ≤ 57 := by simpa [digitB] using h
theorem value_big {t : List Nat} {k b v : Nat} (h : t[k]? = some b) (hv : v > (9223372036854775807 - (b - 48)) / 10) : value (t.drop k) v = none := by
  obtain ⟨hk, rfl⟩ := List.getElem?_eq_some_iff.1 h
  rw [List.drop_eq_getElem_cons hk]
  simp only [value, if_pos hv]
theorem value_next {t : List Nat} {k b v : Nat} (h : t[k]? = some b) (hv : ¬ v > (9223372036854775807 - (b - 48)) / 10) : value (t.drop k) v = value (t.drop (k + 1)) (v * 10 + (b - 48)) := by
  obtain ⟨hk, rfl⟩ := List.getElem?_eq_some_iff.1 h
  rw [List.drop_eq_getElem_cons hk]
  simp only [value, if_neg hv]
theorem numT_some {r : List Nat} {v : Nat} (h : value (r.take (run digitB r)) 0 = some v) : numT r = ⟨0, 2, [], v, run digitB r⟩ := by
  unfold numT
  rw [h]
theorem numT_none {r : List Nat} (h : value (r.take (run digitB r)) 0 = none) : numT r = bad 32 := by
  unfold numT
  rw [h]
theorem strN_nil : strN [] = ⟨#[]⟩ := rfl

set_option maxHeartbeats 1600000 in
theorem readNum (A : Option Addr) (l : List Nat) (c p : Nat) (w : World) (hc : l.length ≤ c) (hcm : c ≤ maxLen) (hl : Lies w w.heap.size A c (bts l)) (hy : Byn l) (hp : p < l.length) :
    Calls Tryd.prog 33 #[.slice A l.length c, .int .i64 p] w fun e w' => e = .returned (readV (numT (l.drop p)) p) ∧ Below w.heap.size w w' := by
  have HL := Lib.hid hl
  have HY := Lib.hid hy
  clear hl hy
  obtain ⟨ad, _, rfl, _, _, _⟩ := HL.out.nat hp
  have hne : ¬ c = p := by omega
  have b0 := Lib.hid ((Below.refl w.heap.size w).alloc (Nat.le_refl _) (.cells #[.int .i64 0, .string ⟨#[]⟩, .int .i64 0, .int .i64 0] 77))
  go_enter Tryd.func33, Tryd.ntmps33
  go_wp2_with fail
  refine (extent 32 digitB ent32 digit (some ad) l c p _ w.heap.size hc hcm (HL.out.below b0.out) HY.out (by omega)).mono ?_
  rintro e w1 ⟨rfl, rfl⟩
  have hrl := run_le digitB (l.drop p)
  rw [List.length_drop] at hrl
  have HS : Hid (∀ v, value ((l.drop p).take (run digitB (l.drop p))) 0 = some v → numT (l.drop p) = ⟨0, 2, [], v, run digitB (l.drop p)⟩) := fun v h => numT_some h
  have HN : Hid (value ((l.drop p).take (run digitB (l.drop p))) 0 = none → numT (l.drop p) = bad 32) := fun h => numT_none h
  have hm := (HL.out.below b0.out).midN (p := p) (n := run digitB (l.drop p)) hc
  rw [if_neg hne, Option.map_some] at hm
  have HM := Lib.hid hm
  clear hm
  have HD : Hid (∀ b ∈ (l.drop p).take (run digitB (l.drop p)), digitB b = true) := run_all digitB (l.drop p)
  have HLT : Hid (((l.drop p).take (run digitB (l.drop p))).length = run digitB (l.drop p)) := by show _ = _; simp; omega
  unfold maxLen at hcm
  generalize run digitB (l.drop p) = n at *
  generalize (l.drop p).take n = t at *
  go_wp2
  generalize ad.add p = a2 at *
  go_loop [8, 20] (fun x i => ∃ k v : Nat, k ≤ n ∧ v ≤ 9223372036854775807 ∧ i = .int .i64 k ∧ x = .int .i64 v ∧ Hid (value (t.drop k) v = value t 0)) (fun _ i => n - (intOf i).toNat)
  case atStart => exact ⟨0, 0, Nat.zero_le _, Nat.zero_le _, rfl, rfl, rfl⟩
  case round =>
    obtain ⟨k, v, hk, hv, rfl, rfl, HR⟩ := hrel
    by_cases hlt : k < n
    · obtain ⟨a3, b, he, hB, hg, hcell⟩ := HM.out.nat (k := k) (by rw [HLT.out]; exact hlt)
      injection he with he
      subst he
      have hb := digit_range (HD.out b (List.mem_of_getElem? hg))
      have HG := Lib.hid hg
      clear hg
      obtain ⟨d, rfl⟩ : ∃ d, b = d + 48 := ⟨b - 48, by omega⟩
      have hcell' : (w.alloc (Obj.cells #[Value.int IntKind.i64 0, Value.string ⟨#[]⟩, Value.int IntKind.i64 0, Value.int IntKind.i64 0] 77)).cell? (a2.add k) = some (.int .u8 ((d : Int) + 48)) := by rw [hcell]; simp
      clear hcell
      by_cases hbig : v > (9223372036854775807 - (d + 48 - 48)) / 10
      · have HV := Lib.hid (value_big HG.out hbig)
        go_wp2
        refine bodyPost_ret (by simp [results, Tryd.results33, go_sem]; rfl) rfl ?_
        refine ⟨?_, below_alloc _ _⟩
        rw [HN.out (HR.out.symm.trans HV.out), readV_bad 32 p (by omega)]
        rfl
      · have HV := Lib.hid (value_next HG.out hbig)
        go_wp2
        go_round
        case rel => exact ⟨k + 1, v * 10 + d, by omega, by omega, by go_num, by go_num, by have h1 := HV.out; rw [Nat.add_sub_cancel] at h1; exact h1.symm.trans HR.out⟩
        case measure => simp [intOf]; omega
    · obtain rfl : k = n := by omega
      go_wp2
      refine bodyPost_ret (by simp [results, Tryd.results33, go_sem]; rfl) rfl ?_
      refine ⟨?_, below_alloc _ _⟩
      have h1 := HR.out
      rw [List.drop_of_length_le (by rw [HLT.out]; omega)] at h1
      rw [HS.out v h1.symm, readV_ok, okV, strN_nil]
      simp

theorem textT_open {l : List Nat} {p : Nat} (h : ¬ l[p + 1 + run textB (l.drop (p + 1))]? = some 34) : textT (l.drop p) = bad 31 := by
  unfold textT
  rw [List.drop_drop, List.getElem?_drop, if_neg h]
theorem textT_long {l : List Nat} {p : Nat} (h : l[p + 1 + run textB (l.drop (p + 1))]? = some 34) (hn : run textB (l.drop (p + 1)) > 64) : textT (l.drop p) = bad 32 := by
  unfold textT
  rw [List.drop_drop, List.getElem?_drop, if_pos h, if_pos hn]
theorem textT_ok {l : List Nat} {p : Nat} (h : l[p + 1 + run textB (l.drop (p + 1))]? = some 34) (hn : ¬ run textB (l.drop (p + 1)) > 64) :
    textT (l.drop p) = ⟨0, 3, (l.drop (p + 1)).take (run textB (l.drop (p + 1))), 0, run textB (l.drop (p + 1)) + 2⟩ := by
  unfold textT
  rw [List.drop_drop, List.getElem?_drop, if_pos h, if_neg hn]

set_option maxHeartbeats 1600000 in
theorem readText (A : Option Addr) (l : List Nat) (c p : Nat) (w : World) (hc : l.length ≤ c) (hcm : c ≤ maxLen) (hl : Lies w w.heap.size A c (bts l)) (hy : Byn l) (hp : p < l.length) :
    Calls Tryd.prog 34 #[.slice A l.length c, .int .i64 p] w fun e w' => e = .returned (readV (textT (l.drop p)) p) ∧ Below w.heap.size w w' := by
  have HL := Lib.hid hl
  have HY := Lib.hid hy
  clear hl hy
  have b0 := Lib.hid ((Below.refl w.heap.size w).alloc (Nat.le_refl _) (.cells #[.int .i64 0, .string ⟨#[]⟩, .int .i64 0, .int .i64 0] 77))
  have hcm' := hcm
  unfold maxLen at hcm'
  go_enter Tryd.func34, Tryd.ntmps34
  go_wp2_with fail
  refine (extent 49 textB ent49 textByte A l c (p + 1) _ w.heap.size hc hcm (HL.out.below b0.out) HY.out (by omega)).mono ?_
  rintro e w1 ⟨rfl, rfl⟩
  have hrl := run_le textB (l.drop (p + 1))
  rw [List.length_drop] at hrl
  have H1 : Hid (¬ l[p + 1 + run textB (l.drop (p + 1))]? = some 34 → textT (l.drop p) = bad 31) := textT_open
  have H2 : Hid (l[p + 1 + run textB (l.drop (p + 1))]? = some 34 → run textB (l.drop (p + 1)) > 64 → textT (l.drop p) = bad 32) := textT_long
  have H3 : Hid (l[p + 1 + run textB (l.drop (p + 1))]? = some 34 → ¬ run textB (l.drop (p + 1)) > 64 → textT (l.drop p) = ⟨0, 3, (l.drop (p + 1)).take (run textB (l.drop (p + 1))), 0, run textB (l.drop (p + 1)) + 2⟩) := textT_ok
  have hcv := run_part (HL.out.below b0.out) (p := p + 1) (n := run textB (l.drop (p + 1))) hc (by omega)
  generalize run textB (l.drop (p + 1)) = n at *
  generalize (l.drop (p + 1)).take n = t at *
  by_cases hend : p + 1 + n < l.length
  · obtain ⟨ad, b, rfl, hB, hg, hcell⟩ := (HL.out.below b0.out).nat hend
    have hne : ¬ c = p + 1 := by omega
    rw [if_neg hne, Option.map_some] at hcv
    have HG := Lib.hid hg
    have hb := byn_get HY.out hg
    clear hg
    by_cases h34 : b = 34
    · subst h34
      by_cases h64 : n > 64
      · clear hcv
        go_wp2
        refine bodyPost_ret (by simp [results, Tryd.results34, go_sem]; rfl) rfl ?_
        refine ⟨?_, below_alloc _ _⟩
        rw [H2.out HG.out h64, readV_bad 32 p (by omega)]
        rfl
      · rw [addr_succ] at hcv
        go_wp2
        refine bodyPost_ret (by simp [results, Tryd.results34, go_sem]; rfl) rfl ?_
        refine ⟨?_, below_alloc _ _⟩
        rw [H3.out HG.out h64, readV_ok, okV]
        simp
        omega
    · clear hcv
      have e34 : ((b : Int) != 34) = true := by rw [bne_iff_ne]; omega
      go_wp2
      refine bodyPost_ret (by simp [results, Tryd.results34, go_sem]; rfl) rfl ?_
      refine ⟨?_, below_alloc _ _⟩
      rw [H1.out (by rw [HG.out]; simpa using h34), readV_bad 31 p (by omega)]
      rfl
  · clear hcv
    obtain hend : p + 1 + n = l.length := by omega
    have H0 : Hid (¬ l[p + 1 + n]? = some 34) := by rw [hend]; show ¬ l[l.length]? = some 34; simp
    go_wp2
    refine bodyPost_ret (by simp [results, Tryd.results34, go_sem]; rfl) rfl ?_
    refine ⟨?_, below_alloc _ _⟩
    rw [H1.out H0.out, readV_bad 31 p (by omega)]
    rfl
end Go.Proofs.YtoicncfpoklanaaDoor
