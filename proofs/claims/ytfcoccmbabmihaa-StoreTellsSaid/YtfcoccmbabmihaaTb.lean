/- The bytes of a row of pairs, of the program and of the document, and plain facts on them. Conditions: what is read lies in memory; a row is not longer than memory. -/
import Derived.Test.YtfcoccmbabmihaaSn
import Derived.Test.YtfcoccmbabmihaaQ
namespace Go.Proofs.Ytfcoccmbabmihaa
open Go.RowKit
set_option linter.unusedSimpArgs false
set_option linter.unusedVariables false

/-- keys and values in turn -/
def rowM (ls : List PR) : List (List Int) := ls.flatMap fun p => [p.1, p.2]
theorem rowM_cons (p : PR) (ls : List PR) : rowM (p :: ls) = p.1 :: p.2 :: rowM ls := rfl
theorem rowM_len : ∀ (ls : List PR), (rowM ls).length = ls.length * 2
  | [] => rfl
  | p :: ls => by rw [rowM_cons, List.length_cons, List.length_cons, rowM_len ls, List.length_cons]; omega
theorem rowM_mem {ls : List PR} {s : List Int} (h : s ∈ rowM ls) : ∃ p ∈ ls, s = p.1 ∨ s = p.2 := by
  obtain ⟨p, hp, h2⟩ := List.mem_flatMap.1 h
  exact ⟨p, hp, by simpa using h2⟩
theorem right_row {ls : List PR} (h : RightM ls) : (rowM ls).length ≤ 1024 ∧ ∀ s ∈ rowM ls, s.length ≤ 65536 := by
  have h1 := (right_sml h).2
  refine ⟨by rw [rowM_len]; omega, fun s hs => ?_⟩
  obtain ⟨p, hp, e | e⟩ := rowM_mem hs
  · have := h.1 p hp; rw [e]; omega
  · have := h.1 p hp; rw [e]; omega
/-- what is written of a store; and the error -/
def wrL (ls : List PR) : List Int := if RightM ls then rowBytes (rowM ls) else []
def wrE (ls : List PR) : Int := if RightM ls then 0 else 1

theorem PsC.row {w : World} {B : Nat} {ls : List PR} {vs : List Value} (h : PsC w B ls vs) : ∀ {i : Nat} {s : List Int}, (rowM ls)[i]? = some s → ∃ u, vs[i]? = some u ∧ SB w B u s := by
  induction h with
  | nil => intro i s hs; simp [rowM] at hs
  | @cons p l u v vs h1 h2 _ ih =>
    intro i s hs
    rw [rowM_cons] at hs
    match i, hs with
    | 0, hs => simp at hs; subst hs; exact ⟨u, rfl, h1⟩
    | 1, hs => simp at hs; subst hs; exact ⟨v, rfl, h2⟩
    | i + 2, hs => exact ih (by simpa using hs)
theorem PsC.grid {w : World} {B : Nat} {A : Option Addr} {c : Nat} {ls : List PR} {vs : List Value} (h : PsC w B ls vs) (hl : Lies w B A c vs) : Grid w B A c (rowM ls) := by
  refine ⟨hl.1, fun i s hs => ?_⟩
  obtain ⟨u, hu, A', c', rfl, h1, h2, h3, h4⟩ := h.row hs
  obtain ⟨ad, e, hB, hc⟩ := hl.2 i _ hu
  exact ⟨ad, A', c', e, hB, hc, h1, h2, h3⟩
theorem info23 : (Try.prog.info? 23).map (fun i => (i.zero, i.size, i.bytes)) = some (some (.slice none 0 0), 1, 24) := by kernel_rfl
theorem take_two {vs : List Value} {k : Nat} {u v : Value} (h1 : vs[k * 2]? = some u) (h2 : vs[k * 2 + 1]? = some v) : vs.take ((k + 1) * 2) = vs.take (k * 2) ++ [u, v] := by
  rw [show (k + 1) * 2 = k * 2 + 1 + 1 by omega, take_next h2, take_next h1]
  simp
/-- 'append' onto what the call owns, as an operation -/
theorem wp_append_own2 {P : Program} (w : World) {o : Oper} {a : Act} {K : Act → World → Prop} {Q : Exit → Act → World → Prop} (s x : Operand) (t : TypeId) (ho : o.op = .call { callee := .builtin .append, args := #[s, x], argTypes := #[t, t] })
    (base : Nat) (e : TypeId) (i : TypeInfo) (z : Value) (size bytes : Nat) (ht : P.underlying t = some (.slice e)) (hi : P.info? e = some i) (hz : i.zero = some z)
    (hsize : i.size = size) (hby : i.bytes = bytes) (hzs : z.cells.size = size) (hsz : 0 < size) (v : Value) (n : Nat) (xs : List Value) (hs : a.eval s = v) (hown : w.ownsRow base e size v n xs)
    (ad : Addr) (m c : Nat) (news : List Value) (hx : a.eval x = .slice (some ad) m c) (hl : news.length = m * size) (hnews : ∀ j u, news[j]? = some u → w.cell? (ad.add j) = some u) (h1 : ∀ u ∈ news, u.oneCell' = true)
    (h63 : n + m ≤ maxLen) (hbytes : (n + m) * bytes ≤ 140737488355328) (hbase : base ≤ w.heap.size)
    (h : ∀ v' w', w'.ownsRow base e size v' (n + m) (xs ++ news) → w.grownBy w' v.ownBlock → K (a.put o.dst v') w') : o.wp P a w K Q := by
  obtain ⟨v', w', hr, h2, h3, _⟩ := run_append_own (P := P) w base t o.type e i z size bytes ht hi hz hsize hby hzs hsz v n xs hown ad m c news hl hnews h1 h63 hbytes hbase
  unfold Oper.wp execOp
  simp only [ho, resolve, invoke, builtin, Sem.run_bind, Sem.run_pure, Result.andThen_ok, List.map_toArray, List.map_cons, List.map_nil, hs, hx, hr]
  exact h v' w' h2 h3

set_option maxHeartbeats 1600000 in
theorem bytesC (A : Option Addr) (ls : List PR) (c : Nat) (w : World) (hp : Prs w w.heap.size A c ls) (hc : ls.length ≤ c) (hm : c ≤ maxLen) (hl : ls.length ≤ 2932031007402) :
    Calls Try.prog 14 #[.slice A ls.length c] w (PutBoth w (wrL ls) (wrE ls)) := by
  have K := Lib.hid (rightC A ls c w hp hc hm hl)
  have HP := Lib.hid hp
  clear hp
  unfold maxLen at hm
  by_cases hr : RightM ls
  · have hd : decide (RightM ls) = true := by simpa using hr
    obtain ⟨hs, hl2⟩ := right_sml hr
    have hrow := right_row hr
    have hL : wrL ls = prL (rowM ls) := by unfold wrL prL; rw [if_pos hr, if_pos hrow]
    have hE : wrE ls = prE (rowM ls) := by unfold wrE prE; rw [if_pos hr, if_pos hrow]
    rw [hL, hE]
    rw [hd] at K
    have HRL := Lib.hid (rowM_len ls)
    clear hd hr hrow hL hE hs
    obtain ⟨i0, hi, hz0, hz1, hz2⟩ := info_parts info23
    obtain ⟨vs, hv1, hv2⟩ := HP.out
    have HV : Hid (Lies w w.heap.size A c vs ∧ PsC w w.heap.size ls vs) := ⟨hv1, hv2⟩
    clear hv1 hv2
    go_enter Try.func14, Try.ntmps14
    go_wp2_with fail
    (with_reducible refine K.out.mono ?_)
    clear K
    rintro e w1 ⟨rfl, hb⟩
    have B1 := Lib.hid hb
    have hs1 := hb.size
    clear hb
    go_wp2_with (at_make; refine wpList_make_own _ rfl _ _ 52 rfl w.heap.size 23 i0 (.slice none 0 0) 1 Try.underlying52 hi hz0 hz1 _ _ _ (2 * ls.length) rfl rfl (by omega) (by rw [hz2]; omega) (by unfold maxLen; omega) hs1 ?_; intro w2 ho2 hg2)
    have HR : Hid (w2.ownsRow w.heap.size 23 1 (.slice (some ⟨w1.heap.size, 0, none⟩) 0 (2 * ls.length)) (0 * 2) (vs.take (0 * 2)) ∧ Below w.heap.size w w2) := ⟨own_eq ho2 (by omega) (by simp), B1.out.grown hg2 hs1 (fun k hk => by cases hk)⟩
    clear ho2 hg2
    go_wp2
    go_loopw [4, 6, 16] (fun v _ i wr => ∃ k : Nat, k ≤ ls.length ∧ i = .int .i64 k ∧ Hid (wr.ownsRow w.heap.size 23 1 v (k * 2) (vs.take (k * 2)) ∧ Below w.heap.size w wr)) (fun _ _ i _ => ls.length - (intOf i).toNat)
    case atStart => exact ⟨0, Nat.zero_le _, rfl, HR⟩
    case round =>
      clear HR
      obtain ⟨k, hk, rfl, HR⟩ := hrel
      by_cases hlt : k < ls.length
      · have hg : ls[k]? = some ls[k] := List.getElem?_eq_getElem hlt
        generalize ls[k] = p at hg
        obtain ⟨u, v', g1, g2, s1, s2⟩ := HV.out.2.get hg
        obtain ⟨Au, cu, rfl, _⟩ := s1
        obtain ⟨Av, cv, rfl, _⟩ := s2
        obtain ⟨ad, hA, hB, hc0⟩ := HV.out.1.2 _ _ g1
        obtain ⟨ad', hA', _, hc1⟩ := HV.out.1.2 _ _ g2
        have hst : ∃ b o, A = some ⟨b, o, none⟩ := by
          obtain ⟨b, o, _, _, h, _⟩ := HP.out.get hg
          exact ⟨b, o, h⟩
        obtain ⟨b, o, hst⟩ := hst
        subst hst
        injection hA with hA
        injection hA' with hA'
        subst hA hA'
        rw [Addr.add_mid] at hc0 hc1
        have HC : Hid (wr.rangeAt b (o + k * 2) [.slice Au p.1.length cu, .slice Av p.2.length cv]) := range2 (by rw [HR.out.2.cell (by exact hB)]; exact hc0) (by rw [HR.out.2.cell (by exact hB)]; exact hc1)
        have hbx := below_alloc wr (.cells #[.slice Au p.1.length cu, .slice Av p.2.length cv] 42)
        have hby := below_alloc (wr.alloc (.cells #[.slice Au p.1.length cu, .slice Av p.2.length cv] 42)) (.cells #[.slice Au p.1.length cu, .slice Av p.2.length cv] 23)
        have HB5 := Lib.hid (hbx.trans (hby.mono hbx.size))
        have HO5 := Lib.hid (own_belowS HR.out.1 HB5.out)
        have HT := Lib.hid (take_two g1 g2)
        have HN : Hid (∀ (j : Nat) (x : Value), [Value.slice Au p.1.length cu, .slice Av p.2.length cv][j]? = some x → ((wr.alloc (.cells #[.slice Au p.1.length cu, .slice Av p.2.length cv] 42)).alloc (.cells #[.slice Au p.1.length cu, .slice Av p.2.length cv] 23)).cell? ((Addr.mk (wr.heap.size + 1) 0 none).add j) = some x) := fun j x hx => by
          have h := heap_alloc_new (wr.alloc (.cells #[.slice Au p.1.length cu, .slice Av p.2.length cv] 42)) (.cells #[.slice Au p.1.length cu, .slice Av p.2.length cv] 23)
          rw [World.size_alloc] at h
          rw [Addr.add_mid, Nat.zero_add, cell_of_row _ _ _ _ _ _ h]
          simpa using hx
        have hsz5 : w.heap.size ≤ ((wr.alloc (.cells #[.slice Au p.1.length cu, .slice Av p.2.length cv] 42)).alloc (.cells #[.slice Au p.1.length cu, .slice Av p.2.length cv] 23)).heap.size := Nat.le_trans HR.out.2.size HB5.out.size
        clear hbx hby g1 g2 hc0 hc1 hB
        go_wp2_with (first | (refine wpList_load_mid rfl 42 (.tmp 18) rfl b (o + k * 2) rfl [.slice Au p.1.length cu, .slice Av p.2.length cv] _ HC.out Try.underlying42 rfl info42s ?_; refine Hid.out ?_) | fail)
        refine Lib.hid ?_
        go_wp2_with (first | (at_builtin; refine wpList_append_own _ rfl (.tmp 20) (.tmp 25) 52 rfl w.heap.size 23 i0 (.slice none 0 0) 1 24 Try.underlying52 hi hz0 hz1 hz2 rfl (by omega) u4 (k * 2) _ rfl HO5.out ⟨wr.heap.size + 1, 0, none⟩ 2 2 [.slice Au p.1.length cu, .slice Av p.2.length cv] rfl rfl HN.out (by simp [Value.oneCell']) (by unfold maxLen; omega) (by omega) hsz5 ?_) | fail)
        intro v6 w6 ho6 hg6 _
        have HR6 : Hid (w6.ownsRow w.heap.size 23 1 v6 ((k + 1) * 2) (vs.take ((k + 1) * 2)) ∧ Below w.heap.size w w6) := ⟨own_eq ho6 (by omega) HT.out.symm, (HR.out.2.trans (HB5.out.mono HR.out.2.size)).grown hg6 hsz5 (fun q hq => (HO5.out.lt q hq).1)⟩
        clear ho6 hg6 HO5 HB5 HN hsz5
        go_wp2
        go_roundw
        case rel => exact ⟨k + 1, by omega, by go_num, HR6⟩
        case measure => simp [intOf]; omega
      · obtain rfl : k = ls.length := by omega
        have hvl : vs.length = ls.length * 2 := HV.out.2.len
        have ho := HR.out.1
        rw [List.take_of_length_le (by omega)] at ho
        obtain ⟨A3, c3, rfl, g1, g2, g3⟩ := own_lies ho
        have K3 := Lib.hid (putRowB A3 c3 (rowM ls) wr (by rw [HRL.out]; exact g1) g2 (((HV.out.2.low HR.out.2).more HR.out.2.size).grid g3))
        rw [HRL.out] at K3
        have HB := Lib.hid HR.out.2
        clear ho HR g1 g2 g3 hvl
        go_wp2_with fail
        (with_reducible refine K3.out.mono ?_)
        clear K3
        rintro e w7 ⟨v7, rfl, ho7, hb7⟩
        have HF : Hid (w7.ownsRow w.heap.size 5 1 v7 (prL (rowM ls)).length (cellsOf (prL (rowM ls))) ∧ Below w.heap.size w w7) := ⟨own_mono ho7 HB.out.size, HB.out.trans (hb7.mono HB.out.size)⟩
        clear ho7 hb7
        go_wp2
        go_ret2
        exact ⟨v7, rfl, HF.out⟩
  · have hd : decide (RightM ls) = false := by simpa using hr
    have hL : wrL ls = [] := if_neg hr
    have hE : wrE ls = 1 := if_neg hr
    rw [hL, hE]
    rw [hd] at K
    clear hd hr hL hE
    go_enter Try.func14, Try.ntmps14
    go_wp2_with fail
    (with_reducible refine K.out.mono ?_)
    clear K
    rintro e w1 ⟨rfl, hb⟩
    have B1 := Lib.hid hb
    clear hb
    go_wp2
    go_ret2
    exact ⟨_, rfl, World.ownsRow_nil _ _ _ _, B1.out⟩
end Go.Proofs.Ytfcoccmbabmihaa
