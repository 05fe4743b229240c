/- The document's own reading of a program. -/
import Derived.Test.YtcilgkdnjgmogaaGreatDoorNM
namespace Go.Proofs.YtcilgkdnjgmogaaGreatDoor
section
open Go.RowKit
set_option maxRecDepth 100000
set_option linter.unusedSimpArgs false
set_option linter.unusedVariables false
def BadR (R : Nat) (S : Src) (fn : Nat) (args : Array Value) : Prop := ∀ c p w, Rs w R S (.bad c p) → Calls Tryz.prog fn args w (RGot R S (QE w.heap.size) w (.bad c p : Res Ex))
set_option maxHeartbeats 1600000 in
theorem primary_bad (R : Nat) (S : Src) (d : Nat) : BadR R S 259 #[.pointer (some ⟨R, 0, none⟩), .int .i64 d] := by
 intro c p w ha
 have HR := Lib.hid ha.lt
 have h0 := open_one ha zE
 have K := Lib.hid (rplaceR R S _ _ h0.1)
 have HA := Lib.hid h0
 clear ha h0
 go_enter Tryz.func259, Tryz.ntmps259
 go_wp2_with fail
 generalize w.alloc zE = w0 at *
 (with_reducible refine K.out.mono ?_)
 clear K
 rintro x w1 ⟨q, rfl, hq, b1⟩
 have h1 := HA.out.1.below b1 (Nat.le_refl _)
 have H1 := Lib.hid h1
 have HM1 : Hid (Moves R w w1 ∧ w1.heap[w.heap.size]? = some zE ∧ w.heap.size < w1.heap.size) := ⟨(Moves.of_below HA.out.2.1 (Nat.le_refl _)).below b1 (Nat.le_refl _), by rw [b1.block _ (by have := HA.out.2.2.2.1; omega)]; exact HA.out.2.2.1, by have := HA.out.2.2.2.1; have := b1.size; omega⟩
 obtain ⟨hne, i, hg⟩ := h1
 obtain ⟨c0, c1, c2, c3, c4⟩ := hg.cells
 have q1 : (((c : Nat) : Int) != 0) = true := by rw [bne_iff_ne]; omega
 clear hne hg b1 hq HA
 go_wp2_with fail
 go_quiet (fail)
 have h2 := H1.out.below (below_drewN (Below.refl w1.heap.size w1) nq) (Nat.le_refl _)
 have K := Lib.hid (rfail R S _ 41 (by omega) 41 rfl _ h2)
 have HM2 : Hid (Moves R w (w1.drewN nq) ∧ (w1.drewN nq).heap[w.heap.size]? = some zE ∧ w.heap.size < (w1.drewN nq).heap.size) := ⟨HM1.out.1.below (below_drewN (Below.refl w1.heap.size w1) nq) (Nat.le_refl _), HM1.out.2.1, HM1.out.2.2⟩
 clear h2 c0 c1 c2 c3 c4 q1
 generalize w1.drewN nq = w2 at *
 go_wp2_with fail
 (with_reducible refine K.out.mono ?_)
 clear K
 rintro x w3 ⟨rfl, m3, r3⟩
 have th := Lib.hid (there_cells (cs := [.int .i64 0, .int .i64 0, .string ⟨#[]⟩, .slice none 0 0, .int .i64 0]) (T := 202) (w := w3) (g := w.heap.size) (by rw [m3.block' HM2.out.2.2 (by have := HR.out; omega)]; exact HM2.out.2.1) rfl)
 have HF : Hid (Moves R w w3 ∧ Rs w3 R S (.bad c p)) := ⟨HM2.out.1.trans m3, r3⟩
 clear m3 r3
 go_wp2_with (refine wpList_storeN info39s rfl (.tmp 4) (.tmp 31) rfl rfl w.heap.size rfl [_, _, _, _, _] rfl rfl th.out (by simp [Value.oneCell']) ?_; intro w5 g1 g2 g3 g4 g5)
 refine bodyPost_ret (ret_cell (cs := [_, _, _, _, _]) Tryz.results259 Tryz.underlying202 rfl info39s _ _ w.heap.size rfl g1) rfl ?_
 exact ⟨HF.out.1.low g3 (Nat.le_refl _), ⟨.mk 0 0 [] [] 0, _, rfl, ⟨.slice none 0 0, rfl, ExsC.nothing _ _⟩, fun a r h => (by cases h)⟩, HF.out.2.other HR.out g4⟩
set_option maxHeartbeats 1600000 in
theorem one_bad (R : Nat) (S : Src) (d : Nat) : BadR R S 225 #[.pointer (some ⟨R, 0, none⟩), .int .i64 d] := by
 intro c0 p0 w ha
 have HR := Lib.hid ha.lt
 have h0 := open_one ha zE
 have K := Lib.hid (rplaceR R S _ _ h0.1)
 have HP := Lib.hid (primary_bad R S d)
 have HA := Lib.hid h0
 generalize hσ : (Res.bad c0 p0 : Res Unit) = σ at *
 generalize hmm : (Res.bad c0 p0 : Res Ex) = m at *
 have HSg := Lib.hid hσ
 have HMg := Lib.hid hmm
 clear hσ hmm
 clear ha h0
 go_enter Tryz.func225, Tryz.ntmps225
 go_wp2_with fail
 generalize w.alloc zE = w0 at *
 (with_reducible refine K.out.mono ?_)
 clear K
 rintro x w1 ⟨q, rfl, hq, b1⟩
 have h1 := HA.out.1.below b1 (Nat.le_refl _)
 have s0 := HA.out.2.2.2.1
 have s1 := b1.size
 have hr := HR.out
 have b2 := below_alloc w1 (.cells #[.string ⟨#[45]⟩, .string ⟨#[33]⟩] 9)
 have HI : Hid (Rs (w1.alloc (.cells #[.string ⟨#[45]⟩, .string ⟨#[33]⟩] 9)) R S σ ∧ Moves R w (w1.alloc (.cells #[.string ⟨#[45]⟩, .string ⟨#[33]⟩] 9)) ∧ w1.heap.size + 1 ≤ (w1.alloc (.cells #[.string ⟨#[45]⟩, .string ⟨#[33]⟩] 9)).heap.size ∧ (w1.alloc (.cells #[.string ⟨#[45]⟩, .string ⟨#[33]⟩] 9)).heap[w.heap.size]? = some zE ∧ RowAt (w1.alloc (.cells #[.string ⟨#[45]⟩, .string ⟨#[33]⟩] 9)) R (w1.heap.size + 1) ⟨w1.heap.size, 0, none⟩ sOne) :=
  ⟨h1.below b2 (Nat.le_refl _), ((Moves.of_below HA.out.2.1 (Nat.le_refl _)).below b1 (Nat.le_refl _)).below b2 (Nat.le_refl _), by simp, by rw [b2.block _ (by omega), b1.block _ (by omega)]; exact HA.out.2.2.1, RowAt.new w1 R sOne _ (by kernel_rfl) (by omega) _ (by omega)⟩
 have HQ := Lib.hid hq
 have HS : Hid (w.heap.size < w1.heap.size) := by show _ < _; omega
 clear h1 s0 s1 hr b1 b2 hq
 go_wp2_with fail
 generalize w1.alloc (.cells #[.string ⟨#[45]⟩, .string ⟨#[33]⟩] 9) = w2 at *
 have HAd : Hid ((Addr.mk w1.heap.size 0 none).block = w1.heap.size) := rfl
 generalize (Addr.mk w1.heap.size 0 none) = ad at *
 generalize w1.heap.size = n1 at *
 go_loopw [7] (fun i wr => ∃ k : Nat, k ≤ 2 ∧ i = .int .i64 k ∧ Hid (Rs wr R S σ ∧ Moves R w wr ∧ n1 + 1 ≤ wr.heap.size ∧ wr.heap[w.heap.size]? = some zE ∧ RowAt wr R (n1 + 1) ad sOne ∧ Nots S.z sOne σ k)) (fun i _ => 2 - (intOf i).toNat)
 case atStart => exact ⟨0, Nat.zero_le _, rfl, HI.out.1, HI.out.2.1, HI.out.2.2.1, HI.out.2.2.2.1, HI.out.2.2.2.2, Nots.zero _ _ _⟩
 case round =>
  obtain ⟨k, hk, rfl, HK⟩ := hrel
  by_cases hlt : k < 2
  ·have hg : sOne[k]? = some sOne[k] := List.getElem?_eq_getElem hlt
   generalize sOne[k] = s at hg
   have c1 := HK.out.2.2.2.2.1.2.2 k s hg
   have K := Lib.hid (rtake R S σ s _ wr HK.out.1 rfl (sOne_byn s (List.mem_of_getElem? hg)))
   have HG := Lib.hid hg
   clear hg
   cases hb : isR S.z s σ with
   | true => rw [← HSg.out] at hb; cases hb
   | false =>
    have HE : Hid (Nots S.z sOne σ (k + 1) ∧ passR S.z s σ = σ) := ⟨HK.out.2.2.2.2.2.succ HG.out hb, pass_false hb⟩
    rw [hb] at K
    clear hb
    go_wp2_with fail
    (with_reducible refine K.out.mono ?_)
    rintro x w3 ⟨rfl, h1, h2⟩
    have HF : Hid (Rs w3 R S σ ∧ Moves R w w3 ∧ n1 + 1 ≤ w3.heap.size ∧ w3.heap[w.heap.size]? = some zE ∧ RowAt w3 R (n1 + 1) ad sOne) :=
     ⟨by rw [HE.out.2] at h2; exact h2, HK.out.2.1.trans h1, Nat.le_trans HK.out.2.2.1 h1.size, by rw [h1.block' (by have := HK.out.2.2.1; have := HS.out; omega) (by have := HR.out; omega)]; exact HK.out.2.2.2.1, HK.out.2.2.2.2.1.moves h1 HK.out.2.2.1⟩
    clear h1 h2 K
    go_wp2
    go_round
    case rel => exact ⟨k + 1, by omega, by go_num, HF.out.1, HF.out.2.1, HF.out.2.2.1, HF.out.2.2.2.1, HF.out.2.2.2.2, HE.out.1⟩
    case measure => simp [intOf]; omega
  ·obtain rfl : k = 2 := by omega
   have hst := HK.out.1
   rw [← HSg.out] at hst
   have K := Lib.hid (HP.out c0 p0 wr hst)
   rw [HMg.out] at K
   go_wp2_with fail
   (with_reducible refine K.out.mono ?_)
   clear K
   rintro x w3 ⟨m3, ⟨v, xv, rfl, hq, hv⟩, r3⟩
   obtain ⟨kk, rfl, hk2, hk1⟩ := exV_cells hq
   obtain ⟨A, c, rfl⟩ := exsC_slice hk2
   have th := Lib.hid (there_cells (cs := [.int .i64 0, .int .i64 0, .string ⟨#[]⟩, .slice none 0 0, .int .i64 0]) (T := 202) (w := w3) (g := w.heap.size) (by rw [m3.block' (by have := HK.out.2.2.1; have := HS.out; omega) (by have := HR.out; omega)]; exact HK.out.2.2.2.1) rfl)
   have HF : Hid (Moves R w w3 ∧ Rs w3 R S m.unit ∧ ExsC w3 (Rng wr.heap.size w3.heap.size) v.kids (.slice A v.kids.length c) ∧ (∀ a r, m = .ok a r → v = a) ∧ w.heap.size < wr.heap.size ∧ wr.heap.size ≤ w3.heap.size) := ⟨HK.out.2.1.trans m3, r3, hk2, hv, by have := HK.out.2.2.1; have := HS.out; omega, m3.size⟩
   clear m3 hq hv r3 hk2 hk1
   go_wp2_with (refine wpList_storeN info39s rfl (.tmp 4) (.tmp 46) rfl rfl w.heap.size rfl [_, _, _, _, _] rfl rfl th.out (by simp [Value.oneCell']) ?_; intro w5 g1 g2 g3 g4 g5)
   refine bodyPost_ret (ret_cell (cs := [_, _, _, _, _]) Tryz.results225 Tryz.underlying202 rfl info39s _ _ w.heap.size rfl g1) rfl ?_
   obtain ⟨f1, f2, f3, f4, f5, f6⟩ := HF.out
   refine ⟨f1.low g3 (Nat.le_refl _), ⟨v, _, rfl, ⟨_, rfl, (f3.same fun q h => g4 q ?_).more fun q h => ⟨?_, ?_⟩⟩, f4⟩, f2.other HR.out g4⟩
   ·have : wr.heap.size ≤ q := h.1
    omega
   ·have : wr.heap.size ≤ q := h.1
    omega
   ·have : q < w3.heap.size := h.2
    omega
set_option maxHeartbeats 1600000 in
theorem level_end_bad (R : Nat) (S : Src) (d : Nat) : BadR R S 186 #[.pointer (some ⟨R, 0, none⟩), .int .i64 (5 : Nat), .int .i64 d] := by
 intro c0 p0 w ha
 have HR := Lib.hid ha.lt
 have h0 := open_one ha zE
 have K := Lib.hid (rlevels R _ h0.1.lt)
 have HP : Hid (∀ w1, Rs w1 R S (.bad c0 p0) → Calls Tryz.prog 225 #[.pointer (some ⟨R, 0, none⟩), .int .i64 d] w1 (RGot R S (QE w1.heap.size) w1 (Res.bad c0 p0 : Res Ex))) := fun w1 h => one_bad R S d c0 p0 w1 h
 have HA := Lib.hid h0
 clear ha h0
 generalize (Res.bad c0 p0 : Res Ex) = m at *
 go_enter Tryz.func186, Tryz.ntmps186
 go_wp2_with fail
 generalize w.alloc zE = w0 at *
 (with_reducible refine K.out.mono ?_)
 clear K
 rintro x w1 ⟨ad, rfl, b1, lv⟩
 have K := Lib.hid (HP.out w1 (HA.out.1.below b1 (Nat.le_refl _)))
 have N1 : Hid (Moves R w w1 ∧ w1.heap[w.heap.size]? = some zE ∧ w.heap.size < w1.heap.size) :=
  ⟨(Moves.of_below HA.out.2.1 (Nat.le_refl _)).below b1 (Nat.le_refl _), by rw [b1.block _ (by have := HA.out.2.2.2.1; omega)]; exact HA.out.2.2.1, by have := HA.out.2.2.2.1; have := b1.size; omega⟩
 clear b1 lv HA
 go_wp2_with fail
 (with_reducible refine K.out.mono ?_)
 clear K
 rintro x w3 ⟨m3, ⟨v, xv, rfl, hq, hv⟩, r3⟩
 obtain ⟨kk, rfl, hk2, hk1⟩ := exV_cells hq
 obtain ⟨A, c, rfl⟩ := exsC_slice hk2
 have th := Lib.hid (there_cells (cs := [.int .i64 0, .int .i64 0, .string ⟨#[]⟩, .slice none 0 0, .int .i64 0]) (T := 202) (w := w3) (g := w.heap.size) (by rw [m3.block' N1.out.2.2 (by have := HR.out; omega)]; exact N1.out.2.1) rfl)
 have HF : Hid (Moves R w w3 ∧ Rs w3 R S m.unit ∧ ExsC w3 (Rng w1.heap.size w3.heap.size) v.kids (.slice A v.kids.length c) ∧ (∀ a r, m = .ok a r → v = a) ∧ w.heap.size < w1.heap.size ∧ w1.heap.size ≤ w3.heap.size) := ⟨N1.out.1.trans m3, r3, hk2, hv, N1.out.2.2, m3.size⟩
 clear m3 hq hv r3 hk2 hk1
 go_wp2_with (refine wpList_storeN info39s rfl (.tmp 6) (.tmp 21) rfl rfl w.heap.size rfl [_, _, _, _, _] rfl rfl th.out (by simp [Value.oneCell']) ?_; intro w5 g1 g2 g3 g4 g5)
 refine bodyPost_ret (ret_cell (cs := [_, _, _, _, _]) Tryz.results186 Tryz.underlying202 rfl info39s _ _ w.heap.size rfl g1) rfl ?_
 obtain ⟨f1, f2, f3, f4, f5, f6⟩ := HF.out
 refine ⟨f1.low g3 (Nat.le_refl _), ⟨v, _, rfl, ⟨_, rfl, (f3.same fun q h => g4 q ?_).more fun q h => ⟨?_, ?_⟩⟩, f4⟩, f2.other HR.out g4⟩
 ·have : w1.heap.size ≤ q := h.1
  omega
 ·have : w1.heap.size ≤ q := h.1
  omega
 ·have : q < w3.heap.size := h.2
  omega
set_option maxHeartbeats 1600000 in
theorem level_step_bad (R : Nat) (S : Src) (d n : Nat) (ss : List (List Nat)) (hn : lvN[n]? = some ss) (h1 : BadR R S 186 #[.pointer (some ⟨R, 0, none⟩), .int .i64 ((n + 1 : Nat) : Int), .int .i64 d]) : BadR R S 186 #[.pointer (some ⟨R, 0, none⟩), .int .i64 n, .int .i64 d] := by
 intro c0 p0 w ha
 have HR := Lib.hid ha.lt
 have h0 := open_one ha zE
 have K := Lib.hid (rlevels R _ h0.1.lt)
 have HP := Lib.hid h1
 have HN := Lib.hid hn
 obtain ⟨hn5, hl6⟩ := lvN_len hn
 have q5 : ((n : Int) == 5) = false := by rw [beq_eq_false_iff_ne]; omega
 have hσ : ∃ σ, σ = (Res.bad c0 p0 : Res Unit) := ⟨_, rfl⟩
 obtain ⟨σ, hσ⟩ := hσ
 rw [← hσ] at h0
 have HSg := Lib.hid hσ
 have HA := Lib.hid h0
 have HP2 : Hid (∀ w1, Rs w1 R S σ → Calls Tryz.prog 186 #[.pointer (some ⟨R, 0, none⟩), .int .i64 ((n + 1 : Nat) : Int), .int .i64 d] w1 (RGot R S (QE w1.heap.size) w1 (.bad c0 p0 : Res Ex))) := fun w1 h => HP.out c0 p0 w1 (by rw [hσ] at h; exact h)
 have HU : Hid ((Res.bad c0 p0 : Res Ex).unit = σ ∧ ∀ a r, (Res.bad c0 p0 : Res Ex) = .ok a r → False) := ⟨by rw [hσ]; rfl, fun a r h => by cases h⟩
 generalize (Res.bad c0 p0 : Res Ex) = m at *
 clear ha h1 h0 hn hσ
 go_enter Tryz.func186, Tryz.ntmps186
 go_wp2_with fail
 generalize w.alloc zE = w0 at *
 (with_reducible refine K.out.mono ?_)
 clear K
 rintro x w1 ⟨ad, rfl, b1, lv⟩
 have K := Lib.hid (HP2.out w1 (HA.out.1.below b1 (Nat.le_refl _)))
 have N1 : Hid (LvAt w1 R w1.heap.size ad ∧ Moves R w w1 ∧ w1.heap[w.heap.size]? = some zE ∧ w.heap.size < w1.heap.size) :=
  ⟨lv, (Moves.of_below HA.out.2.1 (Nat.le_refl _)).below b1 (Nat.le_refl _), by rw [b1.block _ (by have := HA.out.2.2.2.1; omega)]; exact HA.out.2.2.1, by have := HA.out.2.2.2.1; have := b1.size; omega⟩
 rw [show ((n + 1 : Nat) : Int) = (n : Int) + 1 by omega] at K
 clear b1 lv HA
 go_wp2_with fail
 (with_reducible refine K.out.mono ?_)
 clear K
 rintro x w2 ⟨m2, ⟨v, xv, rfl, hq, hv⟩, r2⟩
 obtain ⟨kk, rfl, hk2, hk1⟩ := exV_cells hq
 obtain ⟨A, c, rfl⟩ := exsC_slice hk2
 have o2 := open_one r2 (exO v (.slice A v.kids.length c))
 have hs1 := N1.out.2.2.2
 have hs2 := m2.size
 have hrr := HR.out
 have m3 := m2.below o2.2.1 (Nat.le_refl _)
 have hO : ∃ x A' c', Com R S w w2.heap.size w1.heap.size ad σ x (.slice A' x.kids.length c') (w2.alloc (exO v (.slice A v.kids.length c))) := by
  have o21 := o2.1
  rw [HU.out.1] at o21
  refine ⟨v, A, c, o21, ExAt.of_block o2.2.2.1, by rw [m3.block' (by omega) (by omega)]; exact N1.out.2.2.1, N1.out.1.moves m3 (Nat.le_refl _), (hk2.same fun q h => o2.2.1.block q h.2).more fun q h => ?_, N1.out.2.1.trans m3⟩
  have h1 : w1.heap.size ≤ q := h.1
  have h2 : q < w2.heap.size := h.2
  refine ⟨⟨by omega, by omega⟩, ?_⟩
  have := o2.2.2.2.1
  omega
 have HO := Lib.hid hO
 have HZ : Hid (w1.heap.size ≤ w2.heap.size ∧ w.heap.size < w2.heap.size) := ⟨hs2, by omega⟩
 clear hO m2 hq hv r2 hk2 hk1 o2 hs1 hs2 hrr m3
 go_wp2_with fail
 generalize w2.alloc (exO v (.slice A v.kids.length c)) = w3 at *
 generalize w2.heap.size = L at *
 generalize w1.heap.size = B at *
 clear N1
 go_loopw [9, 10, 11, 12, 13] (fun v9 _ _ _ _ wr => ∃ b : Bool, v9 = .bool b ∧ Hid (∃ x A c, Com R S w L B ad σ x (.slice A x.kids.length c) wr)) (fun v9 _ _ _ _ _ => boolN v9)
 case atStart => exact ⟨true, rfl, HO.out⟩
 case round =>
  obtain ⟨b, rfl, HOut⟩ := hrel
  cases b with
  | false =>
   obtain ⟨x', A', c', com⟩ := HOut.out
   have HF := Lib.hid com
   obtain ⟨l0, l1, l2, l3, l4⟩ := com.va.cells
   have th := Lib.hid (there_cells (cs := [.int .i64 0, .int .i64 0, .string ⟨#[]⟩, .slice none 0 0, .int .i64 0]) (T := 202) (w := wr) (g := w.heap.size) com.z rfl)
   clear com
   go_wp2_with (refine wpList_storeN info39s rfl (.tmp 6) (.tmp 72) rfl rfl w.heap.size rfl [_, _, _, _, _] rfl rfl th.out (by simp [Value.oneCell']) ?_; intro w5 g1 g2 g3 g4 g5)
   refine bodyPost_ret (ret_cell (cs := [_, _, _, _, _]) Tryz.results186 Tryz.underlying202 rfl info39s _ _ w.heap.size rfl g1) rfl ?_
   have com := HF.out
   refine ⟨com.mv.low g3 (Nat.le_refl _), ⟨x', _, rfl, ⟨_, rfl, (com.kids.same fun q h => g4 q (by omega)).more fun q h => ⟨by omega, by omega⟩⟩, fun a r h => absurd h (HU.out.2 a r)⟩, ?_⟩
   rw [HU.out.1]
   exact com.st.other HR.out g4
  | true =>
   go_wp2
   go_loopw [9, 10, 11, 12, 13] (fun v9 v10 _ _ _ wi => ∃ k : Nat, v9 = .bool false ∧ v10 = .int .i64 k ∧ k ≤ ss.length ∧ Hid (∃ x A c, Com R S w L B ad σ x (.slice A x.kids.length c) wi)) (fun _ v10 _ _ _ _ => ss.length - (intOf v10).toNat)
   case atStart => exact ⟨0, rfl, rfl, Nat.zero_le _, HOut.out⟩
   case round =>
    obtain ⟨k, rfl, rfl, hk, HK⟩ := hrel
    have hcom : ∃ rd, wr.cell? (ad.add n) = some (.slice (some rd) ss.length ss.length) ∧ RowAt wr R B rd ss := by
     obtain ⟨_, _, _, h⟩ := HK.out
     exact h.lv.2.2 n ss HN.out
    obtain ⟨rd, c1, hrow⟩ := hcom
    clear hrow
    by_cases hlt : k < ss.length
    ·have hg : ss[k]? = some ss[k] := List.getElem?_eq_getElem hlt
     generalize ss[k] = s at hg
     have HG := Lib.hid hg
     obtain ⟨x1, A1, e1, com⟩ := HK.out
     have K := Lib.hid (rplaceR R S σ wr com.st)
     have HC := Lib.hid com
     clear com hg
     go_wp2_with fail
     (with_reducible refine K.out.mono ?_)
     clear K
     rintro x w4 ⟨q, rfl, hq, b4⟩
     have com4 := HC.out.moves HR.out HZ.out.2 HZ.out.1 (Moves.of_below b4 (Nat.le_refl _)) (HC.out.st.below b4 (Nat.le_refl _))
     clear c1
     obtain ⟨rd1, c1, hrow⟩ := com4.lv.2.2 n ss HN.out
     have c2 := hrow.2.2 k s HG.out
     have K := Lib.hid (rtake R S σ s _ w4 com4.st rfl (lvN_byn ss (List.mem_of_getElem? HN.out) s (List.mem_of_getElem? HG.out)))
     have hb : isR S.z s σ = false := by rw [HSg.out]; rfl
     have H4 := Lib.hid com4
     rw [hb, pass_false hb] at K
     clear com4 b4 hrow hq hb
     go_wp2_with fail
     (with_reducible refine K.out.mono ?_)
     rintro x w5 ⟨rfl, h1, h2⟩
     have HQ5 := Lib.hid (H4.out.moves HR.out HZ.out.2 HZ.out.1 h1 h2)
     clear h1 h2 K
     go_wp2
     go_roundw
     case rel => exact ⟨k + 1, rfl, by go_num, by omega, x1, A1, e1, HQ5.out⟩
     case measure => simp [intOf]; omega
    ·obtain rfl : k = ss.length := by omega
     by_cases hn2 : n = 2
     ·have q2 : ((n : Int) == 2) = true := by rw [hn2]; rfl
      clear hn2
      go_wp2
      go_roundw
      case rel => exact ⟨false, rfl, HK.out⟩
      case measure => simp [boolN]
     ·have q2 := two_ne hn2
      clear hn2
      go_wp2
      go_roundw
      case rel => exact ⟨false, rfl, HK.out⟩
      case measure => simp [boolN]
theorem level_bad (R : Nat) (S : Src) (d : Nat) : ∀ (j n : Nat), n + j = 5 → BadR R S 186 #[.pointer (some ⟨R, 0, none⟩), .int .i64 n, .int .i64 d]
 | 0, n, h => by
  obtain rfl : n = 5 := by omega
  exact level_end_bad R S d
 | j + 1, n, h => by
  have hn : lvN[n]? = some (lvN[n]'(by show n < 5; omega)) := List.getElem?_eq_getElem _
  exact level_step_bad R S d n _ hn (level_bad R S d j (n + 1) (by omega))
end
section
open Go.RowKit
set_option maxRecDepth 100000
set_option linter.unusedSimpArgs false
set_option linter.unusedVariables false
theorem level_all (R : Nat) (S : Src) (d : Nat) (one : Par Ex) (h1 : OneR R S d one) (ht : Takes one) (hd : d < 100) : ∀ (j n : Nat), n + j = 5 → LevelR R S n d (lvP S.z one n)
 | 0, n, h => by
  obtain rfl : n = 5 := by omega
  exact level_end R S d one h1 hd
 | j + 1, n, h => by
  have hn : lvN[n]? = some (lvN[n]'(by show n < 5; omega)) := List.getElem?_eq_getElem _
  exact level_step R S d n _ hn one ht (level_all R S d one h1 ht hd j (n + 1) (by omega)) hd
set_option maxHeartbeats 1600000 in
theorem rexpr_gen (R : Nat) (S : Src) (d : Nat) (e : Par Ex) (hl : ∀ σ w, Rs w R S (deepR S.z d σ) → Calls Tryz.prog 186 #[.pointer (some ⟨R, 0, none⟩), .int .i64 0, .int .i64 d] w (RGot R S (QE w.heap.size) w (σ.bind fun _ ts => e ts))) : ExprR R S d e := by
 intro σ w ha
 have HR := Lib.hid ha.lt
 have h0 := open_one ha zE
 have K := Lib.hid (rdeep R S σ d _ h0.1)
 have HP := Lib.hid (fun w1 h => hl σ w1 h)
 have HA := Lib.hid h0
 clear ha hl h0
 generalize (σ.bind fun _ ts => e ts) = m at *
 go_enter Tryz.func150, Tryz.ntmps150
 go_wp2_with fail
 generalize w.alloc zE = w0 at *
 (with_reducible refine K.out.mono ?_)
 clear K
 rintro x w1 ⟨rfl, b1, r1⟩
 have K := Lib.hid (HP.out w1 r1)
 have N1 : Hid (Moves R w w1 ∧ w1.heap[w.heap.size]? = some zE ∧ w.heap.size < w1.heap.size) :=
  ⟨(Moves.of_below HA.out.2.1 (Nat.le_refl _)).trans b1, by rw [b1.block' (by have := HA.out.2.2.2.1; omega) (by have := HR.out; omega)]; exact HA.out.2.2.1, by have := HA.out.2.2.2.1; have := b1.size; omega⟩
 clear b1 r1 HA
 go_wp2_with fail
 (with_reducible refine K.out.mono ?_)
 clear K
 rintro x w3 ⟨m3, ⟨v, xv, rfl, hq, hv⟩, r3⟩
 obtain ⟨kk, rfl, hk2, hk1⟩ := exV_cells hq
 obtain ⟨A, c, rfl⟩ := exsC_slice hk2
 have th := Lib.hid (there_cells (cs := [.int .i64 0, .int .i64 0, .string ⟨#[]⟩, .slice none 0 0, .int .i64 0]) (T := 202) (w := w3) (g := w.heap.size) (by rw [m3.block' N1.out.2.2 (by have := HR.out; omega)]; exact N1.out.2.1) rfl)
 have HF : Hid (Moves R w w3 ∧ Rs w3 R S m.unit ∧ ExsC w3 (Rng w1.heap.size w3.heap.size) v.kids (.slice A v.kids.length c) ∧ (∀ a r, m = .ok a r → v = a) ∧ w.heap.size < w1.heap.size ∧ w1.heap.size ≤ w3.heap.size) := ⟨N1.out.1.trans m3, r3, hk2, hv, N1.out.2.2, m3.size⟩
 clear m3 hq hv r3 hk2 hk1
 go_wp2_with (refine wpList_storeN info39s rfl (.tmp 4) (.tmp 10) rfl rfl w.heap.size rfl [_, _, _, _, _] rfl rfl th.out (by simp [Value.oneCell']) ?_; intro w5 g1 g2 g3 g4 g5)
 refine bodyPost_ret (ret_cell (cs := [_, _, _, _, _]) Tryz.results150 Tryz.underlying202 rfl info39s _ _ w.heap.size rfl g1) rfl ?_
 obtain ⟨f1, f2, f3, f4, f5, f6⟩ := HF.out
 refine ⟨f1.low g3 (Nat.le_refl _), ⟨v, _, rfl, ⟨_, rfl, (f3.same fun q h => g4 q ?_).more fun q h => ⟨?_, ?_⟩⟩, f4⟩, f2.other HR.out g4⟩
 ·have : w1.heap.size ≤ q := h.1
  omega
 ·have : w1.heap.size ≤ q := h.1
  omega
 ·have : q < w3.heap.size := h.2
  omega
theorem rexpr_step (R : Nat) (S : Src) (d : Nat) (one : Par Ex) (h1 : OneR R S d one) (ht : Takes one) (hd : d ≤ 32) : ExprR R S d (levelsP S.z one) :=
 rexpr_gen R S d _ fun σ w h => level_all R S d one h1 ht (by omega) 5 0 rfl σ w (by unfold deepR at h; rw [if_pos hd] at h; exact h)
theorem rexpr_deep (R : Nat) (S : Src) : ExprR R S 33 (fun ts => failT S.z 42 ts) :=
 rexpr_gen R S 33 _ fun σ w h => by
  unfold deepR at h
  rw [if_neg (by omega)] at h
  cases σ with
  | ok u ts => exact level_bad R S 33 5 0 rfl 42 (peekT S.z ts).place w h
  | bad c p => exact level_bad R S 33 5 0 rfl c p w h
theorem both_okR (R : Nat) (S : Src) (hsm : S.all.length ≤ 4096) : ∀ g, g ≤ 32 → ExprR R S (33 - g) (exprP S.z g) ∧ (0 < g → OneR R S (33 - g) (oneP S.z g))
 | 0, _ => ⟨rexpr_deep R S, fun h => absurd h (by omega)⟩
 | g + 1, hg => by
  have ih := both_okR R S hsm g (by omega)
  have e1 : 33 - (g + 1) + 1 = 33 - g := by omega
  have he : ExprR R S (33 - (g + 1) + 1) (exprP S.z g) := by rw [e1]; exact ih.1
  have ho : OneR R S (33 - (g + 1)) (oneP S.z (g + 1)) := rone R S (33 - (g + 1)) (exprP S.z g) (oneP S.z g) (fun h => by rw [e1]; exact ih.2 (by omega)) (fun h ts => by
   have : g = 0 := by omega
   subst this
   rfl) (rprimary R S (33 - (g + 1)) (exprP S.z g) he (rnamed R S (33 - (g + 1)) (exprP S.z g) he (takes_expr S.z g) (by omega) hsm) (by omega)) (by omega)
  exact ⟨rexpr_step R S (33 - (g + 1)) (oneP S.z (g + 1)) ho (takes_both S.z (g + 1)).2 (by omega), fun _ => ho⟩
theorem exprR_ok (R : Nat) (S : Src) (hsm : S.all.length ≤ 4096) (d : Nat) (hd : 1 ≤ d) (hd2 : d ≤ 33) : ExprR R S d (exprP S.z (33 - d)) := by
 have := (both_okR R S hsm (33 - d) (by omega)).1
 rw [show 33 - (33 - d) = d by omega] at this
 exact this
end
end Go.Proofs.YtcilgkdnjgmogaaGreatDoor
