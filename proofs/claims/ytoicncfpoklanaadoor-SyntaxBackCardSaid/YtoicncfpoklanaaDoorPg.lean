/- What the program's reader makes of parts in parentheses with commas between them. Conditions: the reader and its tokens lie in memory; the function that is handed over reads a part as said, and takes a token at least. -/
import Derived.Test.YtoicncfpoklanaaDoorPf
namespace Go.Proofs.YtoicncfpoklanaaDoor
open Go.RowKit
set_option maxRecDepth 100000
set_option linter.unusedSimpArgs false

/-- a call that reads comes to m: it returns nothing, and Inv holds, or panics, and J holds -/
def GotI {α : Type} (R : Nat) (S : Src) (Inv : α → World → Prop) (J : World → Prop) (m : Res α) (e : Ending) (w' : World) : Prop :=
  (∃ v r, m = .ok v r ∧ e = .returned (.tuple #[]) ∧ Inv v w' ∧ At w' R S r) ∨ (∃ c q, m = .bad c q ∧ e = Fault c q ∧ J w')
/-- a function value that reads a part -/
structure PartOk {α : Type} (R : Nat) (S : Src) (fn : Nat) (caps : Array Value) (p : Par α) (Inv : List α → World → Prop) (J : World → Prop) : Prop where
  ent : EntC fn
  takes : Takes p
  inv : ∀ l w w', Inv l w → Moves R w w' → Inv l w'
  toJ : ∀ l w, Inv l w → J w
  call : ∀ l w ts, Inv l w → At w R S ts → l.length + ts.length ≤ S.all.length → Calls Tryd.prog fn caps w (GotI R S (fun v w' => Inv (l ++ [v]) w') J (p ts))
theorem At.len {w : World} {R : Nat} {S : Src} {ts : List Tok} (h : At w R S ts) : ts.length ≤ S.all.length := by
  obtain ⟨_, i, _, rfl, _⟩ := h
  simp
theorem moreL_true {α : Type} {z : Nat} {p : Par α} {f : Nat} {l : List α} {ts : List Tok} (h : seesT z [[44]] ts = true) : moreL z p (f + 1) l ts = (p ts.tail).bind fun y r => moreL z p f (l ++ [y]) r := by
  rw [moreL, if_pos h]
theorem moreL_false {α : Type} {z : Nat} {p : Par α} {l : List α} {ts : List Tok} (h : seesT z [[44]] ts = false) : ∀ f, moreL z p f l ts = (wantT z [41] ts).bind fun _ r => .ok l r
  | 0 => rfl
  | f + 1 => by rw [moreL, if_neg (by simp [h])]
def LstS {α : Type} (R : Nat) (S : Src) (p : Par α) (Inv : List α → World → Prop) (m : Res (List α)) (wr : World) : Prop :=
  ∃ l ts f, Inv l wr ∧ At wr R S ts ∧ ts.length ≤ f ∧ l.length + ts.length ≤ S.all.length ∧ m = moreL S.z p f l ts

set_option maxHeartbeats 1600000 in
theorem list {α : Type} (R : Nat) (S : Src) (fn : Nat) (caps : Array Value) (p : Par α) (Inv : List α → World → Prop) (J : World → Prop) (hp : PartOk R S fn caps p Inv J) (ts : List Tok) (w : World) (ha : At w R S ts) (h0 : Inv [] w) :
    Calls Tryd.prog 39 #[.pointer (some ⟨R, 0, none⟩), .func (.func fn) #[] caps] w (GotI R S Inv J (listP S.z p ts)) := by
  have he := hp.ent
  unfold EntC at he
  have HP := Lib.hid hp
  have K := Lib.hid (want R S ts [40] ⟨#[40]⟩ w ha (by kernel_rfl) (by unfold Byn; decide))
  have HI := Lib.hid h0
  have HW : Hid (listP S.z p ts = (wantT S.z [40] ts).bind fun _ r => if seesT S.z [[41]] r then .ok [] r.tail else (p r).bind fun x r' => moreL S.z p r'.length [x] r') := rfl
  clear ha hp h0
  generalize listP S.z p ts = m at *
  go_enter Tryd.func39, Tryd.ntmps39
  go_wp2_with fail
  refine K.out.mono ?_
  clear K
  rintro e' w1 ⟨hm, ⟨u, r, xv, hr, rfl, hq, ha1⟩ | ⟨c, q, hr, rfl⟩⟩
  · rw [show xv = .tuple #[] from hq]
    have K := Lib.hid (accept R S r [41] ⟨#[41]⟩ w1 ha1 (by kernel_rfl) (by unfold Byn; decide))
    have I1 := Lib.hid (HP.out.inv _ _ _ HI.out hm)
    have HW1 : Hid (m = if seesT S.z [[41]] r then .ok [] r.tail else (p r).bind fun x r' => moreL S.z p r'.length [x] r') := by show _ = _; rw [HW.out, hr]; rfl
    clear hm hr hq ha1
    cases hs : seesT S.z [[41]] r with
    | true =>
      rw [hs] at K HW1
      clear hs
      go_wp2_with fail
      refine K.out.mono ?_
      clear K
      rintro e' w2 ⟨rfl, hm, ha2⟩
      have HQ : Hid (Inv [] w2 ∧ At w2 R S r.tail) := ⟨HP.out.inv _ _ _ I1.out hm, ha2⟩
      clear hm ha2
      go_wp2
      refine bodyPost_ret (results_none rfl _ _ _) rfl ?_
      exact .inl ⟨[], r.tail, by rw [HW1.out]; rfl, rfl, HQ.out.1, HQ.out.2⟩
    | false =>
      rw [hs] at K HW1
      clear hs
      go_wp2_with fail
      refine K.out.mono ?_
      clear K
      rintro e' w2 ⟨rfl, hm, ha2⟩
      have ha2' : At w2 R S r := ha2
      have I2 := HP.out.inv _ _ _ I1.out hm
      have hlen := ha2'.len
      have HLen := Lib.hid hlen
      have K := Lib.hid (HP.out.call [] w2 r I2 ha2' (by simpa using hlen))
      have HW2 : Hid (m = (p r).bind fun x r' => moreL S.z p r'.length [x] r') := by show _ = _; rw [HW1.out]; rfl
      clear hm ha2 I2 ha2' hlen
      go_wp2_with fail
      refine K.out.mono ?_
      clear K
      rintro e' w3 (⟨x, r3, hr, rfl, I3, ha3⟩ | ⟨c, q, hr, rfl, hj⟩)
      · have HG : Hid (LstS R S p Inv m w3) := by
          have ht := HP.out.takes _ _ _ hr
          have hl := HLen.out
          refine ⟨[x], r3, r3.length, I3, ha3, Nat.le_refl _, by simp; omega, ?_⟩
          rw [HW2.out, hr]
          rfl
        clear I3 ha3 hr
        go_wp2
        go_loopw [] (fun wr => LstS R S p Inv m wr) (fun wr => S.all.length - nextOf R wr)
        case atStart => exact HG.out
        case round =>
          obtain ⟨l, ts2, f, hI, hA, hf, hll, hmr⟩ := hrel
          have K := Lib.hid (accept R S ts2 [44] ⟨#[44]⟩ wr hA (by kernel_rfl) (by unfold Byn; decide))
          have HQ : Hid (Inv l wr ∧ At wr R S ts2 ∧ ts2.length ≤ f ∧ l.length + ts2.length ≤ S.all.length ∧ m = moreL S.z p f l ts2) := ⟨hI, hA, hf, hll, hmr⟩
          clear hI hA hf hll hmr
          cases hs : seesT S.z [[44]] ts2 with
          | true =>
            have HS := Lib.hid hs
            rw [hs] at K
            clear hs
            go_wp2_with fail
            refine K.out.mono ?_
            clear K
            rintro e' w4 ⟨rfl, hm, ha4⟩
            have ha4' : At w4 R S ts2.tail := ha4
            have hcons := sees_cons HS.out
            have hq := HQ.out
            have K := Lib.hid (HP.out.call l w4 ts2.tail (HP.out.inv _ _ _ hq.1 hm) ha4' (by have := hq.2.2.2.1; omega))
            have HC := Lib.hid hcons
            clear hm ha4 ha4' hcons hq
            go_wp2_with fail
            refine K.out.mono ?_
            clear K
            rintro e' w5 (⟨x5, r5, hr, rfl, I5, ha5⟩ | ⟨c, q, hr, rfl, hj⟩)
            · have HR : Hid (p ts2.tail = .ok x5 r5 ∧ Inv (l ++ [x5]) w5 ∧ At w5 R S r5) := ⟨hr, I5, ha5⟩
              clear hr I5 ha5
              go_wp2
              go_roundw
              case rel =>
                obtain ⟨hI, hA, hf, hll, hmr⟩ := HQ.out
                have ht := HP.out.takes _ _ _ HR.out.1
                have hc := HC.out
                obtain ⟨f', rfl⟩ : ∃ f', f = f' + 1 := ⟨f - 1, by omega⟩
                refine ⟨l ++ [x5], r5, f', HR.out.2.1, HR.out.2.2, by omega, by simp; omega, ?_⟩
                rw [hmr, moreL_true HS.out, HR.out.1]
                rfl
              case measure =>
                have ht := HP.out.takes _ _ _ HR.out.1
                have hc := HC.out
                rw [HQ.out.2.1.next, HR.out.2.2.next]
                omega
            · have HJ := Lib.hid hj
              clear hj
              go_wp2
              obtain ⟨hI, hA, hf, hll, hmr⟩ := HQ.out
              have hc := HC.out
              obtain ⟨f', rfl⟩ : ∃ f', f = f' + 1 := ⟨f - 1, by omega⟩
              exact ⟨rfl, .inr ⟨c, q, by rw [hmr, moreL_true HS.out, hr]; rfl, rfl, HJ.out⟩⟩
          | false =>
            have HS := Lib.hid hs
            rw [hs] at K
            clear hs
            go_wp2_with fail
            refine K.out.mono ?_
            clear K
            rintro e' w4 ⟨rfl, hm, ha4⟩
            have ha4' : At w4 R S ts2 := ha4
            have I4 := Lib.hid (HP.out.inv _ _ _ HQ.out.1 hm)
            have K := Lib.hid (want R S ts2 [41] ⟨#[41]⟩ w4 ha4' (by kernel_rfl) (by unfold Byn; decide))
            have HWm : Hid (m = (wantT S.z [41] ts2).bind fun _ r => .ok l r) := by show _ = _; rw [HQ.out.2.2.2.2, moreL_false HS.out]
            clear hm ha4 ha4'
            go_wp2_with fail
            refine K.out.mono ?_
            clear K
            rintro e' w5 ⟨hm, ⟨u, r5, xu, hr, rfl, hq, ha5⟩ | ⟨c, q, hr, rfl⟩⟩
            · rw [show xu = .tuple #[] from hq]
              have HF : Hid (Inv l w5 ∧ At w5 R S r5 ∧ m = .ok l r5) := ⟨HP.out.inv _ _ _ I4.out hm, ha5, by rw [HWm.out, hr]; rfl⟩
              clear hm hr hq ha5
              go_wp2
              first | go_end0 | refine bodyPost_ret (results_none rfl _ _ _) rfl ?_
              exact .inl ⟨l, r5, HF.out.2.2, rfl, HF.out.1, HF.out.2.1⟩
            · have HJ := Lib.hid (HP.out.toJ _ _ (HP.out.inv _ _ _ I4.out hm))
              clear hm
              go_wp2
              exact ⟨rfl, .inr ⟨c, q, by rw [HWm.out, hr]; rfl, rfl, HJ.out⟩⟩
      · have HQ := Lib.hid hj
        clear hj
        go_wp2
        exact ⟨rfl, .inr ⟨c, q, by rw [HW2.out, hr]; rfl, rfl, HQ.out⟩⟩
  · have HQ := Lib.hid (HP.out.toJ _ _ (HP.out.inv _ _ _ HI.out hm))
    clear hm
    go_wp2
    exact ⟨rfl, .inr ⟨c, q, by rw [HW.out, hr]; rfl, rfl, HQ.out⟩⟩
end Go.Proofs.YtoicncfpoklanaaDoor
