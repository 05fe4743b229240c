/- Words of this proof for rows of pairs in memory, and their laws; how byte strings are compared. Conditions: those in each theorem. -/
import Derived.Test.YtncbbjodianmoaaSp
import Derived.Test.YtncbbjodianmoaaY
import Derived.Test.YtncbbjodianmoaaHeld
import Derived.Deep.MidRow
import Derived.Deep.Slices
import Derived.Deep.QuietTactic
import Derived.BigQuiet
import Derived.Lib.Bytealg
import Derived.Lib.Bytes
import Derived.Lib.Hide
import Derived.Maps.AppendAt
namespace Go.Proofs.Ytncbbjodianmoaa
open Go.RowKit

/-- the slice u reads as the byte string l, below block B -/
def SB (w : World) (B : Nat) (u : Value) (l : List Int) : Prop := ∃ A c, u = .slice A l.length c ∧ l.length ≤ c ∧ c ≤ maxLen ∧ Lies w B A c (cellsOf l) ∧ Byt l
theorem SB.below {w w' : World} {B : Nat} {u : Value} {l : List Int} (h : SB w B u l) (hb : Below B w w') : SB w' B u l := by
  obtain ⟨A, c, h1, h2, h3, h4, h5⟩ := h
  exact ⟨A, c, h1, h2, h3, h4.below hb, h5⟩
theorem SB.more {w : World} {B B' : Nat} {u : Value} {l : List Int} (h : SB w B u l) (hB : B ≤ B') : SB w B' u l := by
  obtain ⟨A, c, h1, h2, h3, h4, h5⟩ := h
  exact ⟨A, c, h1, h2, h3, h4.more hB, h5⟩
theorem SB.byt {w : World} {B : Nat} {u : Value} {l : List Int} (h : SB w B u l) : Byt l := h.choose_spec.choose_spec.2.2.2.2
theorem SB.str {w : World} {B : Nat} {u : Value} {l : List Int} (h : SB w B u l) : (convert 30 9 u).run Try.prog w = .ok (.string (strOfNums l)) w := by
  obtain ⟨A, c, rfl, h2, h3, h4, h5⟩ := h
  exact run_string_lies w 30 9 5 Try.underlying30 Try.underlying5 Try.underlying9 B A l.length c l rfl h4
theorem SB.one {w : World} {B : Nat} {u : Value} {l : List Int} (h : SB w B u l) : u.oneCell' = true := by
  obtain ⟨A, c, rfl, _⟩ := h
  rfl
theorem SB.nil (w : World) (B : Nat) : SB w B (.slice none 0 0) [] := ⟨none, 0, rfl, Nat.le_refl _, Nat.zero_le _, Lies.nothing _ _, Byt.nil⟩

/-- the cells vs read as the pairs l -/
inductive PsC (w : World) (B : Nat) : List PR → List Value → Prop
  | nil : PsC w B [] []
  | cons {p : PR} {l : List PR} {u v : Value} {vs : List Value} (h1 : SB w B u p.1) (h2 : SB w B v p.2) (h3 : PsC w B l vs) : PsC w B (p :: l) (u :: v :: vs)
theorem PsC.mono {w w' : World} {B B' : Nat} (hm : ∀ u l, SB w B u l → SB w' B' u l) {l : List PR} {vs : List Value} (h : PsC w B l vs) : PsC w' B' l vs := by
  induction h with
  | nil => exact .nil
  | cons h1 h2 _ ih => exact .cons (hm _ _ h1) (hm _ _ h2) ih
theorem PsC.low {w w' : World} {B : Nat} {l : List PR} {vs : List Value} (h : PsC w B l vs) (hb : Below B w w') : PsC w' B l vs := h.mono fun _ _ h => h.below hb
theorem PsC.more {w : World} {B B' : Nat} {l : List PR} {vs : List Value} (h : PsC w B l vs) (hB : B ≤ B') : PsC w B' l vs := h.mono fun _ _ h => h.more hB
theorem PsC.len {w : World} {B : Nat} {l : List PR} {vs : List Value} (h : PsC w B l vs) : vs.length = l.length * 2 := by
  induction h with
  | nil => rfl
  | cons _ _ _ ih => simp only [List.length_cons, ih]; omega
theorem PsC.one {w : World} {B : Nat} {l : List PR} {vs : List Value} (h : PsC w B l vs) : ∀ u ∈ vs, u.oneCell' = true := by
  induction h with
  | nil => intro u hu; cases hu
  | cons h1 h2 _ ih =>
    intro u hu
    rcases List.mem_cons.1 hu with e | e
    · rw [e]; exact h1.one
    · rcases List.mem_cons.1 e with e | e
      · rw [e]; exact h2.one
      · exact ih u e
theorem PsC.append {w : World} {B : Nat} {l m : List PR} {vs us : List Value} (h : PsC w B l vs) (h' : PsC w B m us) : PsC w B (l ++ m) (vs ++ us) := by
  induction h with
  | nil => exact h'
  | cons h1 h2 _ ih => exact .cons h1 h2 ih
theorem PsC.take {w : World} {B : Nat} {l : List PR} {vs : List Value} (h : PsC w B l vs) : ∀ k, PsC w B (l.take k) (vs.take (k * 2)) := by
  induction h with
  | nil => intro k; simp; exact .nil
  | @cons p l u v vs h1 h2 _ ih =>
    intro k
    cases k with
    | zero => simp; exact .nil
    | succ k =>
      rw [show (k + 1) * 2 = k * 2 + 1 + 1 by omega, List.take_succ_cons, List.take_succ_cons, List.take_succ_cons]
      exact .cons h1 h2 (ih k)
theorem PsC.drop {w : World} {B : Nat} {l : List PR} {vs : List Value} (h : PsC w B l vs) : ∀ k, PsC w B (l.drop k) (vs.drop (k * 2)) := by
  induction h with
  | nil => intro k; simp; exact .nil
  | @cons p l u v vs h1 h2 h3 ih =>
    intro k
    cases k with
    | zero => exact .cons h1 h2 h3
    | succ k =>
      rw [show (k + 1) * 2 = k * 2 + 1 + 1 by omega, List.drop_succ_cons, List.drop_succ_cons, List.drop_succ_cons]
      exact ih k
theorem PsC.get {w : World} {B : Nat} {l : List PR} {vs : List Value} (h : PsC w B l vs) : ∀ {i : Nat} {p : PR}, l[i]? = some p → ∃ u v, vs[i * 2]? = some u ∧ vs[i * 2 + 1]? = some v ∧ SB w B u p.1 ∧ SB w B v p.2 := by
  induction h with
  | nil => intro i p hp; simp at hp
  | @cons q l u v vs h1 h2 _ ih =>
    intro i p hp
    cases i with
    | zero =>
      simp at hp
      subst hp
      exact ⟨u, v, rfl, rfl, h1, h2⟩
    | succ i =>
      obtain ⟨u', v', g1, g2, g3⟩ := ih (i := i) (p := p) (by simpa using hp)
      refine ⟨u', v', ?_, ?_, g3⟩
      · rw [show (i + 1) * 2 = i * 2 + 1 + 1 by omega]; simpa using g1
      · rw [show (i + 1) * 2 + 1 = i * 2 + 1 + 1 + 1 by omega]; simpa using g2

/-- the slice of pairs at A, of capacity c, reads as ls, all of it below B -/
def Prs (w : World) (B : Nat) (A : Option Addr) (c : Nat) (ls : List PR) : Prop := ∃ vs, Lies w B A c vs ∧ PsC w B ls vs
theorem Prs.nothing (w : World) (B : Nat) : Prs w B none 0 [] := ⟨[], Lies.nothing _ _, .nil⟩
theorem Prs.below {w w' : World} {B : Nat} {A : Option Addr} {c : Nat} {ls : List PR} (h : Prs w B A c ls) (hb : Below B w w') : Prs w' B A c ls := by
  obtain ⟨vs, h1, h2⟩ := h
  exact ⟨vs, h1.below hb, h2.low hb⟩
theorem Prs.more {w : World} {B B' : Nat} {A : Option Addr} {c : Nat} {ls : List PR} (h : Prs w B A c ls) (hB : B ≤ B') : Prs w B' A c ls := by
  obtain ⟨vs, h1, h2⟩ := h
  exact ⟨vs, h1.more hB, h2.more hB⟩
theorem Prs.none_nil {w : World} {B : Nat} {c : Nat} {ls : List PR} (h : Prs w B none c ls) : ls = [] ∧ c = 0 := by
  obtain ⟨vs, h1, h2⟩ := h
  have h3 := h1.none_nil
  have h4 := h2.len
  rw [h3.1] at h4
  exact ⟨List.eq_nil_of_length_eq_zero (by simp at h4; omega), h3.2⟩
theorem Prs.get {w : World} {B : Nat} {A : Option Addr} {c : Nat} {ls : List PR} (h : Prs w B A c ls) {i : Nat} {p : PR} (hp : ls[i]? = some p) :
    ∃ b o u v, A = some ⟨b, o, none⟩ ∧ b < B ∧ w.cell? ⟨b, o + i * 2, none⟩ = some u ∧ w.cell? ⟨b, o + (i * 2 + 1), none⟩ = some v ∧ SB w B u p.1 ∧ SB w B v p.2 := by
  obtain ⟨vs, h1, h2⟩ := h
  obtain ⟨u, v, g1, g2, g3, g4⟩ := h2.get hp
  obtain ⟨ad, rfl, hB, hc⟩ := h1.2 _ _ g1
  obtain ⟨ad', e, _, hc'⟩ := h1.2 _ _ g2
  injection e with e
  subst e
  obtain ⟨b, o, s⟩ := ad
  have hs : s = none := by
    have hl : i * 2 < vs.length := (List.getElem?_eq_some_iff.1 g1).1
    obtain ⟨ad0, e0, _, hc0⟩ := h1.2 0 _ (List.getElem?_eq_getElem (by omega))
    injection e0 with e0
    subst e0
    exact World.cell?_spot hc0
  subst hs
  rw [Addr.add_mid] at hc hc'
  exact ⟨b, o, u, v, rfl, hB, hc, hc', g3, g4⟩
theorem range2 {w : World} {b o : Nat} {u v : Value} (h1 : w.cell? ⟨b, o, none⟩ = some u) (h2 : w.cell? ⟨b, o + 1, none⟩ = some v) : w.rangeAt b o [u, v] := by
  intro j x hx
  match j, hx with
  | 0, hx => simp at hx; subst hx; exact h1
  | 1, hx => simp at hx; subst hx; exact h2
theorem range2' {w : World} {b o : Nat} {u v : Value} (h : w.rangeAt b o [u, v]) : w.cell? ⟨b, o, none⟩ = some u ∧ w.cell? ⟨b, o + 1, none⟩ = some v := ⟨h 0 _ rfl, h 1 _ rfl⟩

/-- what a call owns, as a slice that lies, whatever the size of an element -/
theorem own_liesS {w : World} {base : Nat} {e : TypeId} {s : Nat} {v : Value} {n : Nat} {xs : List Value} (h : w.ownsRow base e s v n xs) :
    ∃ A c, v = .slice A n c ∧ n ≤ c ∧ c ≤ maxLen ∧ Lies w w.heap.size A c xs := by
  rcases h.2 with ⟨rfl, rfl⟩ | ⟨g, cap, cur, rfl, hb, hg, hn, hm, hs, ht⟩
  · have : xs = [] := List.eq_nil_of_length_eq_zero (by simpa using h.1)
    subst this
    exact ⟨none, 0, rfl, Nat.le_refl _, Nat.zero_le _, Lies.nothing _ _⟩
  · exact ⟨_, _, rfl, hn, hm, (fun e => by cases e), fun j u hu => ⟨_, rfl, (h.lt g rfl).2, h.cells rfl j u hu⟩⟩
theorem own_prs {w : World} {base : Nat} {v : Value} {n : Nat} {xs : List Value} {ls : List PR} (h : w.ownsRow base 47 2 v n xs) (hp : PsC w w.heap.size ls xs) :
    ∃ A c, v = .slice A ls.length c ∧ ls.length ≤ c ∧ c ≤ maxLen ∧ Prs w w.heap.size A c ls := by
  have h1 := hp.len
  have h2 := h.1
  obtain rfl : n = ls.length := by omega
  obtain ⟨A, c, e1, e2, e3, e4⟩ := own_liesS h
  exact ⟨A, c, e1, e2, e3, xs, e4, hp⟩

/-! comparing -/
theorem byt_inj : ∀ {a b : List Int}, Byt a → Byt b → Lib.bytesOf a = Lib.bytesOf b → a = b
  | [], [], _, _, _ => rfl
  | [], _ :: _, _, _, h => by simp [Lib.bytesOf] at h
  | _ :: _, [], _, _, h => by simp [Lib.bytesOf] at h
  | x :: a, y :: b, ha, hb, h => by
    have hx := ha x (List.mem_cons_self ..)
    have hy := hb y (List.mem_cons_self ..)
    simp only [Lib.bytesOf, List.map_cons, List.cons.injEq] at h
    have h1 := congrArg UInt8.toNat h.1
    simp only [UInt8.toNat_ofNat'] at h1
    rw [byt_inj (ha.sub fun z hz => List.mem_cons_of_mem _ hz) (hb.sub fun z hz => List.mem_cons_of_mem _ hz) h.2, show x = y by omega]
theorem str_eq {a b : List Int} (ha : Byt a) (hb : Byt b) : ((strOfNums a).toList == (strOfNums b).toList) = decide (a = b) := by
  rw [Lib.strOfNums_toList, Lib.strOfNums_toList, Bool.eq_iff_iff]
  simp only [beq_iff_eq, decide_eq_true_eq]
  exact ⟨byt_inj ha hb, fun h => by rw [h]⟩
theorem u8_lt {x y : Int} (hx : 0 ≤ x ∧ x < 256) (hy : 0 ≤ y ∧ y < 256) : (UInt8.ofNat x.toNat < UInt8.ofNat y.toNat) ↔ x < y := by
  rw [UInt8.lt_iff_toNat_lt]
  simp only [UInt8.toNat_ofNat']
  omega
theorem cmp_bytes : ∀ {a b : List Int}, Byt a → Byt b → Lib.compareBytes (Lib.bytesOf a) (Lib.bytesOf b) = cmpB a b
  | [], [], _, _ => rfl
  | [], _ :: _, _, _ => rfl
  | _ :: _, [], _, _ => rfl
  | x :: a, y :: b, ha, hb => by
    have hx := ha x (List.mem_cons_self ..)
    have hy := hb y (List.mem_cons_self ..)
    have ih := cmp_bytes (ha.sub fun z hz => List.mem_cons_of_mem _ hz) (hb.sub fun z hz => List.mem_cons_of_mem _ hz)
    show (if UInt8.ofNat x.toNat < UInt8.ofNat y.toNat then (-1 : Int) else if UInt8.ofNat y.toNat < UInt8.ofNat x.toNat then 1 else Lib.compareBytes (Lib.bytesOf a) (Lib.bytesOf b)) = _
    unfold cmpB
    simp only [u8_lt hx hy, u8_lt hy hx, ih]
theorem less_bytes : ∀ {a b : List Int}, Byt a → Byt b → Op.bytesLess (Lib.bytesOf a) (Lib.bytesOf b) = decide (cmpB a b < 0)
  | [], [], _, _ => rfl
  | [], _ :: _, _, _ => rfl
  | _ :: _, [], _, _ => rfl
  | x :: a, y :: b, ha, hb => by
    have hx := ha x (List.mem_cons_self ..)
    have hy := hb y (List.mem_cons_self ..)
    have ih := less_bytes (ha.sub fun z hz => List.mem_cons_of_mem _ hz) (hb.sub fun z hz => List.mem_cons_of_mem _ hz)
    show (decide (UInt8.ofNat x.toNat < UInt8.ofNat y.toNat) || (UInt8.ofNat x.toNat == UInt8.ofNat y.toNat && Op.bytesLess (Lib.bytesOf a) (Lib.bytesOf b))) = _
    rw [ih]
    have hu : cmpB (x :: a) (y :: b) = if x < y then -1 else if y < x then 1 else cmpB a b := rfl
    rw [hu]
    by_cases h : x < y
    · have := (u8_lt hx hy).2 h
      simp [h, this]
    · have h1 : ¬ UInt8.ofNat x.toNat < UInt8.ofNat y.toNat := fun h' => h ((u8_lt hx hy).1 h')
      by_cases h2 : y < x
      · have h3 : (UInt8.ofNat x.toNat == UInt8.ofNat y.toNat) = false := by
          rw [beq_eq_false_iff_ne]
          intro e
          have := (u8_lt hy hx).2 h2
          rw [e] at this
          exact absurd this (UInt8.lt_irrefl _)
        simp [h, h2, h1, h3]
      · obtain rfl : x = y := by omega
        simp
theorem str_less {a b : List Int} (ha : Byt a) (hb : Byt b) : Op.bytesLess (strOfNums a).toList (strOfNums b).toList = decide (cmpB a b < 0) := by
  rw [Lib.strOfNums_toList, Lib.strOfNums_toList, less_bytes ha hb]

theorem run_loadBytes {P : Program} (w : World) : ∀ (l : List Int) (a : Addr) (acc : ByteArray), (∀ j u, (cellsOf l)[j]? = some u → w.cell? (a.add j) = some u) →
    (Extern.Bytes.loadBytes a l.length acc).run P w = .ok ⟨acc.data ++ (Lib.bytesOf l).toArray⟩ w
  | [], a, acc, _ => by simp [Extern.Bytes.loadBytes, Lib.bytesOf]
  | x :: l, a, acc, h => by
    have h0 := h 0 (.int .u8 x) rfl
    have e : a.add 0 = a := by unfold Addr.add; split <;> simp_all
    rw [e] at h0
    have ih := run_loadBytes (P := P) w l (a.add 1) (acc.push x.toNat.toUInt8) fun j u hu => by
      rw [Deep.add_add, Nat.add_comm]
      exact h (j + 1) u (by simpa using hu)
    have hl : (load a).run P w = .ok (.int .u8 x) w := by simp [h0]
    show (load a >>= fun q => match q with
      | .int .u8 b => Extern.Bytes.loadBytes (a.add 1) l.length (acc.push b.toNat.toUInt8)
      | _ => stuck "loadBytes: a byte expected").run P w = _
    rw [Sem.run_bind, hl]
    simp only [Result.andThen]
    rw [ih]
    simp [Lib.bytesOf, ByteArray.push]
theorem SB.raw {P : Program} {w : World} {B : Nat} {u : Value} {l : List Int} (h : SB w B u l) : (Extern.Bytes.bytesOf u).run P w = .ok ⟨(Lib.bytesOf l).toArray⟩ w := by
  obtain ⟨A, c, rfl, h2, h3, h4, h5⟩ := h
  cases A with
  | none =>
    have h := h4.none_nil.1
    have hl : l = [] := by simpa using h
    subst hl
    rfl
  | some ad =>
    show (Extern.Bytes.loadBytes ad l.length .empty).run P w = _
    rw [run_loadBytes w l ad .empty fun j u hu => by
      obtain ⟨ad', e', _, hc⟩ := h4.2 j u hu
      injection e' with e'
      subst e'
      exact hc]
    simp [ByteArray.empty, ByteArray.emptyWithCapacity]
    rfl
theorem run_compare {P : Program} {w : World} {B : Nat} {u v : Value} {a b : List Int} (hu : SB w B u a) (hv : SB w B v b) :
    (Extern.BytealgCompare.compare #[u, v]).run P w = .ok (.int .i64 (cmpB a b)) w := by
  change Sem.run P (do pure (goInt (Extern.BytealgCompare.cmp (← Extern.Bytes.bytesOf u) (← Extern.Bytes.bytesOf v)))) w = _
  simp only [Sem.run_bind, hu.raw, hv.raw, Sem.run_pure, Result.andThen]
  rw [Lib.cmp_eq]
  show Result.ok (Value.int .i64 (Lib.compareBytes (Lib.bytesOf a) (Lib.bytesOf b))) w = _
  rw [cmp_bytes hu.byt hv.byt]

set_option maxHeartbeats 400000 in
theorem equalC (u v : Value) (a b : List Int) (w : World) (B : Nat) (hu : SB w B u a) (hv : SB w B v b) :
    Calls Try.prog 58 #[u, v] w fun e w' => e = .returned (.bool (decide (a = b))) ∧ w = w' := by
  have HE := Lib.hid (str_eq hu.byt hv.byt)
  have d1 := hu.str
  have d2 := hv.str
  clear hu hv
  rw [← HE.out]
  clear HE
  generalize strOfNums a = s at *
  generalize strOfNums b = t at *
  go_enter Try.func58, Try.ntmps58
  go_wp2
  go_ret
  exact ⟨rfl, rfl⟩

set_option maxHeartbeats 400000 in
set_option maxRecDepth 100000 in
theorem compareC (u v : Value) (a b : List Int) (w : World) (B : Nat) (hu : SB w B u a) (hv : SB w B v b) :
    Calls Try.prog 42 #[u, v] w fun e w' => e = .returned (.int .i64 (cmpB a b)) ∧ w = w' := by
  have HC := Lib.hid (run_compare (P := Try.prog) hu hv)
  clear hu hv
  generalize cmpB a b = r at *
  go_enter Try.func42, Try.ntmps42
  go_wp2
  rw [run_callFunc_extern Try.func55 (by kernel_rfl) (by kernel_rfl) (by kernel_rfl) (e := Extern.BytealgCompare.compare) (by kernel_rfl), HC.out]
  simp only [Result.andThen]
  rw [Oper.upon_value]
  go_wp2
  go_ret
  exact ⟨rfl, rfl⟩
end Go.Proofs.Ytncbbjodianmoaa
