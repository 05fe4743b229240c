/- What the program's reader tells of signs, and what it takes or wants. Conditions: the reader and its tokens lie in memory. -/
import Derived.Test.YtoicncfpoklanaaDoorPa
namespace Go.Proofs.YtoicncfpoklanaaDoor
open Go.RowKit
set_option maxRecDepth 100000

theorem Lies.str {w : World} {B : Nat} {A : Option Addr} {c : Nat} {ss : List (List Nat)} (h : Lies w B A c (ss.map strV)) {k : Nat} (hk : k < ss.length) :
    ∃ (ad : Addr) (x : List Nat), A = some ad ∧ ad.block < B ∧ ss[k]? = some x ∧ w.cell? (ad.add k) = some (.string (strN x)) := by
  have hl : ss[k]? = some ss[k] := List.getElem?_eq_getElem hk
  obtain ⟨ad, h1, h2, h3⟩ := h.2 k (strV ss[k]) (by simp [hl])
  exact ⟨ad, _, h1, h2, hl, h3⟩
theorem ret_ex {k k' : Int} (h : k = k') : Ending.returned (.int .i64 k) = .returned (.int .i64 k') := by rw [h]

set_option maxHeartbeats 800000 in
theorem index (A : Option Addr) (ss : List (List Nat)) (c B : Nat) (s : List Nat) (w : World) (hc : ss.length ≤ c) (hcm : c ≤ maxLen) (hl : Lies w B A c (ss.map strV)) (hy : ∀ x ∈ ss, Byn x) (hs : Byn s) :
    Calls Tryd.prog 77 #[.slice A ss.length c, .string (strN s)] w fun e w' => (∃ k : Int, e = .returned (.int .i64 k) ∧ decide (k ≥ 0) = ss.contains s) ∧ w = w' := by
  have HL := Lib.hid hl
  have HY := Lib.hid hy
  have HS := Lib.hid hs
  clear hl hy hs
  unfold maxLen at hcm
  go_enter Tryd.func77, Tryd.ntmps77
  go_wp2
  go_loop [8] (fun i => ∃ k : Nat, k ≤ ss.length ∧ i = .int .i64 k ∧ Hid (s ∉ ss.take k)) (fun i => ss.length - (intOf i).toNat)
  case atStart => exact ⟨0, Nat.zero_le _, rfl, by simp [Hid]⟩
  case round =>
    obtain ⟨k, hk, rfl, HR⟩ := hrel
    by_cases hlt : k < ss.length
    · obtain ⟨ad, x, rfl, hB, hg, hcell⟩ := HL.out.str hlt
      have H1 := Lib.hid hg
      have H3 := Lib.hid (HY.out x (List.mem_of_getElem? hg))
      clear hg
      by_cases he : s = x
      · have heq := strN_eq HS.out H3.out
        rw [decide_eq_true he] at heq
        have HE := Lib.hid he
        clear he
        go_wp2
        go_ret
        refine ⟨⟨_, rfl, ?_⟩, rfl⟩
        have : x ∈ ss := List.mem_of_getElem? H1.out
        rw [HE.out]
        simp [this]
      · have heq := strN_eq HS.out H3.out
        rw [decide_eq_false he] at heq
        have HE := Lib.hid he
        clear he
        go_wp2
        go_round
        case rel =>
          refine ⟨k + 1, by omega, by go_num, ?_⟩
          have h1 := HR.out
          have h2 := HE.out
          show s ∉ ss.take (k + 1)
          rw [List.take_add_one, H1.out]
          simp [h1, h2]
        case measure => simp [intOf]; omega
    · obtain rfl : k = ss.length := by omega
      go_wp2
      go_ret
      refine ⟨⟨_, rfl, ?_⟩, rfl⟩
      have h1 := HR.out
      rw [List.take_length] at h1
      simp [h1]
theorem contains (A : Option Addr) (ss : List (List Nat)) (c B : Nat) (s : List Nat) (w : World) (hc : ss.length ≤ c) (hcm : c ≤ maxLen) (hl : Lies w B A c (ss.map strV)) (hy : ∀ x ∈ ss, Byn x) (hs : Byn s) :
    Calls Tryd.prog 68 #[.slice A ss.length c, .string (strN s)] w fun e w' => e = .returned (.bool (ss.contains s)) ∧ w = w' := by
  have K := Lib.hid (index A ss c B s w hc hcm hl hy hs)
  clear hl hy hs hcm
  generalize ss.contains s = b at *
  go_enter Tryd.func68, Tryd.ntmps68
  go_wp2_with (go_at_call 77; refine K.out.mono ?_; rintro e w' ⟨⟨k, rfl, hk⟩, rfl⟩)
  go_ret
  exact ⟨rfl, rfl⟩

set_option maxHeartbeats 800000 in
theorem isSign (t : Tok) (A : Option Addr) (ss : List (List Nat)) (c : Nat) (w : World) (hc : ss.length ≤ c) (hcm : c ≤ maxLen) (hl : Lies w w.heap.size A c (ss.map strV)) (hy : ∀ x ∈ ss, Byn x) (ht : Byn t.text) :
    Calls Tryd.prog 61 #[tokV t, .slice A ss.length c] w fun e w' => e = .returned (.bool (isOne ss t)) ∧ Below w.heap.size w w' := by
  have b0 := Lib.hid (below_alloc w (.cells (tokC t).toArray 77))
  have K := Lib.hid (contains A ss c w.heap.size t.text (w.alloc (.cells (tokC t).toArray 77)) hc hcm (hl.below b0.out) hy ht)
  clear hl hy ht hcm
  have HI : Hid (isOne ss t = (decide (t.kind = 4) && ss.contains t.text)) := rfl
  generalize ss.contains t.text = b at *
  unfold tokV
  simp only [tokC, List.toArray] at *
  by_cases h4 : t.kind = 4
  · have h4' : ((t.kind : Int) == 4) = true := by rw [beq_iff_eq]; omega
    have H4 := Lib.hid h4
    clear h4
    go_enter Tryd.func61, Tryd.ntmps61
    go_wp2_with (go_at_call 68; refine K.out.mono ?_; rintro e w' ⟨rfl, rfl⟩)
    go_ret
    exact ⟨ret_bool (by rw [HI.out, H4.out]; rfl), b0.out⟩
  · have h4' : ((t.kind : Int) == 4) = false := by rw [beq_eq_false_iff_ne]; omega
    have H4 := Lib.hid h4
    clear h4
    go_enter Tryd.func61, Tryd.ntmps61
    go_wp2
    go_ret
    exact ⟨ret_bool (by rw [HI.out, decide_eq_false H4.out]; rfl), b0.out⟩

theorem peek_byn {w : World} {R : Nat} {S : Src} {ts : List Tok} (ha : At w R S ts) : Byn (peekT S.z ts).text := by
  obtain ⟨h1, i, h2, rfl, h4⟩ := ha
  cases hd : S.all.drop i with
  | nil => intro b hb; simp [peekT, noTok] at hb
  | cons t r => exact h1.2.2.1 t (List.mem_of_mem_drop (by rw [hd]; simp))
theorem sees (R : Nat) (S : Src) (ts : List Tok) (A : Option Addr) (ss : List (List Nat)) (c : Nat) (w : World) (ha : At w R S ts) (hc : ss.length ≤ c) (hcm : c ≤ maxLen) (hl : Lies w w.heap.size A c (ss.map strV)) (hy : ∀ x ∈ ss, Byn x) :
    Calls Tryd.prog 53 #[.pointer (some ⟨R, 0, none⟩), .slice A ss.length c] w fun e w' => e = .returned (.bool (seesT S.z ss ts)) ∧ Below w.heap.size w w' := by
  have K := Lib.hid (peek R S ts w ha)
  have HK : Hid (∀ w1, Below w.heap.size w w1 → Calls Tryd.prog 61 #[tokV (peekT S.z ts), .slice A ss.length c] w1 fun e w' => e = .returned (.bool (seesT S.z ss ts)) ∧ Below w1.heap.size w1 w') := fun w1 hb =>
    isSign (peekT S.z ts) A ss c w1 hc hcm ((hl.below hb).more hb.size) hy (peek_byn ha)
  clear hl hy ha hcm
  generalize seesT S.z ss ts = b at *
  generalize tokV (peekT S.z ts) = tv at *
  go_enter Tryd.func53, Tryd.ntmps53
  go_wp2_with fail
  refine K.out.mono ?_
  rintro e w1 ⟨rfl, h1⟩
  have K2 := Lib.hid (HK.out w1 h1)
  have H1 := Lib.hid h1
  clear h1
  go_wp2_with (go_at_call 61; refine K2.out.mono ?_; rintro e w' ⟨rfl, h2⟩)
  go_ret
  exact ⟨rfl, H1.out.trans (h2.mono H1.out.size)⟩

/-- what the reader panics with -/
abbrev Fault (c p : Nat) : Ending := .panicked [{ v := .iface 55 (.agg #[.int .i64 c, .int .i64 p]), recovered := false }]
theorem run_field77 (w : World) (t : Tok) : (Instr.field 77 (.agg #[.int .i64 t.kind, .string (strN t.text), .int .i64 t.num, .int .i64 t.place]) 3).run Tryd.prog w = .ok (.int .i64 t.place) w ∧ (Instr.field 77 (.agg #[.int .i64 t.kind, .string (strN t.text), .int .i64 t.num, .int .i64 t.place]) 1).run Tryd.prog w = .ok (.string (strN t.text)) w := by
  constructor <;> simp [Instr.field, asAgg, go_sem]
theorem fail (R : Nat) (S : Src) (ts : List Tok) (c : Nat) (w : World) (ha : At w R S ts) :
    Calls Tryd.prog 51 #[.pointer (some ⟨R, 0, none⟩), .int .i64 c] w fun e w' => e = Fault c (peekT S.z ts).place ∧ Below w.heap.size w w' := by
  have K := Lib.hid (peek R S ts w ha)
  clear ha
  generalize peekT S.z ts = t at *
  simp only [tokV, tokC] at K
  have hf := fun w' => (run_field77 w' t).1
  go_enter Tryd.func51, Tryd.ntmps51
  go_wp2_with (go_at_call 36; refine K.out.mono ?_; rintro e w' ⟨rfl, h2⟩)
  exact ⟨rfl, rfl, h2⟩

theorem lies_strs (w : World) (ss : List (List Nat)) : Lies (w.alloc (.cells (ss.map strV).toArray 9)) (w.alloc (.cells (ss.map strV).toArray 9)).heap.size (some ⟨w.heap.size, 0, none⟩) ss.length (ss.map strV) := by
  refine ⟨(fun e => by cases e), fun j u hu => ⟨_, rfl, by simp, ?_⟩⟩
  have hb : (w.alloc (.cells (ss.map strV).toArray 9)).heap[w.heap.size]? = some (.cells (ss.map strV).toArray 9) := heap_alloc_new w _
  rw [Addr.add_lit, cell_of_row _ _ _ _ _ _ hb]
  simpa using hu
/-- the call of 'sees' with signs of its own -/
theorem sees_own (R : Nat) (S : Src) (ts : List Tok) (ss : List (List Nat)) (w : World) (cs : Array Value) (hcs : cs = (ss.map strV).toArray) (n : Nat) (hn : n = ss.length) (hn2 : n < 100) (ha : At w R S ts) (hy : ∀ x ∈ ss, Byn x) :
    Calls Tryd.prog 53 #[.pointer (some ⟨R, 0, none⟩), .slice (some ⟨w.heap.size, 0, none⟩) n n] (w.alloc (.cells cs 9)) fun e w' => e = .returned (.bool (seesT S.z ss ts)) ∧ Below w.heap.size w w' ∧ At w' R S ts := by
  subst hcs hn
  have b0 := below_alloc w (.cells (ss.map strV).toArray 9)
  refine (sees R S ts _ ss ss.length _ (ha.below b0 (Nat.le_refl _)) (Nat.le_refl _) (by unfold maxLen; omega) (lies_strs w ss) hy).mono ?_
  rintro e w' ⟨h1, h2⟩
  have h3 := b0.trans (h2.mono b0.size)
  exact ⟨h1, h3, ha.below h3 (Nat.le_refl _)⟩
/-- one token further -/
theorem At.step {w : World} {R : Nat} {S : Src} {ts : List Tok} {k : Nat} (ha : At w R S ts) (hk : (peekT S.z ts).kind = k) (h0 : 0 < k) :
    ∃ i : Nat, w.cell? ⟨R, 1, none⟩ = some (.int .i64 i) ∧ w.frozen? ⟨R, 1, none⟩ = false ∧ i < 2 ^ 63 - 1 ∧ At (w.setCell ⟨R, 1, none⟩ (.int .i64 ((i : Int) + 1))) R S ts.tail ∧ Moves R w (w.setCell ⟨R, 1, none⟩ (.int .i64 ((i : Int) + 1))) := by
  have hl := ha.lt
  obtain ⟨h1, i, h2, h3, h4⟩ := ha
  have hlt : i < S.all.length := by
    cases ts with
    | nil => simp [peekT, noTok] at hk; omega
    | cons t r =>
      have := congrArg List.length h3
      simp at this
      omega
  have hm := h1.2.1
  have hc := h1.1
  unfold maxLen at hm
  have hs : (w.setCell ⟨R, 1, none⟩ (.int .i64 ((i : Int) + 1))).heap[R]? = some (rdO S (i + 1)) := by
    simp only [World.setCell, Array.getElem?_modify, if_true]
    rw [h4]
    rfl
  refine ⟨i, (At.cells h4).2.1, by simp [World.frozen?, h4, rdO], by omega, ⟨h1.of fun k hk => Below.heap_setCell _ _ _ _ (by show k ≠ R; omega), i + 1, by omega, ?_, hs⟩, ⟨rfl, rfl, rfl, by simp [World.setCell], fun k _ hr => Below.heap_setCell _ _ _ _ (by intro e; exact hr (by rw [e]))⟩⟩
  rw [h3, List.tail_drop]
theorem seesT_kind {z : Nat} {ss : List (List Nat)} {ts : List Tok} (h : seesT z ss ts = true) : (peekT z ts).kind = 4 := by
  unfold seesT isOne at h
  simp at h
  exact h.1

set_option maxHeartbeats 800000 in
theorem accept (R : Nat) (S : Src) (ts : List Tok) (s : List Nat) (sv : ByteArray) (w : World) (ha : At w R S ts) (hs : sv = strN s) (hy : Byn s) :
    Calls Tryd.prog 42 #[.pointer (some ⟨R, 0, none⟩), .string sv] w fun e w' => e = .returned (.bool (seesT S.z [s] ts)) ∧ Moves R w w' ∧ At w' R S (bif seesT S.z [s] ts then ts.tail else ts) := by
  have K := Lib.hid (sees_own R S ts [s] w #[.string sv] (by rw [hs]; rfl) 1 rfl (by omega) ha (by simpa using hy))
  have HK : Hid (seesT S.z [s] ts = true → (peekT S.z ts).kind = 4) := seesT_kind
  clear hs hy ha
  generalize seesT S.z [s] ts = b at *
  cases b with
  | false =>
    go_enter Tryd.func42, Tryd.ntmps42
    go_wp2_with (go_at_call 53; refine K.out.mono ?_; rintro e w' ⟨rfl, h2, h3⟩)
    go_ret
    exact ⟨rfl, Moves.of_below h2 (Nat.le_refl _), h3⟩
  | true =>
    go_enter Tryd.func42, Tryd.ntmps42
    go_wp2_with fail
    refine K.out.mono ?_
    rintro e w1 ⟨rfl, h2, h3⟩
    obtain ⟨i, c1, f1, hi, h4, h5⟩ := h3.step (HK.out trivial) (by omega)
    have H2 := Lib.hid h2
    have H4 := Lib.hid h4
    have H5 := Lib.hid h5
    clear h2 h3 h4 h5
    go_wp2
    go_ret
    exact ⟨rfl, (Moves.of_below H2.out (Nat.le_refl _)).trans H5.out, H4.out⟩

/-- a call that reads, from the world w, comes to m: it returns what Q says, with the reader behind it, or panics; and changes nothing but the reader and what was not there -/
def Got {α : Type} (R : Nat) (S : Src) (Q : World → α → Value → Prop) (w : World) (m : Res α) (e : Ending) (w' : World) : Prop :=
  Moves R w w' ∧ ((∃ v r x, m = .ok v r ∧ e = .returned x ∧ Q w' v x ∧ At w' R S r) ∨ (∃ c p, m = .bad c p ∧ e = Fault c p))
theorem Got.ok {α : Type} {R : Nat} {S : Src} {Q : World → α → Value → Prop} {w w' : World} {m : Res α} {v : α} {r : List Tok} {x : Value} (hm : Moves R w w') (hr : m = .ok v r) (hq : Q w' v x) (ha : At w' R S r) : Got R S Q w m (.returned x) w' :=
  ⟨hm, .inl ⟨v, r, x, hr, rfl, hq, ha⟩⟩
theorem Got.bad {α : Type} {R : Nat} {S : Src} {Q : World → α → Value → Prop} {w w' : World} {m : Res α} {c p : Nat} (hm : Moves R w w') (hr : m = .bad c p) : Got R S Q w m (Fault c p) w' :=
  ⟨hm, .inr ⟨c, p, hr, rfl⟩⟩
def QU (_ : World) (_ : Unit) (x : Value) : Prop := x = .tuple #[]
def QT (_ : World) (t : Tok) (x : Value) : Prop := x = tokV t
def QS (_ : World) (s : List Nat) (x : Value) : Prop := x = .string (strN s)
def QN (_ : World) (n : Nat) (x : Value) : Prop := x = .int .i64 n

theorem want (R : Nat) (S : Src) (ts : List Tok) (s : List Nat) (sv : ByteArray) (w : World) (ha : At w R S ts) (hs : sv = strN s) (hy : Byn s) :
    Calls Tryd.prog 37 #[.pointer (some ⟨R, 0, none⟩), .string sv] w (Got R S QU w (wantT S.z s ts)) := by
  have K := Lib.hid (accept R S ts s sv w ha hs hy)
  have HW : Hid (wantT S.z s ts = if seesT S.z [s] ts then .ok () ts.tail else failT S.z 41 ts) := rfl
  clear hs hy ha
  generalize wantT S.z s ts = m at *
  generalize seesT S.z [s] ts = b at *
  cases b with
  | true =>
    go_enter Tryd.func37, Tryd.ntmps37
    go_wp2_with (go_at_call 42; refine K.out.mono ?_; rintro e w' ⟨rfl, h2, h3⟩)
    refine bodyPost_ret (results_none rfl _ _ _) rfl ?_
    exact .ok h2 (by rw [HW.out]; rfl) rfl h3
  | false =>
    go_enter Tryd.func37, Tryd.ntmps37
    go_wp2_with fail
    refine K.out.mono ?_
    rintro e w1 ⟨rfl, h2, h3⟩
    have K2 := Lib.hid (fail R S ts 41 w1 h3)
    have H2 := Lib.hid h2
    clear h2 h3
    go_wp2_with (go_at_call 51; refine K2.out.mono ?_; rintro e w' ⟨rfl, h2⟩)
    refine ⟨rfl, ?_⟩
    exact .bad (H2.out.below h2 (Nat.le_refl _)) (by rw [HW.out]; rfl)
theorem bound_ok (R : Nat) (d : Nat) (w : World) (hd : d ≤ 32) :
    Calls Tryd.prog 54 #[.pointer (some ⟨R, 0, none⟩), .int .i64 d] w fun e w' => e = .returned (.tuple #[]) ∧ w = w' := by
  go_enter Tryd.func54, Tryd.ntmps54
  go_wp2
  go_end0
  exact ⟨rfl, rfl⟩
theorem bound_bad (R : Nat) (S : Src) (ts : List Tok) (w : World) (ha : At w R S ts) (d : Nat) (hd : 32 < d) :
    Calls Tryd.prog 54 #[.pointer (some ⟨R, 0, none⟩), .int .i64 d] w fun e w' => e = Fault 42 (peekT S.z ts).place ∧ Below w.heap.size w w' := by
  have K := Lib.hid (fail R S ts 42 w ha)
  clear ha
  go_enter Tryd.func54, Tryd.ntmps54
  go_wp2_with (go_at_call 51; refine K.out.mono ?_; rintro e w' ⟨rfl, h2⟩)
  exact ⟨rfl, rfl, h2⟩

theorem Moves.low {R B : Nat} {a b c : World} (h : Moves R a b) (k : Below B b c) (hB : a.heap.size ≤ B) : Moves R a c :=
  ⟨k.os.trans h.os, k.tape.trans h.tape, k.output.trans h.output, Nat.le_trans h.size k.size, fun i hi hr => (k.block i (by omega)).trans (h.block i hi hr)⟩
theorem At.other {w w' : World} {R g : Nat} {S : Src} {ts : List Tok} (h : At w R S ts) (hg : R < g) (ho : ∀ k, k ≠ g → w'.heap[k]? = w.heap[k]?) : At w' R S ts := by
  obtain ⟨h1, i, h2, h3, h4⟩ := h
  exact ⟨h1.of fun k hk => ho k (by omega), i, h2, h3, by rw [ho R (by omega)]; exact h4⟩
set_option maxHeartbeats 800000 in
theorem take (R : Nat) (S : Src) (ts : List Tok) (k : Nat) (w : World) (ha : At w R S ts) (hk : 0 < k) :
    Calls Tryd.prog 52 #[.pointer (some ⟨R, 0, none⟩), .int .i64 k] w (Got R S QT w (takeT S.z k ts)) := by
  have b0 := Lib.hid (below_alloc w (.cells #[.int .i64 0, .string ⟨#[]⟩, .int .i64 0, .int .i64 0] 77))
  have hn := Lib.hid (heap_alloc_new w (.cells #[.int .i64 0, .string ⟨#[]⟩, .int .i64 0, .int .i64 0] 77))
  have HA := Lib.hid (ha.below b0.out (Nat.le_refl _))
  have HL := Lib.hid ha.lt
  have K := Lib.hid (peek R S ts _ HA.out)
  have HW : Hid (takeT S.z k ts = if (peekT S.z ts).kind = k then .ok (peekT S.z ts) ts.tail else failT S.z 41 ts) := rfl
  clear ha
  go_enter Tryd.func52, Tryd.ntmps52
  go_wp2_with fail
  generalize w.alloc (.cells #[.int .i64 0, .string ⟨#[]⟩, .int .i64 0, .int .i64 0] 77) = w0 at *
  refine K.out.mono ?_
  rintro e w1 ⟨rfl, h2⟩
  have H1 := Lib.hid (HA.out.below h2 (Nat.le_refl _))
  have B1 := Lib.hid (b0.out.trans (h2.mono b0.out.size))
  have hw1 : w1.heap[w.heap.size]? = some (.cells #[.int .i64 0, .string ⟨#[]⟩, .int .i64 0, .int .i64 0] 77 (0, 0)) := by
    rw [h2.block _ (lt_of_block hn.out)]
    exact hn.out
  have hlt := lt_of_block hw1
  have HN := Lib.hid hw1
  clear h2 K hw1
  simp only [tokV, tokC]
  have HP := Lib.hid (rfl : peekT S.z ts = peekT S.z ts)
  generalize hpt : peekT S.z ts = t at HW HP ⊢
  have HPT := Lib.hid hpt
  clear hpt
  have b2 := Lib.hid (below_alloc w1 (.cells #[.int .i64 t.kind, .string (strN t.text), .int .i64 t.num, .int .i64 t.place] 77))
  have A2 := Lib.hid (H1.out.below b2.out (Nat.le_refl _))
  have hne : w.heap.size ≠ w1.heap.size := Nat.ne_of_lt hlt
  have N2 := Lib.hid (b2.out.block w.heap.size hlt)
  by_cases hkk : t.kind = k
  · have hkb : ((t.kind : Int) != (k : Int)) = false := by simp [hkk]
    have HW2 : Hid (takeT S.z k ts = .ok t ts.tail) := by show _ = _; rw [HW.out, if_pos hkk]
    obtain ⟨i, c1, f1, hi, h4, h5⟩ := A2.out.step (k := k) (by rw [HPT.out]; exact hkk) hk
    have H4 := Lib.hid h4
    have H5 := Lib.hid h5
    have hRne : R ≠ w1.heap.size := Nat.ne_of_lt H1.out.lt
    have hth : Hid ((((w1.alloc (.cells #[.int .i64 t.kind, .string (strN t.text), .int .i64 t.num, .int .i64 t.place] 77))).setCell ⟨R, 1, none⟩ (.int .i64 ((i : Int) + 1))).there w.heap.size 0 4) := by
      refine there_cells (cs := [.int .i64 0, .string ⟨#[]⟩, .int .i64 0, .int .i64 0]) (T := 77) ?_ rfl
      rw [Below.heap_setCell _ _ _ _ (by show w.heap.size ≠ R; have := HL.out; omega), N2.out, HN.out]
    clear h4 h5 hkk
    go_wp2_with (refine wpList_storeN info77s rfl (.tmp 4) (.tmp 21) rfl rfl w.heap.size rfl [_, _, _, _] rfl rfl hth.out (by simp [Value.oneCell']) ?_; intro w3 g1 g2 g3 g4 g5)
    refine bodyPost_ret (ret_cell (cs := [_, _, _, _]) Tryd.results52 Tryd.underlying77 rfl info77s _ _ w.heap.size rfl g1) rfl ?_
    exact .ok ((((Moves.of_below B1.out (Nat.le_refl _)).below b2.out (Nat.le_refl _)).trans H5.out).low g3 (Nat.le_refl _)) HW2.out rfl (H4.out.other HL.out g4)
  · have hkb : ((t.kind : Int) != (k : Int)) = true := by rw [bne_iff_ne]; omega
    have HW2 : Hid (takeT S.z k ts = .bad 41 t.place) := by show _ = _; rw [HW.out, if_neg hkk]; unfold failT; rw [HPT.out]
    have K2 := Lib.hid (fail R S ts 41 _ A2.out)
    rw [HPT.out] at K2
    clear hkk
    go_wp2_with (go_at_call 51; refine K2.out.mono ?_; rintro e w' ⟨rfl, h2⟩)
    exact ⟨rfl, .bad (((Moves.of_below B1.out (Nat.le_refl _)).below b2.out (Nat.le_refl _)).below h2 (Nat.le_refl _)) HW2.out⟩
theorem name (R : Nat) (S : Src) (ts : List Tok) (w : World) (ha : At w R S ts) :
    Calls Tryd.prog 38 #[.pointer (some ⟨R, 0, none⟩)] w (Got R S QS w (nameP S.z ts)) := by
  have K := Lib.hid (take R S ts 1 w ha (by omega))
  have HW : Hid (nameP S.z ts = (takeT S.z 1 ts).bind fun t r => .ok t.text r) := rfl
  generalize nameP S.z ts = m at *
  generalize takeT S.z 1 ts = m1 at *
  clear ha
  go_enter Tryd.func38, Tryd.ntmps38
  go_wp2_with fail
  refine K.out.mono ?_
  rintro e w1 ⟨hm, ⟨t, r, x, rfl, rfl, hq, ha⟩ | ⟨c, p, rfl, rfl⟩⟩
  · have HQ : Hid (Moves R w w1 ∧ At w1 R S r) := ⟨hm, ha⟩
    have hf := fun w' => (run_field77 w' t).2
    subst hq
    clear hm ha K
    simp only [tokV, tokC]
    go_wp2
    go_ret
    exact .ok HQ.out.1 HW.out rfl HQ.out.2
  · have HQ := Lib.hid hm
    clear hm K
    go_wp2
    exact ⟨rfl, .bad HQ.out HW.out⟩
end Go.Proofs.YtoicncfpoklanaaDoor
