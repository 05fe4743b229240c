/- Bytes that grow by appending one: a constant's, or a row of the call's own. Conditions: those in each theorem. The tokens of two texts with a line's end between them; functions of both; nothing of the program. Conditions: those in each theorem. Rows of functions put one behind the other, in memory of the call's own. Conditions: none. The walk of SyntaxRow: it returns true, and nothing that was there has changed. Conditions: none beyond what its arguments are; the tables lie as the program lays them. -/
import Derived.Test.YtoicncfpoklanaaDoorWj
import Derived.Deep.DeepCutAuto
import Derived.Test.YtoicncfpoklanaaDoorLq
import Derived.Test.YtoicncfpoklanaaDoorWo
import Derived.Test.YtoicncfpoklanaaDoorSn
import Derived.Maps.AppendAt
import Derived.Laws.AppendOwnNone
namespace Go.Proofs.YtoicncfpoklanaaDoor
section
open Go.RowKit
set_option maxRecDepth 100000

/-- bytes: of the call's own, or a full row -/
def Buf (base : Nat) (v : Value) (l : List Nat) (w : World) : Prop :=
  w.ownsRow base 5 1 v l.length (bts l) ∨ (∃ g, v = .slice (some ⟨g, 0, none⟩) l.length l.length ∧ base ≤ g ∧ g < w.heap.size ∧ ∀ j u, (bts l)[j]? = some u → w.cell? ⟨g, j, none⟩ = some u)
theorem Buf.slice {base : Nat} {v : Value} {l : List Nat} {w : World} (h : Buf base v l w) : ∃ A c, v = .slice A l.length c := by
  rcases h with h | ⟨g, rfl, _⟩
  · exact own_shape h
  · exact ⟨_, _, rfl⟩
theorem Buf.alloc {base : Nat} {v : Value} {l : List Nat} {w : World} (h : Buf base v l w) (o : Obj) : Buf base v l (w.alloc o) := by
  rcases h with h | ⟨g, rfl, h1, h2, h3⟩
  · exact .inl (own_below h (below_alloc w o) (Nat.le_refl _))
  · refine .inr ⟨g, rfl, h1, Nat.lt_of_lt_of_le h2 (below_alloc w o).size, fun j u hu => ?_⟩
    rw [(below_alloc w o).cell (p := ⟨g, j, none⟩) h2]
    exact h3 j u hu
theorem bts_snoc (l : List Nat) (d : Nat) : bts (l ++ [d]) = bts l ++ [.int .u8 ((d : Nat) : Int)] := by rw [bts_append]; rfl
/-- an append of one byte -/
theorem run_append_buf (w : World) (base : Nat) (ty : TypeId) (v : Value) (l : List Nat) (d : Nat) (hv : Buf base v l w) (g : Nat) (hg : w.cell? ⟨g, 0, none⟩ = some (.int .u8 ((d : Nat) : Int))) (hlen : l.length + 1 ≤ 100000) (hbase : base ≤ w.heap.size) :
    ∃ v' w', (Builtin.append_ #[22, 22] ty #[v, .slice (some ⟨g, 0, none⟩) 1 1]).run Tryd.prog w = .ok v' w' ∧ w'.ownsRow base 5 1 v' (l ++ [d]).length (bts (l ++ [d])) ∧ Below base w w' := by
  obtain ⟨i0, hi, hz0, hz1, hz2⟩ := info_parts info5b
  have hnews : ∀ j u, [Value.int .u8 ((d : Nat) : Int)][j]? = some u → w.cell? ((⟨g, 0, none⟩ : Addr).add j) = some u := fun j u hu => by
    cases j with
    | zero => simp at hu; subst hu; exact hg
    | succ j => simp at hu
  rw [bts_snoc, List.length_append, List.length_singleton]
  rcases hv with hown | ⟨b, rfl, hb, hlt, hc⟩
  · obtain ⟨v', w', hr, h2, h3, _⟩ := run_append_one (P := Tryd.prog) w base 22 ty 5 i0 (.int .u8 0) 1 1 Tryd.underlying22 hi hz0 hz1 hz2 rfl (by omega) v l.length (bts l) hown ⟨g, 0, none⟩ 1 [.int .u8 ((d : Nat) : Int)] rfl hnews (by simp [Value.oneCell']) (by omega) (by unfold maxLen; omega) hbase
    exact ⟨v', w', hr, h2, (Below.refl base w).grown h3 hbase (fun k hk => (hown.lt k hk).1)⟩
  · have hl0 : (bts l).length = l.length * i0.size := by rw [hz1, bts_length]; omega
    have hlen2 : (bts l ++ [Value.int .u8 ((d : Nat) : Int)]).length = (l.length + 1) * 1 := by simp [bts_length]
    have hr := run_append_grow (P := Tryd.prog) w 22 ty 5 i0 (.int .u8 0) Tryd.underlying22 hi hz0 ⟨b, 0, none⟩ l.length l.length (bts l) hl0 (fun j u hu => by rw [Addr.add_lit, Nat.zero_add]; exact hc j u hu) ⟨g, 0, none⟩ 1 1 [.int .u8 ((d : Nat) : Int)] (by rw [hz1]; rfl) hnews (by omega) (by omega) (growslice_fits (by omega) (by rw [hz2]; omega))
    refine ⟨_, _, hr, ?_, ?_⟩
    · have hge := grownCap_ge w (l.length + 1) l.length 5
      have hcm : grownCap w (l.length + 1) l.length 5 ≤ maxLen := grownCap_le_maxLen w (l.length + 1) l.length 5 (by unfold maxLen; omega)
      refine ⟨hlen2, .inr ⟨w.heap.size, _, _, rfl, hbase, heap_alloc_new w.drew _, hge, hcm, ?_, ?_⟩⟩
      · simp [size_zeroCells, bts_length, Value.cells]
        omega
      · simp only [Array.toList_append, List.append_assoc]
        rw [← List.append_assoc, ← hlen2]
        exact List.take_left
    · exact ((Below.refl base w).drew).alloc hbase _
theorem wpList_append_buf (w : World) {ops : Array Oper} {rest : List Oper} {o : Oper} {a : Act} {Q : Exit → Act → World → Prop} (hgd : o.guard = none) (s x : Operand) (ho : o.op = .call { callee := .builtin .append, args := #[s, x], argTypes := #[22, 22] })
    (base : Nat) (v : Value) (l : List Nat) (d : Nat) (hs : a.eval s = v) (hv : Buf base v l w) (g : Nat) (hx : a.eval x = .slice (some ⟨g, 0, none⟩) 1 1) (hg : w.cell? ⟨g, 0, none⟩ = some (.int .u8 ((d : Nat) : Int))) (hlen : l.length + 1 ≤ 100000) (hbase : base ≤ w.heap.size)
    (h : ∀ v' w', w'.ownsRow base 5 1 v' (l ++ [d]).length (bts (l ++ [d])) → Below base w w' → wpList Tryd.prog ops Q rest (a.put o.dst v') w') : wpList Tryd.prog ops Q (o :: rest) a w := by
  refine wpList_plain hgd fun K hK => ?_
  obtain ⟨v', w', hr, h2, h3⟩ := run_append_buf w base o.type v l d hv g hg hlen hbase
  unfold Oper.wp execOp
  simp only [ho, resolve, invoke, builtin, Sem.run_bind, Sem.run_pure, Result.andThen_ok, List.map_toArray, List.map_cons, List.map_nil, hs, hx, hr]
  exact hK _ _ (h v' w' h2 h3)
end

section
set_option linter.unusedVariables false

/-- what is read does not hang on what stands behind a byte 10 -/
theorem readT_more {r : List Nat} (c : List Nat) (h : (readT r).err = 0) : readT (r ++ 10 :: c) = readT r := by
  cases r with
  | nil => simp [readT, bad] at h
  | cons b r =>
    have e0 : (b :: r) ++ 10 :: c = b :: (r ++ 10 :: c) := rfl
    rw [e0, readT_cons, readT_cons]
    rw [readT_cons] at h
    by_cases h1 : letterB b = true
    · rw [if_pos h1, if_pos h1]
      have hr : run nameB (b :: (r ++ 10 :: c)) = run nameB (b :: r) := by rw [← e0]; exact run_append nameB 10 (by decide) c (b :: r)
      unfold nameT
      rw [hr, ← e0, List.take_append_of_le_length (run_le nameB (b :: r))]
    · rw [if_neg h1] at h
      rw [if_neg h1, if_neg h1]
      by_cases h2 : digitB b = true
      · rw [if_pos h2, if_pos h2]
        have hr : run digitB (b :: (r ++ 10 :: c)) = run digitB (b :: r) := by rw [← e0]; exact run_append digitB 10 (by decide) c (b :: r)
        unfold numT
        rw [hr, ← e0, List.take_append_of_le_length (run_le digitB (b :: r))]
      · rw [if_neg h2] at h
        rw [if_neg h2, if_neg h2]
        by_cases h3 : b = 34
        · rw [if_pos h3] at h
          rw [if_pos h3, if_pos h3]
          unfold textT at h ⊢
          simp only [List.drop_succ_cons, List.drop_zero] at h ⊢
          rw [run_append textB 10 (by decide) c r]
          by_cases hq : r[run textB r]? = some 34
          · have hn := (List.getElem?_eq_some_iff.1 hq).1
            rw [List.getElem?_append_left hn, if_pos hq, if_pos hq, List.take_append_of_le_length (run_le textB r)]
          · rw [if_neg hq] at h
            simp [bad] at h
        · rw [if_neg h3] at h
          rw [if_neg h3, if_neg h3]
          have hs : signOf (b :: (r ++ 10 :: c)) = signOf (b :: r) := by
            cases r with
            | nil =>
              have t1 : twos.contains [b, 10] = false := by
                have hall : ∀ x ∈ twos, x[1]? ≠ some 10 := by decide
                cases hc : twos.contains [b, 10] with
                | false => rfl
                | true => exact absurd rfl (hall [b, 10] (by simpa using hc))
              have t2 : twos.contains [b] = false := by
                have hall : ∀ x ∈ twos, x.length = 2 := by decide
                cases hc : twos.contains [b] with
                | false => rfl
                | true =>
                  have := hall [b] (by simpa using hc)
                  simp at this
              show (if twos.contains [b, 10] = true then [b, 10] else if ones.contains [b] = true then [b] else []) = (if twos.contains [b] = true then [b] else if ones.contains [b] = true then [b] else [])
              rw [if_neg (show ¬ twos.contains [b, 10] = true by rw [t1]; simp), if_neg (show ¬ twos.contains [b] = true by rw [t2]; simp)]
            | cons x r => rfl
          unfold signT
          rw [hs]

theorem white_more (t : List Nat) : ∀ (c : Bool) (r : List Nat), white c (r ++ 10 :: t) = if white c r = r.length then r.length + (white false t + 1) else white c r
  | c, [] => by
    have h1 : (10 == 35 || (c && 10 != 10)) = false := by cases c <;> rfl
    have h2 : white c (10 :: t) = white false t + 1 := by
      rw [white, h1]
      rfl
    show white c (10 :: t) = _
    rw [h2]
    simp [white]
  | c, b :: r => by
    show white c (b :: (r ++ 10 :: t)) = _
    rw [white, white]
    split
    · rw [white_more t _ r]
      split
      · rename_i h
        rw [if_pos (by simp [h])]
        simp
        omega
      · rename_i h
        rw [if_neg (by simp [h])]
    · rw [if_neg (by simp)]
/-- white space from a place on, with more behind -/
theorem skip_more {a : List Nat} (t : List Nat) {p : Nat} (hp : p ≤ a.length) : skip (a ++ 10 :: t) p = if skip a p = a.length then a.length + 1 + white false t else skip a p := by
  unfold skip
  rw [List.drop_append_of_le_length hp, white_more]
  have hl : (a.drop p).length = a.length - p := by simp
  rw [hl]
  by_cases h : white false (a.drop p) = a.length - p
  · rw [if_pos h, if_pos (by omega)]
    omega
  · rw [if_neg h, if_neg (by have := white_le false (a.drop p); omega)]

/-- the tokens of a text, with more behind -/
theorem rest_more {a : List Nat} (t : List Nat) (xs : List Tok) : ∀ (n p : Nat) (ts : List Tok), a.length - p ≤ n → p ≤ a.length → rest a p ts = ⟨0, xs, 0⟩ →
    rest (a ++ 10 :: t) (if p = a.length then a.length + 1 + white false t else p) ts = rest (a ++ 10 :: t) (a.length + 1 + white false t) xs := by
  intro n
  induction n with
  | zero =>
    intro p ts hn hp h
    obtain rfl : p = a.length := by omega
    rw [rest_end ts (Nat.le_refl _)] at h
    injection h with _ h2
    subst h2
    rw [if_pos rfl]
  | succ n ih =>
    intro p ts hn hp h
    by_cases hpe : p = a.length
    · subst hpe
      rw [rest_end ts (Nat.le_refl _)] at h
      injection h with _ h2
      subst h2
      rw [if_pos rfl]
    · have hlt : p < a.length := by omega
      rw [if_neg hpe]
      have he : (readT (a.drop p)).err = 0 := by
        cases Nat.decEq (readT (a.drop p)).err 0 with
        | isTrue h0 => exact h0
        | isFalse h0 =>
          rw [rest_bad ts hlt h0] at h
          exact absurd (congrArg Out.err h) h0
      have hm : ts.length ≠ 2048 := by
        intro h2
        rw [rest_many hlt he h2] at h
        have h1 : 2 = 0 := congrArg Out.err h
        omega
      have hd : (a ++ 10 :: t).drop p = a.drop p ++ 10 :: t := List.drop_append_of_le_length hp
      have hr : readT ((a ++ 10 :: t).drop p) = readT (a.drop p) := by rw [hd]; exact readT_more t he
      have hl := read_len _ he
      rw [List.length_drop] at hl
      have hsk := skip_ge a (p + (readT (a.drop p)).len)
      rw [rest_next hlt he hm] at h
      rw [rest_next (by simp; omega) (by rw [hr]; exact he) hm, hr, skip_more t (by omega)]
      exact ih _ _ (by omega) (skip_le a _ (by omega)) h

theorem steps_grow {l : List Nat} : ∀ (f p : Nat) (ts : List Tok), (steps l f p ts).err = 0 → ts.length ≤ (steps l f p ts).toks.length
  | 0, _, _, _ => Nat.le_refl _
  | f + 1, p, ts, h => by
    unfold steps at h ⊢
    split at h
    · rename_i hp
      rw [if_pos hp]
      split at h
      · rename_i h1
        exact absurd h h1
      · rename_i h1
        rw [if_neg h1]
        split at h
        · cases h
        · rename_i h2
          rw [if_neg h2]
          have := steps_grow f _ _ h
          rw [List.length_append, List.length_singleton] at this
          omega
    · rename_i hp
      rw [if_neg hp]
      exact Nat.le_refl _
/-- a token at another place -/
def shift (d : Nat) (t : Tok) : Tok := ⟨t.kind, t.text, t.num, t.place + d⟩
theorem skip_shift (pre b : List Nat) (q : Nat) : skip (pre ++ b) (pre.length + q) = pre.length + skip b q := by
  unfold skip
  rw [← List.drop_drop, List.drop_append_of_le_length (Nat.le_refl _), List.drop_length, List.nil_append]
  omega
/-- the tokens of a text that stands behind another one -/
theorem rest_shift (pre : List Nat) {b : List Nat} (ts ys : List Tok) (hm : ts.length + ys.length ≤ 2048) : ∀ (n q : Nat) (y0 : List Tok), b.length - q ≤ n → q ≤ b.length → rest b q y0 = ⟨0, ys, 0⟩ →
    rest (pre ++ b) (pre.length + q) (ts ++ y0.map (shift pre.length)) = ⟨0, ts ++ ys.map (shift pre.length), 0⟩ := by
  have stop : ∀ (y0 : List Tok), rest b b.length y0 = ⟨0, ys, 0⟩ → rest (pre ++ b) (pre.length + b.length) (ts ++ y0.map (shift pre.length)) = ⟨0, ts ++ ys.map (shift pre.length), 0⟩ := by
    intro y0 h
    rw [rest_end y0 (Nat.le_refl _)] at h
    injection h with _ h2
    subst h2
    rw [rest_end _ (by simp)]
  intro n
  induction n with
  | zero =>
    intro q y0 hn hq h
    obtain rfl : q = b.length := by omega
    exact stop y0 h
  | succ n ih =>
    intro q y0 hn hq h
    by_cases hqe : q = b.length
    · subst hqe
      exact stop y0 h
    · have hlt : q < b.length := by omega
      have he : (readT (b.drop q)).err = 0 := by
        cases Nat.decEq (readT (b.drop q)).err 0 with
        | isTrue h0 => exact h0
        | isFalse h0 =>
          rw [rest_bad y0 hlt h0] at h
          exact absurd (congrArg Out.err h) h0
      have hy : y0.length ≠ 2048 := by
        intro h2
        rw [rest_many hlt he h2] at h
        have h1 : 2 = 0 := congrArg Out.err h
        omega
      have hd : (pre ++ b).drop (pre.length + q) = b.drop q := by
        rw [← List.drop_drop, List.drop_append_of_le_length (Nat.le_refl _), List.drop_length, List.nil_append]
      have hl := read_len _ he
      rw [List.length_drop] at hl
      have hsk := skip_ge b (q + (readT (b.drop q)).len)
      rw [rest_next hlt he hy] at h
      have hg := steps_grow (l := b) (b.length - skip b (q + (readT (b.drop q)).len) + 1) (skip b (q + (readT (b.drop q)).len)) (y0 ++ [⟨(readT (b.drop q)).kind, (readT (b.drop q)).text, (readT (b.drop q)).num, q⟩])
      have h' : steps b (b.length - skip b (q + (readT (b.drop q)).len) + 1) (skip b (q + (readT (b.drop q)).len)) (y0 ++ [⟨(readT (b.drop q)).kind, (readT (b.drop q)).text, (readT (b.drop q)).num, q⟩]) = ⟨0, ys, 0⟩ := h
      rw [h'] at hg
      have hg2 := hg rfl
      rw [List.length_append, List.length_singleton] at hg2
      dsimp only at hg2
      rw [rest_next (by simp; omega) (by rw [hd]; exact he) (by simp; omega), hd, Nat.add_assoc, skip_shift]
      have ih' := ih _ _ (by omega) (skip_le b _ (by omega)) h
      rw [List.map_append, ← List.append_assoc] at ih'
      rw [← ih']
      simp only [List.map_cons, List.map_nil, shift]
      rw [Nat.add_comm q pre.length]

/-- .. if there are too many -/
theorem rest_shift_many (pre : List Nat) {b : List Nat} (ts ys : List Tok) (hm : 2048 < ts.length + ys.length) : ∀ (n q : Nat) (y0 : List Tok), b.length - q ≤ n → q ≤ b.length → ts.length + y0.length ≤ 2048 → rest b q y0 = ⟨0, ys, 0⟩ →
    ∃ p, rest (pre ++ b) (pre.length + q) (ts ++ y0.map (shift pre.length)) = ⟨2, [], p⟩ := by
  have stop : ∀ (y0 : List Tok), ts.length + y0.length ≤ 2048 → rest b b.length y0 = ⟨0, ys, 0⟩ → False := by
    intro y0 hl h
    rw [rest_end y0 (Nat.le_refl _)] at h
    injection h with _ h2
    subst h2
    omega
  intro n
  induction n with
  | zero =>
    intro q y0 hn hq hl h
    obtain rfl : q = b.length := by omega
    exact (stop y0 hl h).elim
  | succ n ih =>
    intro q y0 hn hq hl h
    by_cases hqe : q = b.length
    · subst hqe
      exact (stop y0 hl h).elim
    · have hlt : q < b.length := by omega
      have he : (readT (b.drop q)).err = 0 := by
        cases Nat.decEq (readT (b.drop q)).err 0 with
        | isTrue h0 => exact h0
        | isFalse h0 =>
          rw [rest_bad y0 hlt h0] at h
          exact absurd (congrArg Out.err h) h0
      have hy : y0.length ≠ 2048 := by
        intro h2
        rw [rest_many hlt he h2] at h
        have h1 : 2 = 0 := congrArg Out.err h
        omega
      have hd : (pre ++ b).drop (pre.length + q) = b.drop q := by
        rw [← List.drop_drop, List.drop_append_of_le_length (Nat.le_refl _), List.drop_length, List.nil_append]
      have hl2 := read_len _ he
      rw [List.length_drop] at hl2
      have hsk := skip_ge b (q + (readT (b.drop q)).len)
      by_cases hfull : (ts ++ y0.map (shift pre.length)).length = 2048
      · exact ⟨_, rest_many (by simp; omega) (by rw [hd]; exact he) hfull⟩
      · rw [rest_next hlt he hy] at h
        rw [rest_next (by simp; omega) (by rw [hd]; exact he) hfull, hd, Nat.add_assoc, skip_shift]
        obtain ⟨p, hp⟩ := ih _ (y0 ++ [⟨(readT (b.drop q)).kind, (readT (b.drop q)).text, (readT (b.drop q)).num, q⟩]) (by omega) (skip_le b _ (by omega)) (by simp at hfull ⊢; omega) h
        rw [List.map_append, ← List.append_assoc] at hp
        refine ⟨p, ?_⟩
        rw [← hp]
        simp only [List.map_cons, List.map_nil, shift]
        rw [Nat.add_comm q pre.length]
theorem alike_shift (n : Nat) : ∀ ys : List Tok, Alike ys (ys.map (shift n))
  | [] => .nil
  | y :: ys => .cons ⟨rfl, rfl, rfl⟩ (alike_shift n ys)
theorem rest_zero {l : List Nat} {p : Nat} {ts us : List Tok} {q : Nat} (h : rest l p ts = ⟨0, us, q⟩) : rest l p ts = ⟨0, us, 0⟩ := by
  have hz := steps_zero (l := l) (l.length - p + 1) p ts
  have h' : steps l (l.length - p + 1) p ts = ⟨0, us, q⟩ := h
  rw [h'] at hz
  rw [h]
  have := hz rfl
  dsimp only at this
  rw [this]
/-- two texts with a line's end between them -/
theorem lexed_row {a b : List Nat} {xs ys : List Tok} {pa pb : Nat} (ha : lexed a = ⟨0, xs, pa⟩) (hb : lexed b = ⟨0, ys, pb⟩) (la : a.length ≤ 2000) (lb : b.length ≤ 2000) :
    (∃ q, lexed (a ++ 10 :: b) = ⟨2, [], q⟩) ∨ lexed (a ++ 10 :: b) = ⟨0, xs ++ ys.map (shift (a.length + 1)), 0⟩ := by
  have ra := rest_zero ((lexed_rest (l := a) (by omega)).symm.trans ha)
  have rb := rest_zero ((lexed_rest (l := b) (by omega)).symm.trans hb)
  have hsplit : a ++ 10 :: b = (a ++ [10]) ++ b := by simp
  have hpl : (a ++ [10]).length = a.length + 1 := by simp
  have h1 := rest_more b xs a.length (skip a 0) [] (by omega) (skip_le a 0 (Nat.zero_le _)) ra
  have hs0 := skip_more (a := a) b (p := 0) (Nat.zero_le _)
  have hlen : (a ++ 10 :: b).length ≤ 4096 := by simp; omega
  have hsk : (a ++ [10]).length + skip b 0 = a.length + 1 + white false b := by
    rw [hpl]
    unfold skip
    rw [List.drop_zero]
    omega
  rw [lexed_rest hlen, hs0, h1]
  by_cases hm : xs.length + ys.length ≤ 2048
  · right
    have h2 := rest_shift (a ++ [10]) xs ys hm b.length (skip b 0) [] (by omega) (skip_le b 0 (Nat.zero_le _)) rb
    rw [List.map_nil, List.append_nil, hsk, ← hsplit, hpl] at h2
    exact h2
  · left
    have hx : xs.length ≤ 2048 := by
      have := lexed_many a
      rw [ha] at this
      exact this
    obtain ⟨p, h2⟩ := rest_shift_many (a ++ [10]) xs ys (by omega) b.length (skip b 0) [] (by omega) (skip_le b 0 (Nat.zero_le _)) (by simpa using hx) rb
    rw [List.map_nil, List.append_nil, hsk, ← hsplit] at h2
    exact ⟨p, h2⟩
/-- an error has a number -/
def NB {α : Type} (p : Par α) : Prop := ∀ ts q, p ts ≠ .bad 0 q
theorem nb_bind {α β : Type} {p : Par α} {f : α → Par β} (h1 : NB p) (h2 : ∀ v, NB (f v)) : NB (fun ts => (p ts).bind f) := by
  intro ts q h
  have h : (p ts).bind f = .bad 0 q := h
  cases hp : p ts with
  | ok v r => rw [hp] at h; exact h2 v r q h
  | bad c w =>
    rw [hp] at h
    injection h with h3 h4
    subst h3
    exact h1 ts w hp
theorem nb_ok {α : Type} (v : α) : NB (fun ts => .ok v ts) := fun ts q h => by cases h
theorem nb_ite {α : Type} {c : List Tok → Prop} [∀ ts, Decidable (c ts)] {p p' : Par α} (h1 : NB p) (h2 : NB p') : NB (fun ts => if c ts then p ts else p' ts) := by
  intro ts q h
  have h : (if c ts then p ts else p' ts) = .bad 0 q := h
  split at h
  · exact h1 ts q h
  · exact h2 ts q h
theorem nb_tail {α : Type} {p : Par α} (h : NB p) : NB (fun ts => p ts.tail) := fun ts q hq => h _ q hq
theorem nb_fail {α : Type} (z c : Nat) (hc : c ≠ 0) : NB (fun ts => (failT z c ts : Res α)) := fun ts q h => by
  have h : (Res.bad c (peekT z ts).place : Res α) = .bad 0 q := h
  injection h with h1 _
  exact hc h1
theorem nb_take (z k : Nat) : NB (takeT z k) := by
  intro ts q h
  unfold takeT at h
  split at h
  · cases h
  · exact nb_fail z 41 (by decide) ts q h
theorem nb_want (z : Nat) (s : List Nat) : NB (wantT z s) := by
  intro ts q h
  unfold wantT at h
  split at h
  · cases h
  · exact nb_fail z 41 (by decide) ts q h
theorem nb_name (z : Nat) : NB (nameP z) := nb_bind (nb_take z 1) fun t => nb_ok _
theorem nb_moreG (z : Nat) (ss : List (List Nat)) (p : Par Ex) (hp : NB p) : ∀ f x, NB (moreG z ss p f x)
  | 0, x => nb_ok x
  | f + 1, x => fun ts q h => by
    rw [moreG] at h
    split at h
    · exact nb_bind hp (fun y => nb_moreG z ss p hp f _) _ q h
    · cases h
theorem nb_grouped (z : Nat) (ss : List (List Nat)) (p : Par Ex) (hp : NB p) : NB (groupedP z ss p) := nb_bind hp fun x ts q h => nb_moreG z ss p hp _ x ts q h
theorem nb_joined (z : Nat) (p : Par Ex) (hp : NB p) (x : Ex) : NB (joinedP z p x) := nb_bind (nb_take z 4) fun t => nb_bind hp fun y => nb_ok _
theorem nb_compare (z : Nat) (one : Par Ex) (h : NB one) : NB (compareP z one) :=
  nb_bind (nb_grouped z _ _ (nb_grouped z _ _ h)) fun x => nb_ite (nb_joined z _ (nb_grouped z _ _ (nb_grouped z _ _ h)) x) (nb_ok x)
theorem nb_levels (z : Nat) (one : Par Ex) (h : NB one) : NB (levelsP z one) := nb_grouped z _ _ (nb_grouped z _ _ (nb_compare z one h))
theorem nb_moreL {α : Type} (z : Nat) (p : Par α) (hp : NB p) : ∀ f l, NB (moreL z p f l)
  | 0, l => nb_bind (nb_want z [41]) fun _ => nb_ok l
  | f + 1, l => fun ts q h => by
    rw [moreL] at h
    split at h
    · exact nb_bind hp (fun y => nb_moreL z p hp f _) _ q h
    · exact nb_bind (nb_want z [41]) (fun _ => nb_ok l) ts q h
theorem nb_list {α : Type} (z : Nat) (p : Par α) (hp : NB p) : NB (listP z p) :=
  nb_bind (nb_want z [40]) fun _ => nb_ite (nb_tail (nb_ok _)) (nb_bind hp fun x ts q h => nb_moreL z p hp _ _ ts q h)
section
variable {z : Nat} {e : Par Ex}
theorem nb_enclosed (he : NB e) : NB (enclosedP z e) := nb_bind (nb_want z [40]) fun _ => nb_bind he fun _ => nb_bind (nb_want z [41]) fun _ => nb_ok _
theorem nb_pair (he : NB e) : NB (pairP z e) := nb_bind (nb_want z [40]) fun _ => nb_bind he fun _ => nb_bind (nb_want z [44]) fun _ => nb_bind he fun _ => nb_bind (nb_want z [41]) fun _ => nb_ok _
theorem nb_named (he : NB e) : NB (namedP z e) := nb_bind (nb_take z 1) fun t => nb_ite (nb_bind (nb_list z e he) fun l => nb_ok _) (nb_ok _)
theorem nb_worded (he : NB e) : NB (wordedP z e) :=
  nb_ite (nb_tail (nb_ok _)) (nb_ite (nb_tail (nb_ok _)) (nb_ite (nb_tail (nb_bind (nb_enclosed he) fun l => nb_ok _)) (nb_ite (nb_tail (nb_bind (nb_enclosed he) fun l => nb_ok _)) (nb_bind (nb_want z _) fun _ => nb_bind (nb_enclosed he) fun l => nb_ok _))))
theorem nb_primary (he : NB e) : NB (primaryP z e) := by
  intro ts q h
  unfold primaryP at h
  split at h
  · cases h
  split at h
  · cases h
  split at h
  · exact nb_named he ts q h
  split at h
  · exact nb_bind (nb_enclosed he) (fun l => nb_ok _) ts q h
  · exact nb_bind (nb_worded he) (fun x => nb_ok _) ts q h
theorem nb_one {o : Par Ex} (he : NB e) (ho : NB o) : NB (oneS z e o) := by
  intro ts q h
  unfold oneS at h
  split at h
  · exact nb_bind ho (fun x => nb_ok _) _ q h
  · exact nb_primary he ts q h
end
theorem nb_both (z : Nat) : ∀ g, NB (both z g).1 ∧ NB (both z g).2
  | 0 => ⟨nb_fail z 42 (by decide), nb_fail z 42 (by decide)⟩
  | g + 1 => ⟨nb_levels z _ (nb_one (nb_both z g).1 (nb_both z g).2), nb_one (nb_both z g).1 (nb_both z g).2⟩
theorem nb_type (z : Nat) : NB (typeP z) := nb_ite (nb_tail (nb_ok _)) (nb_ite (nb_tail (nb_ok _)) (nb_bind (nb_want z _) fun _ => nb_ok _))
section
variable {z : Nat} {e : Par Ex} {b : Par (List St)}
theorem nb_set (he : NB e) : NB (setP z e) := nb_bind (nb_name z) fun s => nb_bind (nb_want z [61]) fun _ => nb_bind he fun x => nb_ok _
theorem nb_simple (he : NB e) : NB (simpleP z e) :=
  nb_ite (nb_tail (nb_bind (nb_set he) fun x => nb_ok _)) (nb_ite (nb_tail (nb_ite (c := fun ts => seesT z [[59]] ts = true) (nb_ok _) (nb_bind he fun x => nb_ok _))) (nb_ite (nb_tail (nb_bind (nb_pair he) fun l => nb_ok _)) (nb_ite (nb_tail (nb_bind (nb_enclosed he) fun l => nb_ok _)) (nb_ite (nb_bind (nb_set he) fun x => nb_ok _) (nb_bind he fun x => nb_ok _)))))
theorem nb_choice (he : NB e) (hb : NB b) : NB (choiceP z e b) := nb_bind he fun x => nb_bind hb fun l => nb_ite (nb_tail (nb_bind hb fun m => nb_ok _)) (nb_ok _)
theorem nb_loop (he : NB e) (hb : NB b) : NB (loopP z e b) := nb_bind (nb_set he) fun x => nb_bind (nb_want z _) fun _ => nb_bind he fun y => nb_bind hb fun l => nb_ok _
theorem nb_stmt (he : NB e) (hb : NB b) : NB (stmtP z e b) := by
  intro ts q h
  have h1 : NB (fun ts => if seesT z [[105, 102]] ts then choiceP z e b ts.tail else if seesT z [[102, 111, 114]] ts then loopP z e b ts.tail else (simpleP z e ts).bind fun s r => (wantT z [59] r).bind fun _ r' => .ok s r') :=
    nb_ite (nb_tail (nb_choice he hb)) (nb_ite (nb_tail (nb_loop he hb)) (nb_bind (nb_simple he) fun s => nb_bind (nb_want z [59]) fun _ => nb_ok _))
  exact nb_bind h1 (fun s => nb_ok (s.at (peekT z ts).place)) ts q h
end
theorem nb_moreS (z : Nat) (p : Par St) (hp : NB p) : ∀ f l, NB (moreS z p f l)
  | 0, l => fun ts q h => by
    rw [moreS] at h
    split at h
    · cases h
    · exact nb_bind hp (fun _ _ q' h' => nb_fail z 41 (by decide) ts q' h') ts q h
  | f + 1, l => fun ts q h => by
    rw [moreS] at h
    split at h
    · cases h
    · exact nb_bind hp (fun s => nb_moreS z p hp f _) ts q h
theorem nb_block (z : Nat) : ∀ g, NB (blockP z g)
  | 0 => nb_fail z 42 (by decide)
  | g + 1 => nb_bind (nb_want z [123]) fun _ ts q h => nb_moreS z _ (nb_stmt (nb_both z g).1 (nb_block z g)) _ _ ts q h
theorem nb_func (z : Nat) : NB (funcP z) := by
  intro ts q h
  exact nb_bind (nb_want z [102, 110]) (fun _ => nb_bind (nb_name z) fun s => nb_bind (nb_list z _ (nb_bind (nb_name z) fun s => nb_bind (nb_want z [58]) fun _ => nb_bind (nb_type z) fun t => nb_ok _)) fun l =>
    nb_bind (nb_ite (c := fun ts => seesT z [[58]] ts = true) (nb_tail (nb_type z)) (nb_ok 0)) fun t => nb_bind (nb_block z 32) fun b => nb_ok (⟨s, l, t, b, (peekT z ts).place⟩ : Fu)) ts q h
theorem nb_moreF (z : Nat) : ∀ f l, NB (moreF z f l)
  | 0, l => nb_ok l
  | f + 1, l => fun ts q h => by
    rw [moreF] at h
    split at h
    · cases h
    · exact nb_bind (nb_func z) (fun x => nb_moreF z f _) ts q h
theorem bad_zero {z : Nat} {ts : List Tok} {c q : Nat} (h : programP z ts = .bad c q) (h0 : c = 0) : False := by
  subst h0
  exact nb_moreF z ts.length [] ts q h
theorem parsed_inv {l : List Nat} {fs : List Fu} {pl : Nat} (h : parsed l = ⟨0, fs, pl⟩) : ∃ ts q, lexed l = ⟨0, ts, q⟩ ∧ Fns l.length ts fs := by
  have he : (lexed l).err = 0 := by
    rcases Nat.eq_zero_or_pos (lexed l).err with h0 | h0
    · exact h0
    · unfold parsed at h
      rw [if_neg (by omega)] at h
      injection h with h _ _
  refine ⟨(lexed l).toks, (lexed l).place, ?_, ?_⟩
  · cases hq : lexed l with
    | mk x y z =>
      rw [hq] at he
      simp at he
      rw [he]
  · unfold parsed at h
    rw [if_pos he] at h
    cases hq : programP l.length (lexed l).toks with
    | ok gs r =>
      rw [hq] at h
      injection h with _ h _
      rw [← h]
      exact program_fns hq
    | bad c q =>
      rw [hq] at h
      injection h with h1 h2 _
      exfalso
      exact bad_zero hq h1
/-- functions of one text and of another one behind it -/
theorem row_model {a b : List Nat} {fa fb : List Fu} {pa pb : Nat} (ha : parsed a = ⟨0, fa, pa⟩) (hb : parsed b = ⟨0, fb, pb⟩) (la : a.length ≤ 2000) (lb : b.length ≤ 2000) :
    (∃ q, parsed (a ++ 10 :: b) = ⟨2, [], q⟩) ∨ (∃ fs, parsed (a ++ 10 :: b) = ⟨0, fs, 0⟩ ∧ SimFs (fa ++ fb) fs) := by
  obtain ⟨xs, qa, ea, na⟩ := parsed_inv ha
  obtain ⟨ys, qb, eb, nb⟩ := parsed_inv hb
  rcases lexed_row ea eb la lb with ⟨q, h⟩ | h
  · left
    refine ⟨q, ?_⟩
    unfold parsed
    rw [h, if_neg (by simp)]
  · right
    obtain ⟨gb, k1, k2⟩ := fns_both (z' := (a ++ 10 :: b).length) nb (ys.map (shift (a.length + 1))) [] [] (alike_shift _ _) .nil
    rw [List.append_nil, List.append_nil] at k1
    obtain ⟨ga, k3, k4⟩ := fns_both (z' := (a ++ 10 :: b).length) na xs _ _ (Alike.refl _) k1
    refine ⟨ga ++ gb, ?_, k4.append k2⟩
    unfold parsed
    rw [h, if_pos rfl]
    dsimp only
    rw [fns_program k3]
end

section
open Go.RowKit
set_option maxRecDepth 100000
set_option linter.unusedSimpArgs false
set_option linter.unusedVariables false

theorem fns_len {z : Nat} {ts : List Tok} {fs : List Fu} (h : Fns z ts fs) : fs.length ≤ ts.length := by
  induction h with
  | nil => exact Nat.le_refl _
  | cons h _ ih =>
    have := takes_func _ _ _ _ h
    simp only [List.length_cons]
    omega
theorem parsed_len {l : List Nat} {fs : List Fu} {pl : Nat} (h : parsed l = ⟨0, fs, pl⟩) : fs.length ≤ 2048 := by
  obtain ⟨ts, q, e, hn⟩ := parsed_inv h
  have h1 := lexed_many l
  rw [e] at h1
  exact Nat.le_trans (fns_len hn) h1

/-- a row of the call's own, V, of n functions' cells; b: a variable of type Program that was made besides -/
structure Rg (B : Nat) (w9 : World) (V : Value) (n : Nat) (xs : List Value) (b : Option Nat) (u : World) : Prop where
  bl : Below B w9 u
  le : B ≤ u.heap.size
  own : u.ownsRow B 47 5 V n xs
  var : ∀ g, b = some g → B ≤ g ∧ V.ownBlock ≠ some g ∧ u.heap[g]? = some (.cells #[.slice none 0 0] 26)
theorem Rg.start (w : World) : Rg w.heap.size w (.slice none 0 0) 0 [] none w :=
  ⟨Below.refl _ _, Nat.le_refl _, ⟨rfl, .inl ⟨rfl, rfl⟩⟩, fun g h => by cases h⟩
theorem Rg.row {B : Nat} {w9 u : World} {b : Option Nat} (h : Rg B w9 (.slice none 0 0) 0 [] b u) :
    Rg B w9 (.slice (some ⟨u.heap.size, 0, none⟩) 0 0) 0 [] b (u.alloc (.cells #[] 47)) := by
  have hb := below_alloc u (.cells #[] 47)
  refine ⟨h.bl.trans (hb.mono h.le), Nat.le_trans h.le hb.size, ⟨rfl, .inr ⟨u.heap.size, 0, #[], rfl, h.le, heap_alloc_new u _, Nat.le_refl _, Nat.zero_le _, rfl, rfl⟩⟩, fun g e => ?_⟩
  obtain ⟨h1, h2, h3⟩ := h.var g e
  have hlt : g < u.heap.size := (Array.getElem?_eq_some_iff.1 h3).1
  exact ⟨h1, fun e => by injection e with e; change u.heap.size = g at e; omega, (hb.block g hlt).trans h3⟩
theorem Rg.made {B : Nat} {w9 u : World} {V : Value} {n : Nat} {xs : List Value} (h : Rg B w9 V n xs none u) :
    Rg B w9 V n xs (some u.heap.size) (u.alloc (.cells #[.slice none 0 0] 26)) := by
  have hb := below_alloc u (.cells #[.slice none 0 0] 26)
  refine ⟨h.bl.trans (hb.mono h.le), Nat.le_trans h.le hb.size, own_below h.own hb (Nat.le_refl _), fun g e => ?_⟩
  injection e with e
  subst e
  exact ⟨h.le, fun e => by have := (h.own.lt _ e).2; omega, heap_alloc_new u _⟩
theorem Rg.put {B : Nat} {w9 u : World} {V : Value} {n : Nat} {xs : List Value} {b : Option Nat} (hR : Rg B w9 V n xs b u) {o : Oper} {a : Act} {K : Act → World → Prop} {Q : Exit → Act → World → Prop} (s x : Operand)
    (ho : o.op = .call { callee := .builtin .append, args := #[s, x], argTypes := #[24, 24] }) (hs : a.eval s = V) (A : Option Addr) (m c : Nat) (hx : a.eval x = .slice A m c)
    (ys : List Value) (hF : RowF w9 (· < B) m ys (.slice A m c)) (hl : ys.length = m * 5) (h1 : ∀ y ∈ ys, y.oneCell' = true) (hn : n + m ≤ 100000) (n' : Nat) (hn' : n + m = n') (zs : List Value) (hzs : xs ++ ys = zs)
    (h : ∀ A' c' u', Rg B w9 (.slice A' n' c') n' zs b u' → K (a.put o.dst (.slice A' n' c')) u') : o.wp Tryd.prog a u K Q := by
  subst hn' hzs
  obtain ⟨i0, hi, hz0, hz1, hz2⟩ := info_parts info47
  obtain ⟨A0, c0, e, hmc, hcm, hnil, hc⟩ := hF
  injection e with e1 e2 e3
  subst e1 e3
  cases A with
  | none =>
    have hc0 := hnil rfl
    subst hc0
    have hm0 : m = 0 := by omega
    subst hm0
    have hys : ys = [] := List.eq_nil_of_length_eq_zero (by simpa using hl)
    subst hys
    have hr := run_append_owned_none (P := Tryd.prog) (w := u) B 24 o.type 47 i0 5 Tryd.underlying24 hi V n xs hR.own
    unfold Oper.wp execOp
    simp only [ho, resolve, invoke, builtin, Sem.run_bind, Sem.run_pure, Result.andThen_ok, List.map_toArray, List.map_cons, List.map_nil, hs, hx, hr]
    obtain ⟨A1, c1, e1⟩ := own_shape hR.own
    subst e1
    have := h A1 c1 u (by simpa using hR)
    exact this
  | some ad =>
    have hnews : ∀ j v, ys[j]? = some v → u.cell? (ad.add j) = some v := by
      intro j v hv
      obtain ⟨ad', e, hb, hcell⟩ := hc j v hv
      injection e with e
      subst e
      rw [World.cell?_of_block (hR.bl.block _ (by rw [addr_block]; exact hb))]
      exact hcell
    obtain ⟨v', u', hr, h2, h3, h4, h5⟩ := run_append_own_at (P := Tryd.prog) u B 24 o.type 47 i0 _ 5 80 Tryd.underlying24 hi hz0 hz1 hz2 rfl (by omega) V n xs hR.own ad m c ys hl hnews h1 (by unfold maxLen; omega) (by omega) hR.le
    unfold Oper.wp execOp
    simp only [ho, resolve, invoke, builtin, Sem.run_bind, Sem.run_pure, Result.andThen_ok, List.map_toArray, List.map_cons, List.map_nil, hs, hx, hr]
    obtain ⟨A1, c1, e1⟩ := own_shape h2
    subst e1
    refine h A1 c1 u' ⟨hR.bl.grown h3 hR.le (fun k hk => (hR.own.lt k hk).1), Nat.le_trans hR.le h3.size, h2, fun g e => ?_⟩
    obtain ⟨g1, g2, g3⟩ := hR.var g e
    have hlt : g < u.heap.size := (Array.getElem?_eq_some_iff.1 g3).1
    refine ⟨g1, fun e => ?_, (h3.block g hlt (fun e => g2 e.symm)).trans g3⟩
    rcases h5 with h5 | h5
    · exact g2 (h5.symm.trans e)
    · rw [h5] at e
      injection e with e
      omega

theorem fusC_len (l : List Fu) : ∀ ks : List Two, ks.length = l.length → (fusC l ks).length = l.length * 5 := by
  induction l with
  | nil => intro ks _; simp [fusC]
  | cons f l ih =>
    intro ks hk
    cases ks with
    | nil => simp at hk
    | cons k ks =>
      have := ih ks (by simpa using hk)
      simp only [fusC, List.zipWith_cons_cons, List.flatten_cons, List.length_append, List.length_cons] at this ⊢
      rw [this]
      simp only [fuC, List.length_cons, List.length_nil]
      omega
theorem fusC_one {w : World} {D : Nat → Prop} (l : List Fu) : ∀ ks : List Two, ks.length = l.length → (∀ (i : Nat) (f : Fu) (k : Two), l[i]? = some f → ks[i]? = some k → FuK w D f k) → ∀ y ∈ fusC l ks, y.oneCell' = true := by
  induction l with
  | nil => intro ks _ _ y hy; simp [fusC] at hy
  | cons f l ih =>
    intro ks hk hK y hy
    cases ks with
    | nil => simp at hk
    | cons k ks =>
      simp only [fusC, List.zipWith_cons_cons, List.flatten_cons, List.mem_append] at hy
      rcases hy with hy | hy
      · obtain ⟨h1, h2⟩ := hK 0 f k rfl rfl
        obtain ⟨A1, c1, e1⟩ := row_slice h1
        obtain ⟨A2, c2, e2⟩ := stsC_sl h2
        rw [fuC, e1, e2] at hy
        exact one5f y hy
      · exact ih ks (by simpa using hk) (fun i f' k' a b => hK (i + 1) f' k' (by simpa using a) (by simpa using b)) y hy
theorem fusC_append (l l' : List Fu) (ks ks' : List Two) (hk : ks.length = l.length) : fusC (l ++ l') (ks ++ ks') = fusC l ks ++ fusC l' ks' := by
  simp [fusC, List.zipWith_append hk.symm]
/-- two rows of functions, one behind the other -/
theorem Rg.fus {B : Nat} {w9 u : World} {V : Value} {b : Option Nat} {fa fb : List Fu} {ka kb : List Two} (ha : ka.length = fa.length) (hb : kb.length = fb.length)
    (hka : ∀ (i : Nat) (f : Fu) (k : Two), fa[i]? = some f → ka[i]? = some k → FuK w9 (· < B) f k) (hkb : ∀ (i : Nat) (f : Fu) (k : Two), fb[i]? = some f → kb[i]? = some k → FuK w9 (· < B) f k)
    (h : Rg B w9 V (fa.length + fb.length) (fusC fa ka ++ fusC fb kb) b u) : FusC u (· < u.heap.size) (fa ++ fb) V := by
  refine ⟨ka ++ kb, by simp [ha, hb], ?_, ?_⟩
  · have h1 := (RowF.own h.own).more (D' := (· < u.heap.size)) (fun k hk => hk.2)
    rw [fusC_append _ _ _ _ ha, List.length_append]
    exact h1
  · intro i f k hf hk
    have key : FuK w9 (· < B) f k := by
      by_cases hi : i < fa.length
      · rw [List.getElem?_append_left hi] at hf
        rw [List.getElem?_append_left (by omega)] at hk
        exact hka i f k hf hk
      · rw [List.getElem?_append_right (by omega)] at hf
        rw [List.getElem?_append_right (by omega), ha] at hk
        exact hkb _ f k hf hk
    exact (key.same fun q hq => h.bl.block q hq).more fun q hq => Nat.lt_of_lt_of_le hq h.le
theorem Rg.drew {B : Nat} {w9 u : World} {V : Value} {n : Nat} {xs : List Value} {b : Option Nat} (h : Rg B w9 V n xs b u) : Rg B w9 V n xs b u.drew := ⟨h.bl.drew, h.le, h.own, h.var⟩
theorem Rg.stored {B g : Nat} {w9 u uf : World} {V : Value} {n : Nat} {xs : List Value} (h : Rg B w9 V n xs (some g) u) (hbl : Below g u uf) (hb : ∀ k, k ≠ g → uf.heap[k]? = u.heap[k]?) : Rg B w9 V n xs none uf := by
  refine ⟨h.bl.trans (hbl.mono (h.var g rfl).1), Nat.le_trans h.le hbl.size, ⟨h.own.1, ?_⟩, fun _ e => by cases e⟩
  rcases h.own.2 with h' | ⟨g', cap, cur, e, h1, hg, rest⟩
  · exact .inl h'
  · exact .inr ⟨g', cap, cur, e, h1, (hb g' (fun e' => (h.var g rfl).2.1 (by rw [e, ← e']; rfl))).trans hg, rest⟩
theorem Rg.store {B g : Nat} {w9 u : World} {A : Option Addr} {c n : Nat} {xs : List Value} (h : Rg B w9 (.slice A n c) n xs (some g) u) {o : Oper} {a : Act} {K : Act → World → Prop} {Q : Exit → Act → World → Prop} (x y : Operand) (ho : o.op = .store 26 x y) (hd : o.dst = none)
    (hx : a.eval x = .pointer (some ⟨g, 0, none⟩)) (hy : a.eval y = .agg #[.slice A n c])
    (hk : ∀ uf, Rg B w9 (.slice A n c) n xs none uf → uf.cell? ⟨g, 0, none⟩ = some (.slice A n c) → K a uf) : o.wp Tryd.prog a u K Q := by
  have hg := (h.var g rfl).2.2
  have hth : u.there g 0 1 := there_cells (cs := [.slice none 0 0]) hg rfl
  refine wp_store_mid 26 x y ho g 0 #[.slice A n c] hx hy (by simpa using hth) (by simpa using info26s) (by simp [Value.oneCell']) ?_
  have hb := below_cells g 0 [.slice A n c] u
  have h1 := World.rangeAt_setCells_same u g 0 [.slice A n c] (by simpa using hth)
  rw [hd]
  exact hk _ (h.stored hb.1 hb.2.1) (h1 0 _ rfl)
end

section
open Go.RowKit
set_option maxRecDepth 100000
set_option linter.unusedSimpArgs false
set_option linter.unusedVariables false

theorem SimL.symm {l l' : List Ex} (h : SimL l l') : SimL l' l := by
  induction h with
  | nil => exact .nil
  | cons ho hn ht _ _ ihk ihl => exact .cons ho.symm hn.symm ht.symm ihk ihl
theorem SimB.symm {l l' : List St} (h : SimB l l') : SimB l' l := by
  induction h with
  | nil => exact .nil
  | cons ho ht he _ _ _ ihb ihf ihl => exact .cons ho.symm ht.symm he.symm ihb ihf ihl
theorem SimFs.symm {l l' : List Fu} (h : SimFs l l') : SimFs l' l := by
  induction h with
  | nil => exact .nil
  | cons hf _ ih => exact .cons ⟨hf.1.symm, hf.2.1.symm, hf.2.2.1.symm, hf.2.2.2.symm⟩ ih
/-- a block just made is the call's own -/
theorem own_empty (w : World) : (w.alloc (.cells #[] 5)).ownsRow w.heap.size 5 1 (.slice (some ⟨w.heap.size, 0, none⟩) 0 0) 0 (bts []) :=
  ⟨rfl, .inr ⟨w.heap.size, 0, #[], rfl, Nat.le_refl _, heap_alloc_new w _, Nat.le_refl _, Nat.zero_le _, rfl, rfl⟩⟩
theorem FusC.sl {w : World} {D : Nat → Prop} {l : List Fu} {V : Value} (h : FusC w D l V) : ∃ A c, V = .slice A l.length c := by
  obtain ⟨_, _, h, _⟩ := h
  exact row_slice h

set_option maxHeartbeats 3200000 in
theorem row_walk (A A' : Option Addr) (l l' : List Nat) (c c' : Nat) (w : World) (hc : l.length ≤ c) (hcm : c ≤ maxLen) (hl : Lies w w.heap.size A c (bts l)) (hy : Byn l) (hc' : l'.length ≤ c') (hcm' : c' ≤ maxLen) (hl' : Lies w w.heap.size A' c' (bts l')) (hy' : Byn l') (ht : Tab w) :
    Calls Tryd.prog 4 #[.slice A l.length c, .slice A' l'.length c'] w fun e w' => e = .returned (.bool true) ∧ Below w.heap.size w w' := by
  obtain ⟨i0, hi, hz0, hz1, hz2⟩ := info_parts info5b
  have HT := Lib.hid ht
  have hpos := ht.1
  have K := Lib.hid (head_true w ht)
  have HL : Hid (Lies w w.heap.size A c (bts l) ∧ Lies w w.heap.size A' c' (bts l')) := ⟨hl, hl'⟩
  have HY : Hid (Byn l ∧ Byn l') := ⟨hy, hy'⟩
  have HCm : Hid (c ≤ maxLen ∧ c' ≤ maxLen) := ⟨hcm, hcm'⟩
  unfold maxLen at hcm hcm'
  clear ht hl hy hl' hy'
  go_enter Tryd.func4, Tryd.ntmps4
  go_wp2_with fail
  (with_reducible refine K.out.mono ?_)
  clear K
  rintro e w1 ⟨rfl, hb1⟩
  have BW1 := Lib.hid hb1
  have s1 := hb1.size
  clear hb1
  cases hp : parsed l with
  | mk err fa place =>
    cases hp' : parsed l' with
    | mk err' fb place' =>
      have K := Lib.hid (parseZ A l l.length c w1 rfl hc HCm.out.1 ((HL.out.1.below BW1.out).more s1) HY.out.1 (HT.out.below BW1.out hpos) err place fa hp err place rfl rfl)
      have HP : Hid (parsed l = ⟨err, fa, place⟩ ∧ parsed l' = ⟨err', fb, place'⟩) := ⟨hp, hp'⟩
      go_wp2_with fail
      (with_reducible refine K.out.mono ?_)
      clear K
      rintro e w2 ⟨V, rfl, hf2, hb2⟩
      obtain ⟨A2, c2, rfl⟩ := hf2.sl
      have s2 := hb2.size
      have b2a := below_alloc w2 (.cells #[.slice A2 fa.length c2] 26)
      have s2a := b2a.size
      have BW2 := Lib.hid ((BW1.out.trans (hb2.mono s1)).trans (b2a.mono (by omega)))
      have HF2 : Hid (FusC w2 (· < w2.heap.size) fa (.slice A2 fa.length c2)) := hf2.more fun k hk => hk.2
      have HV2 := Lib.hid (heap_alloc_new w2 (.cells #[.slice A2 fa.length c2] 26))
      have HB2a := Lib.hid b2a
      clear hf2 hb2 b2a
      have K := Lib.hid (parseZ A' l' l'.length c' (w2.alloc (.cells #[.slice A2 fa.length c2] 26)) rfl hc' HCm.out.2 ((HL.out.2.below BW2.out).more BW2.out.size) HY.out.2 (HT.out.below BW2.out hpos) err' place' fb hp' err' place' rfl rfl)
      clear hp hp'
      go_wp2_with fail
      generalize w2.alloc (.cells #[.slice A2 fa.length c2] 26) = w2a at *
      (with_reducible refine K.out.mono ?_)
      clear K
      rintro e w3 ⟨V, rfl, hf3, hb3⟩
      obtain ⟨A3, c3, rfl⟩ := hf3.sl
      have s3 := hb3.size
      have b3a := below_alloc w3 (.cells #[.slice A3 fb.length c3] 26)
      have s3a := b3a.size
      have BW3 := Lib.hid ((BW2.out.trans (hb3.mono BW2.out.size)).trans (b3a.mono (Nat.le_trans BW2.out.size s3)))
      have HF3 : Hid (FusC w3 (· < w3.heap.size) fb (.slice A3 fb.length c3)) := hf3.more fun k hk => hk.2
      have HV3 := Lib.hid (heap_alloc_new w3 (.cells #[.slice A3 fb.length c3] 26))
      have HB3 : Hid (Below w2a.heap.size w2a w3) := hb3
      have HB3a := Lib.hid b3a
      clear hf3 hb3 b3a
      by_cases he : err = 0
      · have q1 : (((err : Nat) : Int) != 0) = false := by rw [he]; rfl
        by_cases he' : err' = 0
        · have q2 : (((err' : Nat) : Int) != 0) = false := by rw [he']; rfl
          by_cases hla : l.length ≤ 2000
          · have z1 : decide (2000 < l.length) = false := by simpa using hla
            by_cases hlb : l'.length ≤ 2000
            · have z2 : decide (2000 < l'.length) = false := by simpa using hlb
              have hrow := row_model (by have := HP.out.1; rw [he] at this; exact this) (by have := HP.out.2; rw [he'] at this; exact this) hla hlb
              have HRow := Lib.hid hrow
              have HN : Hid (fa.length ≤ 2048 ∧ fb.length ≤ 2048) := ⟨parsed_len (by have := HP.out.1; rw [he] at this; exact this), parsed_len (by have := HP.out.2; rw [he'] at this; exact this)⟩
              clear hrow he he' HP
              go_upto_region 6 with fail
              have HL3 : Hid (Lies (w3.alloc (.cells #[.slice A3 fb.length c3] 26)) w.heap.size A c (bts l) ∧ Lies (w3.alloc (.cells #[.slice A3 fb.length c3] 26)) w.heap.size A' c' (bts l')) := ⟨HL.out.1.below BW3.out, HL.out.2.below BW3.out⟩
              generalize w3.alloc (.cells #[.slice A3 fb.length c3] 26) = w4 at *
              have HO := Lib.hid (own_empty w4)
              have be := below_alloc w4 (.cells #[] 5)
              have HBe := Lib.hid be
              have HLe : Hid (Lies (w4.alloc (.cells #[] 5)) w.heap.size A c (bts l)) := HL3.out.1.below (be.mono BW3.out.size)
              have he4 : w4.heap.size ≤ (w4.alloc (.cells #[] 5)).heap.size := be.size
              clear be
              go_wp2_with (at_builtin; refine wpList_append_lies rfl _ _ 22 rfl w4.heap.size 5 i0 (.int .u8 0) 1 Tryd.underlying22 hi hz0 hz1 hz2 rfl _ 0 (bts []) rfl HO.out w.heap.size A l.length c (bts l) rfl (bts_length l) HLe.out (bts_one l) (by unfold maxLen; omega) (by omega) he4 ?_; intro v5 w5 ho5 hg5; obtain ⟨A5, c5, rfl⟩ := own_shape ho5; refine Hid.out ?_)
              refine Lib.hid ?_
              have hb5 : Below w4.heap.size w4 w5 := HBe.out.grown hg5 he4 (fun b hb => (HO.out.lt b hb).1)
              have ho5' : w5.ownsRow w4.heap.size 5 1 (.slice A5 l.length c5) l.length (bts l) := by
                have := ho5
                rw [Nat.zero_add] at this
                exact this
              (try rw [Nat.zero_add])
              have HB5 := Lib.hid hb5
              have HBf : Hid (Buf w4.heap.size (.slice A5 l.length c5) l (w5.alloc (.cells #[.int .u8 10] 5))) := Buf.alloc (.inl ho5') _
              have Hg : Hid ((w5.alloc (.cells #[.int .u8 10] 5)).cell? ⟨w5.heap.size, 0, none⟩ = some (.int .u8 ((10 : Nat) : Int))) := by
                show _ = _
                rw [Lib.cell_of_heap (heap_alloc_new w5 (.cells #[.int .u8 10] 5))]
                rfl
              have Hsz : Hid (l.length + 1 ≤ 100000) := by show _ ≤ _; omega
              have hba := below_alloc w5 (.cells #[.int .u8 10] 5)
              have Hba : Hid (w4.heap.size ≤ (w5.alloc (.cells #[.int .u8 10] 5)).heap.size) := Nat.le_trans hb5.size hba.size
              have Hbl : Hid (Below w4.heap.size w4 (w5.alloc (.cells #[.int .u8 10] 5))) := hb5.trans (hba.mono hb5.size)
              clear ho5 ho5' hg5 hb5 hba HO HBe HLe he4
              go_wp2_with (at_builtin; refine wpList_append_buf _ rfl _ _ rfl w4.heap.size _ l 10 rfl HBf.out w5.heap.size rfl Hg.out Hsz.out Hba.out ?_; intro v6 w6 ho6 hb6; obtain ⟨A6, c6, rfl⟩ := own_shape ho6; refine Hid.out ?_)
              refine Lib.hid ?_
              have hb6' : Below w4.heap.size w4 w6 := Hbl.out.trans hb6
              rw [List.length_append, List.length_singleton] at ho6
              have HO6 := Lib.hid ho6
              have HL6 : Hid (Lies w6 w.heap.size A' c' (bts l')) := HL3.out.2.below (hb6'.mono BW3.out.size)
              have HB6 := Lib.hid hb6'
              have h46 : w4.heap.size ≤ w6.heap.size := hb6'.size
              have Hm1 : Hid (l.length + 1 + l'.length ≤ maxLen) := by show _ ≤ _; unfold maxLen; omega
              have Hm2 : Hid ((l.length + 1 + l'.length) * 1 ≤ 140737488355328) := by show _ ≤ _; omega
              clear ho6 hb6 hb6' HBf Hg Hsz Hba Hbl
              go_wp2_with (at_builtin; refine wpList_append_lies rfl _ _ 22 rfl w4.heap.size 5 i0 (.int .u8 0) 1 Tryd.underlying22 hi hz0 hz1 hz2 rfl _ (l.length + 1) (bts (l ++ [10])) rfl HO6.out w.heap.size A' l'.length c' (bts l') rfl (bts_length l') HL6.out (bts_one l') Hm1.out Hm2.out h46 ?_; intro v7 w7 ho7 hg7; obtain ⟨A7, c7, rfl⟩ := own_shape ho7; refine Hid.out ?_)
              refine Lib.hid ?_
              have hb7 : Below w4.heap.size w4 w7 := HB6.out.grown hg7 h46 (fun b hb => (HO6.out.lt b hb).1)
              have hb7' : bts (l ++ [10]) ++ bts l' = bts (l ++ 10 :: l') := by rw [← bts_append]; simp
              have hn7 : (l ++ 10 :: l').length = l.length + 1 + l'.length := by simp; omega
              rw [hb7'] at ho7
              obtain ⟨A8, c8, e8, hc8, hcm8, hl8⟩ := own_lies ho7
              injection e8 with e8 _ e9
              subst e8 e9
              have HN7 := Lib.hid hn7
              have HL8 := Lib.hid hl8
              have HC8 : Hid (l.length + 1 + l'.length ≤ c7 ∧ c7 ≤ maxLen) := ⟨hc8, hcm8⟩
              have HB7 := Lib.hid hb7
              have h47 := hb7.size
              have BW7 := Lib.hid (BW3.out.trans (hb7.mono BW3.out.size))
              have HYr : Hid (Byn (l ++ 10 :: l')) := HY.out.1.append (fun x hx => (List.mem_cons.1 hx).elim (fun e => by rw [e]; decide) (HY.out.2 x))
              clear ho7 hg7 hb7 hb7' hn7 hc8 hcm8 hl8 HO6 HL6 Hm1 Hm2 HB6 HB5
              generalize l.length + 1 + l'.length = n7 at *
              rcases HRow.out with ⟨q, hpr⟩ | ⟨fs, hpr, hsim⟩
              · have K := Lib.hid (parseZ A7 (l ++ 10 :: l') n7 c7 w7 HN7.out HC8.out.1 HC8.out.2 HL8.out HYr.out (HT.out.below BW7.out hpos) 2 q [] hpr 2 q rfl rfl)
                clear hpr
                go_wp2_with fail
                (with_reducible refine K.out.mono ?_)
                clear K
                rintro e w8 ⟨V, rfl, hf8, hb8⟩
                obtain ⟨A9, c9, e9⟩ := hf8.sl
                have e9' : V = .slice A9 0 c9 := e9
                subst e9'
                have b8a := below_alloc w8 (.cells #[.slice A9 0 c9] 26)
                have BW8 := Lib.hid ((BW7.out.trans (hb8.mono BW7.out.size)).trans (b8a.mono (Nat.le_trans BW7.out.size hb8.size)))
                clear hf8 hb8 b8a e9
                go_wp2
                go_ret
                exact ⟨rfl, BW8.out⟩
              · have K := Lib.hid (parseZ A7 (l ++ 10 :: l') n7 c7 w7 HN7.out HC8.out.1 HC8.out.2 HL8.out HYr.out (HT.out.below BW7.out hpos) 0 0 fs hpr 0 0 rfl rfl)
                have HSim := Lib.hid hsim
                clear hpr hsim
                go_wp2_with fail
                (with_reducible refine K.out.mono ?_)
                clear K
                rintro e w8 ⟨V, rfl, hf8, hb8⟩
                obtain ⟨A9, c9, rfl⟩ := hf8.sl
                have b8a := below_alloc w8 (.cells #[.slice A9 fs.length c9] 26)
                have h48 : w4.heap.size ≤ w8.heap.size := Nat.le_trans h47 hb8.size
                have HB8 : Hid (Below w4.heap.size w4 (w8.alloc (.cells #[.slice A9 fs.length c9] 26))) := (HB7.out.trans (hb8.mono h47)).trans (b8a.mono h48)
                have HF8 : Hid (FusC w8 (· < w8.heap.size) fs (.slice A9 fs.length c9)) := hf8.more fun k hk => hk.2
                have HV8 := Lib.hid (heap_alloc_new w8 (.cells #[.slice A9 fs.length c9] 26))
                have HB8a := Lib.hid b8a
                have s8a := b8a.size
                clear hf8 hb8 b8a
                go_upto_region 9 with fail
                generalize w8.alloc (.cells #[.slice A9 fs.length c9] 26) = w9 at *
                have l2 : w2.heap.size < w2a.heap.size := (Array.getElem?_eq_some_iff.1 HV2.out).1
                have l3 : w3.heap.size < w4.heap.size := (Array.getElem?_eq_some_iff.1 HV3.out).1
                have l8 : w8.heap.size < w9.heap.size := (Array.getElem?_eq_some_iff.1 HV8.out).1
                have HVa := Lib.hid ((HB8.out.block w2.heap.size (by omega)).trans ((HB3a.out.block w2.heap.size (by omega)).trans ((HB3.out.block _ l2).trans HV2.out)))
                have HVb := Lib.hid ((HB8.out.block _ l3).trans HV3.out)
                have h49 := HB8.out.size
                have HS : Hid (∀ u, Below w9.heap.size w9 u → u.cell? ⟨w2.heap.size, 0, none⟩ = some (.slice A2 fa.length c2) ∧ u.cell? ⟨w3.heap.size, 0, none⟩ = some (.slice A3 fb.length c3)) := fun u hu => ⟨by rw [Lib.cell_of_heap ((hu.block _ (by omega)).trans HVa.out)]; rfl, by rw [Lib.cell_of_heap ((hu.block _ (by omega)).trans HVb.out)]; rfl⟩
                have HC8b : Hid (∀ u, Below w9.heap.size w9 u → u.cell? ⟨w8.heap.size, 0, none⟩ = some (.slice A9 fs.length c9)) := fun u hu => by rw [Lib.cell_of_heap ((hu.block _ l8).trans HV8.out)]; rfl
                have hfa : FusC w9 (· < w9.heap.size) fa (.slice A2 fa.length c2) := (HF2.out.same fun k hk => (HB8.out.block k (by omega)).trans ((HB3a.out.block k (by omega)).trans ((HB3.out.block k (by omega)).trans (HB2a.out.block k hk)))).more fun k hk => by omega
                have hfb : FusC w9 (· < w9.heap.size) fb (.slice A3 fb.length c3) := (HF3.out.same fun k hk => (HB8.out.block k (by omega)).trans (HB3a.out.block k hk)).more fun k hk => by omega
                have hf9 : FusC w9 (· < w9.heap.size) fs (.slice A9 fs.length c9) := (HF8.out.same fun k hk => HB8a.out.block k hk).more fun k hk => by omega
                obtain ⟨ka, hka, hra, hfa⟩ := hfa
                obtain ⟨kb, hkb, hrb, hfb⟩ := hfb
                have HRa := Lib.hid hra
                have HRb := Lib.hid hrb
                have HLa := Lib.hid (fusC_len fa ka hka)
                have HLb := Lib.hid (fusC_len fb kb hkb)
                have HOa := Lib.hid (fusC_one fa ka hka hfa)
                have HOb := Lib.hid (fusC_one fb kb hkb hfb)
                have HEnd : Hid (∀ V u, Rg w9.heap.size w9 V (fa.length + fb.length) (fusC fa ka ++ fusC fb kb) none u → Calls Tryd.prog 11 #[.agg #[.slice A9 fs.length c9], .agg #[V], .bool false] u (Yes u)) := fun V u h =>
                  sameP fs (fa ++ fb) (AlsoFs.of_sim HSim.out.symm) _ V u u.heap.size (Nat.le_refl _) ((hf9.same fun k hk => h.bl.block k hk).more fun k hk => Nat.lt_of_lt_of_le hk h.le) (h.fus hka hkb hfa hfb)
                have BWf : Hid (Below w.heap.size w w9) := BW3.out.trans (HB8.out.mono BW3.out.size)
                have hw9 : w.heap.size ≤ w9.heap.size := BWf.out.size
                have R0 := Lib.hid (Rg.start w9).drew
                clear hfa hfb hf9 hra hrb hka hkb HF2 HF3 HF8 HVa HVb HV2 HV3 HV8 HB2a HB3 HB3a HB8 HB8a HSim HN7 HL8 HC8 HB7 BW7 HYr
                refine wp_region_held_drew (S := fun u => u.cell? ⟨w2.heap.size, 0, none⟩ = some (.slice A2 fa.length c2) ∧ u.cell? ⟨w3.heap.size, 0, none⟩ = some (.slice A3 fb.length c3)) (by kernel_rfl) (HS.out _ R0.out.bl) (fun hHeld => ?_)
                refine wpAnyH_take (i := 1) (v := ?v1) rfl (by kernel_rfl) (by kernel_rfl) (by kernel_rfl) (fun _ _ _ h => h) (Or.inl ⟨by kernel_rfl, ?y1⟩) (by assumption) ?r1
                case y1 => (intro w hSw; (try dsimp only at hSw); obtain ⟨s1, s2⟩ := hSw; go_simp; (try with_reducible rfl))
                try simp only [Act.put, List.getElem_toArray, List.getElem_cons_zero, List.getElem_cons_succ, List.setIfInBounds_toArray, List.set_cons_zero, List.set_cons_succ]
                refine wpAnyH_take (i := 2) (v := ?v2) rfl (by kernel_rfl) (by kernel_rfl) (by kernel_rfl) (fun _ _ _ h => h) (Or.inl ⟨by kernel_rfl, ?y2⟩) (by assumption) ?r2
                case y2 => (intro w hSw; (try dsimp only at hSw); obtain ⟨s1, s2⟩ := hSw; go_simp; (try with_reducible rfl))
                try simp only [Act.put, List.getElem_toArray, List.getElem_cons_zero, List.getElem_cons_succ, List.setIfInBounds_toArray, List.set_cons_zero, List.set_cons_succ]
                refine wpAnyH_take (i := 4) (v := ?v3) rfl (by kernel_rfl) (by kernel_rfl) (by kernel_rfl) (fun _ _ _ h => h) (Or.inl ⟨by kernel_rfl, ?y3⟩) (by assumption) ?r3
                case y3 => (intro w hSw; (try dsimp only at hSw); obtain ⟨s1, s2⟩ := hSw; go_simp; (try with_reducible rfl))
                try simp only [Act.put, List.getElem_toArray, List.getElem_cons_zero, List.getElem_cons_succ, List.setIfInBounds_toArray, List.set_cons_zero, List.set_cons_succ]
                refine wpAnyH_take (i := 5) (v := ?v4) rfl (by kernel_rfl) (by kernel_rfl) (by kernel_rfl) (fun _ _ _ h => h) (Or.inl ⟨by kernel_rfl, ?y4⟩) (by assumption) ?r4
                case y4 => (intro w hSw; (try dsimp only at hSw); obtain ⟨s1, s2⟩ := hSw; go_simp; (try with_reducible rfl))
                try simp only [Act.put, List.getElem_toArray, List.getElem_cons_zero, List.getElem_cons_succ, List.setIfInBounds_toArray, List.set_cons_zero, List.set_cons_succ]
                generalize w9.drew = wd at *
                refine wpAnyH_ready (rs := [0, 8]) (by kernel_rfl) (by simp) ?_
                refine AllReadyH.cons rfl (fun K hK => ?_) (AllReadyH.cons rfl (fun K hK => ?_) AllReadyH.nil)
                · skip
                  go_simp
                  have R5 := Lib.hid R0.out.row
                  refine hK.out _ _ (HS.out _ R5.out.bl) (fun hHeld => ?_)
                  clear hK K
                  generalize wd.alloc (.cells #[] 47) = u5 at *
                  refine wpAnyH_ready (rs := [3, 8]) (by kernel_rfl) (by simp) ?_
                  refine AllReadyH.cons rfl (fun K hK => ?_) (AllReadyH.cons rfl (fun K hK => ?_) AllReadyH.nil)
                  · skip
                    rw [if_pos (by rfl)]
                    refine R5.out.put (.tmp 61) (.tmp 63) rfl rfl A2 fa.length c2 rfl (fusC fa ka) HRa.out HLa.out HOa.out (by have := HN.out.1; omega) fa.length (Nat.zero_add _) (fusC fa ka) rfl ?_
                    intro B6 d6 u6 hR6
                    have R6 := Lib.hid hR6
                    clear hR6
                    refine hK.out _ _ (HS.out _ R6.out.bl) (fun hHeld => ?_)
                    clear hK K
                    try simp only [Act.put, List.getElem_toArray, List.getElem_cons_zero, List.getElem_cons_succ, List.setIfInBounds_toArray, List.set_cons_zero, List.set_cons_succ]
                    refine wpAnyH_ready (rs := [6, 8]) (by kernel_rfl) (by simp) ?_
                    refine AllReadyH.cons rfl (fun K hK => ?_) (AllReadyH.cons rfl (fun K hK => ?_) AllReadyH.nil)
                    · skip
                      rw [if_pos (by rfl)]
                      refine R6.out.put (.tmp 64) (.tmp 66) rfl rfl A3 fb.length c3 rfl (fusC fb kb) HRb.out HLb.out HOb.out (by have := HN.out; omega) (fa.length + fb.length) rfl (fusC fa ka ++ fusC fb kb) rfl ?_
                      intro B7 d7 u7 hR7
                      have R7 := Lib.hid hR7
                      clear hR7
                      refine hK.out _ _ (HS.out _ R7.out.bl) (fun hHeld => ?_)
                      clear hK K
                      try simp only [Act.put, List.getElem_toArray, List.getElem_cons_zero, List.getElem_cons_succ, List.setIfInBounds_toArray, List.set_cons_zero, List.set_cons_succ]
                      refine wpAnyH_take (i := 7) (v := ?v8) rfl (by kernel_rfl) (by kernel_rfl) (by kernel_rfl) (fun _ _ _ h => h) (Or.inl ⟨by kernel_rfl, ?y8⟩) (by assumption) ?r8
                      case y8 => (intro w hSw; (try dsimp only at hSw); obtain ⟨s1, s2⟩ := hSw; go_simp; (try with_reducible rfl))
                      try simp only [Act.put, List.getElem_toArray, List.getElem_cons_zero, List.getElem_cons_succ, List.setIfInBounds_toArray, List.set_cons_zero, List.set_cons_succ]
                      refine wpAnyH_ready (rs := [8]) (by kernel_rfl) (by simp) ?_
                      refine AllReadyH.cons rfl (fun K hK => ?_) AllReadyH.nil
                      go_simp
                      have R9 := Lib.hid R7.out.made
                      refine hK.out _ _ (HS.out _ R9.out.bl) (fun hHeld => ?_)
                      clear hK K
                      generalize u7.alloc (.cells #[.slice none 0 0] 26) = u9 at *
                      refine wpAnyH_ready (rs := [9]) (by kernel_rfl) (by simp) ?_
                      refine AllReadyH.cons rfl (fun K hK => ?_) AllReadyH.nil
                      rw [if_pos (by rfl)]
                      refine R9.out.store (.tmp 15) (.tmp 68) rfl rfl rfl rfl ?_
                      intro uf hRf hcf
                      have HRf := Lib.hid hRf
                      refine hK.out _ _ (HS.out _ HRf.out.bl) (fun hHeld => ?_)
                      clear hK K hRf hHeld
                      refine wpAnyH_done (by kernel_rfl) ?_ _
                      have hc8 := HC8b.out _ HRf.out.bl
                      have K := Lib.hid (HEnd.out _ _ HRf.out)
                      have HBf := Lib.hid HRf.out.bl
                      go_wp2_with fail
                      (with_reducible refine K.out.mono ?_)
                      clear K
                      rintro e' wz ⟨rfl, hbz⟩
                      have HBz := Lib.hid (HBf.out.trans (hbz.mono (Nat.le_trans HRf.out.le (Nat.le_refl _))))
                      clear hbz
                      go_wp2
                      go_ret
                      exact ⟨rfl, BWf.out.trans (HBz.out.mono hw9)⟩
                    · skip
                      go_simp
                      have R10 := Lib.hid R6.out.made
                      refine hK.out _ _ (HS.out _ R10.out.bl) (fun hHeld => ?_)
                      clear hK K
                      generalize u6.alloc (.cells #[.slice none 0 0] 26) = u10 at *
                      refine wpAnyH_ready (rs := [6]) (by kernel_rfl) (by simp) ?_
                      refine AllReadyH.cons rfl (fun K hK => ?_) AllReadyH.nil
                      rw [if_pos (by rfl)]
                      refine R10.out.put (.tmp 64) (.tmp 66) rfl rfl A3 fb.length c3 rfl (fusC fb kb) HRb.out HLb.out HOb.out (by have := HN.out; omega) (fa.length + fb.length) rfl (fusC fa ka ++ fusC fb kb) rfl ?_
                      intro B11 d11 u11 hR11
                      have R11 := Lib.hid hR11
                      clear hR11
                      refine hK.out _ _ (HS.out _ R11.out.bl) (fun hHeld => ?_)
                      clear hK K
                      try simp only [Act.put, List.getElem_toArray, List.getElem_cons_zero, List.getElem_cons_succ, List.setIfInBounds_toArray, List.set_cons_zero, List.set_cons_succ]
                      refine wpAnyH_take (i := 7) (v := ?v12) rfl (by kernel_rfl) (by kernel_rfl) (by kernel_rfl) (fun _ _ _ h => h) (Or.inl ⟨by kernel_rfl, ?y12⟩) (by assumption) ?r12
                      case y12 => (intro w hSw; (try dsimp only at hSw); obtain ⟨s1, s2⟩ := hSw; go_simp; (try with_reducible rfl))
                      try simp only [Act.put, List.getElem_toArray, List.getElem_cons_zero, List.getElem_cons_succ, List.setIfInBounds_toArray, List.set_cons_zero, List.set_cons_succ]
                      refine wpAnyH_ready (rs := [9]) (by kernel_rfl) (by simp) ?_
                      refine AllReadyH.cons rfl (fun K hK => ?_) AllReadyH.nil
                      rw [if_pos (by rfl)]
                      refine R11.out.store (.tmp 15) (.tmp 68) rfl rfl rfl rfl ?_
                      intro uf hRf hcf
                      have HRf := Lib.hid hRf
                      refine hK.out _ _ (HS.out _ HRf.out.bl) (fun hHeld => ?_)
                      clear hK K hRf hHeld
                      refine wpAnyH_done (by kernel_rfl) ?_ _
                      have hc8 := HC8b.out _ HRf.out.bl
                      have K := Lib.hid (HEnd.out _ _ HRf.out)
                      have HBf := Lib.hid HRf.out.bl
                      go_wp2_with fail
                      (with_reducible refine K.out.mono ?_)
                      clear K
                      rintro e' wz ⟨rfl, hbz⟩
                      have HBz := Lib.hid (HBf.out.trans (hbz.mono (Nat.le_trans HRf.out.le (Nat.le_refl _))))
                      clear hbz
                      go_wp2
                      go_ret
                      exact ⟨rfl, BWf.out.trans (HBz.out.mono hw9)⟩
                  · skip
                    go_simp
                    have R13 := Lib.hid R5.out.made
                    refine hK.out _ _ (HS.out _ R13.out.bl) (fun hHeld => ?_)
                    clear hK K
                    generalize u5.alloc (.cells #[.slice none 0 0] 26) = u13 at *
                    refine wpAnyH_ready (rs := [3]) (by kernel_rfl) (by simp) ?_
                    refine AllReadyH.cons rfl (fun K hK => ?_) AllReadyH.nil
                    rw [if_pos (by rfl)]
                    refine R13.out.put (.tmp 61) (.tmp 63) rfl rfl A2 fa.length c2 rfl (fusC fa ka) HRa.out HLa.out HOa.out (by have := HN.out.1; omega) fa.length (Nat.zero_add _) (fusC fa ka) rfl ?_
                    intro B14 d14 u14 hR14
                    have R14 := Lib.hid hR14
                    clear hR14
                    refine hK.out _ _ (HS.out _ R14.out.bl) (fun hHeld => ?_)
                    clear hK K
                    try simp only [Act.put, List.getElem_toArray, List.getElem_cons_zero, List.getElem_cons_succ, List.setIfInBounds_toArray, List.set_cons_zero, List.set_cons_succ]
                    refine wpAnyH_ready (rs := [6]) (by kernel_rfl) (by simp) ?_
                    refine AllReadyH.cons rfl (fun K hK => ?_) AllReadyH.nil
                    rw [if_pos (by rfl)]
                    refine R14.out.put (.tmp 64) (.tmp 66) rfl rfl A3 fb.length c3 rfl (fusC fb kb) HRb.out HLb.out HOb.out (by have := HN.out; omega) (fa.length + fb.length) rfl (fusC fa ka ++ fusC fb kb) rfl ?_
                    intro B15 d15 u15 hR15
                    have R15 := Lib.hid hR15
                    clear hR15
                    refine hK.out _ _ (HS.out _ R15.out.bl) (fun hHeld => ?_)
                    clear hK K
                    try simp only [Act.put, List.getElem_toArray, List.getElem_cons_zero, List.getElem_cons_succ, List.setIfInBounds_toArray, List.set_cons_zero, List.set_cons_succ]
                    refine wpAnyH_take (i := 7) (v := ?v16) rfl (by kernel_rfl) (by kernel_rfl) (by kernel_rfl) (fun _ _ _ h => h) (Or.inl ⟨by kernel_rfl, ?y16⟩) (by assumption) ?r16
                    case y16 => (intro w hSw; (try dsimp only at hSw); obtain ⟨s1, s2⟩ := hSw; go_simp; (try with_reducible rfl))
                    try simp only [Act.put, List.getElem_toArray, List.getElem_cons_zero, List.getElem_cons_succ, List.setIfInBounds_toArray, List.set_cons_zero, List.set_cons_succ]
                    refine wpAnyH_ready (rs := [9]) (by kernel_rfl) (by simp) ?_
                    refine AllReadyH.cons rfl (fun K hK => ?_) AllReadyH.nil
                    rw [if_pos (by rfl)]
                    refine R15.out.store (.tmp 15) (.tmp 68) rfl rfl rfl rfl ?_
                    intro uf hRf hcf
                    have HRf := Lib.hid hRf
                    refine hK.out _ _ (HS.out _ HRf.out.bl) (fun hHeld => ?_)
                    clear hK K hRf hHeld
                    refine wpAnyH_done (by kernel_rfl) ?_ _
                    have hc8 := HC8b.out _ HRf.out.bl
                    have K := Lib.hid (HEnd.out _ _ HRf.out)
                    have HBf := Lib.hid HRf.out.bl
                    go_wp2_with fail
                    (with_reducible refine K.out.mono ?_)
                    clear K
                    rintro e' wz ⟨rfl, hbz⟩
                    have HBz := Lib.hid (HBf.out.trans (hbz.mono (Nat.le_trans HRf.out.le (Nat.le_refl _))))
                    clear hbz
                    go_wp2
                    go_ret
                    exact ⟨rfl, BWf.out.trans (HBz.out.mono hw9)⟩
                · skip
                  go_simp
                  have R17 := Lib.hid R0.out.made
                  refine hK.out _ _ (HS.out _ R17.out.bl) (fun hHeld => ?_)
                  clear hK K
                  generalize wd.alloc (.cells #[.slice none 0 0] 26) = u17 at *
                  refine wpAnyH_ready (rs := [0]) (by kernel_rfl) (by simp) ?_
                  refine AllReadyH.cons rfl (fun K hK => ?_) AllReadyH.nil
                  go_simp
                  have R18 := Lib.hid R17.out.row
                  refine hK.out _ _ (HS.out _ R18.out.bl) (fun hHeld => ?_)
                  clear hK K
                  generalize u17.alloc (.cells #[] 47) = u18 at *
                  refine wpAnyH_ready (rs := [3]) (by kernel_rfl) (by simp) ?_
                  refine AllReadyH.cons rfl (fun K hK => ?_) AllReadyH.nil
                  rw [if_pos (by rfl)]
                  refine R18.out.put (.tmp 61) (.tmp 63) rfl rfl A2 fa.length c2 rfl (fusC fa ka) HRa.out HLa.out HOa.out (by have := HN.out.1; omega) fa.length (Nat.zero_add _) (fusC fa ka) rfl ?_
                  intro B19 d19 u19 hR19
                  have R19 := Lib.hid hR19
                  clear hR19
                  refine hK.out _ _ (HS.out _ R19.out.bl) (fun hHeld => ?_)
                  clear hK K
                  try simp only [Act.put, List.getElem_toArray, List.getElem_cons_zero, List.getElem_cons_succ, List.setIfInBounds_toArray, List.set_cons_zero, List.set_cons_succ]
                  refine wpAnyH_ready (rs := [6]) (by kernel_rfl) (by simp) ?_
                  refine AllReadyH.cons rfl (fun K hK => ?_) AllReadyH.nil
                  rw [if_pos (by rfl)]
                  refine R19.out.put (.tmp 64) (.tmp 66) rfl rfl A3 fb.length c3 rfl (fusC fb kb) HRb.out HLb.out HOb.out (by have := HN.out; omega) (fa.length + fb.length) rfl (fusC fa ka ++ fusC fb kb) rfl ?_
                  intro B20 d20 u20 hR20
                  have R20 := Lib.hid hR20
                  clear hR20
                  refine hK.out _ _ (HS.out _ R20.out.bl) (fun hHeld => ?_)
                  clear hK K
                  try simp only [Act.put, List.getElem_toArray, List.getElem_cons_zero, List.getElem_cons_succ, List.setIfInBounds_toArray, List.set_cons_zero, List.set_cons_succ]
                  refine wpAnyH_take (i := 7) (v := ?v21) rfl (by kernel_rfl) (by kernel_rfl) (by kernel_rfl) (fun _ _ _ h => h) (Or.inl ⟨by kernel_rfl, ?y21⟩) (by assumption) ?r21
                  case y21 => (intro w hSw; (try dsimp only at hSw); obtain ⟨s1, s2⟩ := hSw; go_simp; (try with_reducible rfl))
                  try simp only [Act.put, List.getElem_toArray, List.getElem_cons_zero, List.getElem_cons_succ, List.setIfInBounds_toArray, List.set_cons_zero, List.set_cons_succ]
                  refine wpAnyH_ready (rs := [9]) (by kernel_rfl) (by simp) ?_
                  refine AllReadyH.cons rfl (fun K hK => ?_) AllReadyH.nil
                  rw [if_pos (by rfl)]
                  refine R20.out.store (.tmp 15) (.tmp 68) rfl rfl rfl rfl ?_
                  intro uf hRf hcf
                  have HRf := Lib.hid hRf
                  refine hK.out _ _ (HS.out _ HRf.out.bl) (fun hHeld => ?_)
                  clear hK K hRf hHeld
                  refine wpAnyH_done (by kernel_rfl) ?_ _
                  have hc8 := HC8b.out _ HRf.out.bl
                  have K := Lib.hid (HEnd.out _ _ HRf.out)
                  have HBf := Lib.hid HRf.out.bl
                  go_wp2_with fail
                  (with_reducible refine K.out.mono ?_)
                  clear K
                  rintro e' wz ⟨rfl, hbz⟩
                  have HBz := Lib.hid (HBf.out.trans (hbz.mono (Nat.le_trans HRf.out.le (Nat.le_refl _))))
                  clear hbz
                  go_wp2
                  go_ret
                  exact ⟨rfl, BWf.out.trans (HBz.out.mono hw9)⟩
            · have z2 : decide (2000 < l'.length) = true := by simp; omega
              clear he he' HP
              go_wp2
              go_ret
              exact ⟨rfl, BW3.out⟩
          · have z1 : decide (2000 < l.length) = true := by simp; omega
            clear he he' HP
            go_wp2
            go_ret
            exact ⟨rfl, BW3.out⟩
        · have q2 : (((err' : Nat) : Int) != 0) = true := by rw [bne_iff_ne]; omega
          clear he he' HP
          go_wp2
          go_ret
          exact ⟨rfl, BW3.out⟩
      · have q1 : (((err : Nat) : Int) != 0) = true := by rw [bne_iff_ne]; omega
        clear he HP
        go_wp2
        go_ret
        exact ⟨rfl, BW3.out⟩
end
end Go.Proofs.YtoicncfpoklanaaDoor
