/- What the program's 'Lex' returns: the document's tokens, or the error and its place. Conditions: what is read lies in memory; the tables lie as the program lays them. -/
import Derived.Test.YtoicncfpoklanaaDoorF
namespace Go.Proofs.YtoicncfpoklanaaDoor
open Go.RowKit
set_option maxRecDepth 100000

theorem info77 : (Tryd.prog.info? 77).map (fun i => (i.zero, i.size, i.bytes)) = some (some (.agg #[.int .i64 0, .string ⟨#[]⟩, .int .i64 0, .int .i64 0]), 4, 40) := by kernel_rfl

/-- the cells of tokens -/
def tokC (t : Tok) : List Value := [.int .i64 t.kind, .string (strN t.text), .int .i64 t.num, .int .i64 t.place]
def toksC (ts : List Tok) : List Value := ts.flatMap tokC
theorem toksC_snoc (ts : List Tok) (t : Tok) : toksC (ts ++ [t]) = toksC ts ++ tokC t := by simp [toksC]
theorem toksC_length (ts : List Tok) : (toksC ts).length = ts.length * 4 := by
  induction ts with
  | nil => rfl
  | cons t ts ih =>
    have : toksC (t :: ts) = tokC t ++ toksC ts := rfl
    rw [this, List.length_append, ih]
    simp [tokC]
    omega
/-- what 'Lex' returns -/
def LexO (w : World) (o : Out) (e : Ending) (w' : World) : Prop :=
  ∃ v, e = .returned (.tuple #[v, .int .i64 o.err, .int .i64 o.place]) ∧ w'.ownsRow w.heap.size 77 4 v o.toks.length (toksC o.toks) ∧ Below w.heap.size w w'

theorem row_cells (w : World) (c0 c1 c2 c3 : Value) : ∀ j u, [c0, c1, c2, c3][j]? = some u → (w.alloc (.cells #[c0, c1, c2, c3] 77)).cell? ((Addr.mk w.heap.size 0 none).add j) = some u := by
  intro j u h
  have e : (Addr.mk w.heap.size 0 none).add j = ⟨w.heap.size, j, none⟩ := by unfold Addr.add; split <;> simp_all
  rw [e]
  exact cell_new w [c0, c1, c2, c3] 77 (0, 0) j h

theorem own_shape {w : World} {base : Nat} {e : TypeId} {size : Nat} {v : Value} {n : Nat} {xs : List Value} (h : w.ownsRow base e size v n xs) : ∃ A c, v = .slice A n c := by
  rcases h.2 with ⟨h1, h2⟩ | ⟨g, cap, cur, h1, _⟩
  · exact ⟨none, 0, h1.trans (by rw [h2])⟩
  · exact ⟨_, _, h1⟩
theorem below_two {B : Nat} {w w1 : World} (h : Below B w w1) (hB : B ≤ w1.heap.size) (o o' : Obj) : Below B w ((w1.alloc o).alloc o') := by
  have h1 := h.alloc hB o
  exact h1.alloc (by simp; omega) o'

theorem one4 {k n p : Int} {s : ByteArray} : ∀ u ∈ [Value.int .i64 k, .string s, .int .i64 n, .int .i64 p], u.oneCell' = true := by
  intro u hu
  simp at hu
  rcases hu with rfl | rfl | rfl | rfl <;> rfl

theorem own_toks {w : World} {base : Nat} {v : Value} {ts : List Tok} {kind num place : Nat} {text : List Nat} (h : w.ownsRow base 77 4 v (ts.length + 1) (toksC ts ++ [.int .i64 kind, .string (strN text), .int .i64 num, .int .i64 place])) :
    w.ownsRow base 77 4 v (ts ++ [Tok.mk kind text num place]).length (toksC (ts ++ [Tok.mk kind text num place])) := by
  rw [toksC_snoc, List.length_append]
  exact h

set_option maxHeartbeats 3200000 in
theorem lex (A : Option Addr) (l : List Nat) (c : Nat) (w : World) (hc : l.length ≤ c) (hcm : c ≤ maxLen) (hl : Lies w w.heap.size A c (bts l)) (hy : Byn l) (ht : Tab w) :
    Calls Tryd.prog 13 #[.slice A l.length c] w (LexO w (lexed l)) := by
  have HL := Lib.hid hl
  have HY := Lib.hid hy
  have HT := Lib.hid ht
  have hpos := ht.1
  clear hl hy ht
  have hcm' := hcm
  unfold maxLen at hcm'
  obtain ⟨i0, hi, hz0, hz1, hz2⟩ := info_parts info77
  by_cases hbig : l.length > 4096
  · have HE : Hid (lexed l = ⟨2, [], 0⟩) := by show _ = _; unfold lexed; rw [if_pos hbig]
    clear hi hz0 hz1 hz2
    go_enter Tryd.func13, Tryd.ntmps13
    go_wp2
    go_ret3
    rw [HE.out]
    exact ⟨_, rfl, World.ownsRow_nil _ _ _ _, Below.refl _ _⟩
  · have HE := Lib.hid (lexed_rest (l := l) (by omega))
    go_enter Tryd.func13, Tryd.ntmps13
    go_wp2_with fail
    refine (skipSpace A l c 0 w hc hcm HL.out HY.out (by omega)).mono ?_
    rintro e w0 ⟨rfl, hb0⟩
    have hs0 := skip_le l 0 (Nat.zero_le _)
    generalize skip l 0 = p0 at *
    have HB0 := Lib.hid hb0
    clear hb0
    go_wp2
    go_loopw [5, 6] (fun v i wr => ∃ (p : Nat) (ts : List Tok), p ≤ l.length ∧ ts.length ≤ 2048 ∧ i = .int .i64 p ∧ wr.ownsRow w.heap.size 77 4 v ts.length (toksC ts) ∧ Below w.heap.size w wr ∧ Hid (lexed l = rest l p ts)) (fun _ i _ => l.length - (intOf i).toNat)
    case atStart => exact ⟨p0, [], hs0, Nat.zero_le _, rfl, World.ownsRow_nil _ _ _ _, HB0.out, HE.out⟩
    case round =>
      clear HE HB0
      obtain ⟨p, ts, hp, hts, rfl, hown, hbel, HR⟩ := hrel
      have HO := Lib.hid hown
      have HB := Lib.hid hbel
      have hsz := hbel.size
      clear hown hbel
      by_cases hlt : p < l.length
      · go_wp2_with fail
        refine (readToken A l c p wr hc hcm ((HL.out.below HB.out).more hsz) HY.out hlt (HT.out.below HB.out hpos)).mono ?_
        rintro e w1 ⟨rfl, hb1⟩
        have HB1 := Lib.hid (HB.out.trans (hb1.mono hsz))
        have HO1 := Lib.hid (own_below HO.out hb1 (Nat.le_refl _))
        have hsz1 := Nat.le_trans hsz hb1.size
        clear hb1
        have HN0 : Hid ((readT (l.drop p)).err ≠ 0 → rest l p ts = ⟨(readT (l.drop p)).err, [], p⟩) := fun h => rest_bad ts hlt h
        have HN1 : Hid ((readT (l.drop p)).err = 0 → ts.length = 2048 → rest l p ts = ⟨2, [], p⟩) := fun h h2 => rest_many hlt h h2
        have HN2 : Hid ((readT (l.drop p)).err = 0 → ts.length ≠ 2048 → rest l p ts = rest l (skip l (p + (readT (l.drop p)).len)) (ts ++ [⟨(readT (l.drop p)).kind, (readT (l.drop p)).text, (readT (l.drop p)).num, p⟩])) := fun h h2 => rest_next hlt h h2
        have HLn : Hid ((readT (l.drop p)).err = 0 → 1 ≤ (readT (l.drop p)).len ∧ (readT (l.drop p)).len ≤ (l.drop p).length) := read_len (l.drop p)
        generalize readT (l.drop p) = r at *
        obtain ⟨er, kind, text, num, len⟩ := r
        dsimp only at HN0 HN1 HN2 HLn
        by_cases her : er = 0
        · subst her
          rw [readV_ok, okV]
          have hlen := HLn.out rfl
          rw [List.length_drop] at hlen
          by_cases hfull : ts.length = 2048
          · have HX := Lib.hid (HN1.out rfl hfull)
            clear HN0 HN1 HN2 HLn hi hz0 hz1 hz2
            obtain ⟨A1, c1, hv⟩ := own_shape HO1.out
            subst hv
            go_wp2
            go_ret3
            rw [HR.out, HX.out]
            exact ⟨_, rfl, World.ownsRow_nil _ _ _ _, HB1.out.alloc hsz1 _⟩
          · have HX := Lib.hid (HN2.out rfl hfull)
            have hfull' : ts.length < 2048 := by omega
            clear HN0 HN1 HN2 HLn
            obtain ⟨A1, c1, hv⟩ := own_shape HO1.out
            subst hv
            have ho2 := Lib.hid ((HO1.out.alloc (.cells #[.int .i64 kind, .string (strN text), .int .i64 num, .int .i64 p] 77)).alloc (.cells #[.int .i64 kind, .string (strN text), .int .i64 num, .int .i64 p] 77))
            have hb2 := Lib.hid (below_two HB1.out hsz1 (.cells #[.int .i64 kind, .string (strN text), .int .i64 num, .int .i64 p] 77) (.cells #[.int .i64 kind, .string (strN text), .int .i64 num, .int .i64 p] 77))
            have hr2 := row_cells (w1.alloc (.cells #[.int .i64 kind, .string (strN text), .int .i64 num, .int .i64 p] 77)) (.int .i64 kind) (.string (strN text)) (.int .i64 num) (.int .i64 p)
            rw [World.size_alloc] at hr2
            replace hr2 := Lib.hid hr2
            have hbig2 : w.heap.size ≤ ((w1.alloc (.cells #[.int .i64 kind, .string (strN text), .int .i64 num, .int .i64 p] 77)).alloc (.cells #[.int .i64 kind, .string (strN text), .int .i64 num, .int .i64 p] 77)).heap.size := by simp; omega
            have HZ2 := Lib.hid hbig2
            clear hbig2
            go_wp2_with (at_builtin; refine wpList_append_own _ rfl (.tmp 37) (.tmp 39) 51 rfl w.heap.size 77 i0 _ 4 40 Tryd.underlying51 hi hz0 hz1 hz2 rfl (by omega) _ _ _ rfl ho2.out ⟨w1.heap.size + 1, 0, none⟩ 1 1 [.int .i64 kind, .string (strN text), .int .i64 num, .int .i64 p] rfl rfl hr2.out one4 (by unfold maxLen; omega) (by omega) HZ2.out ?_; intro v3 w3 ho3 hg3 hn3)
            have hb3 : Below w.heap.size w w3 := hb2.out.grown hg3 HZ2.out (fun k hk => (ho2.out.lt k hk).1)
            have hs3 := hb3.size
            have HO3 := Lib.hid (own_toks ho3)
            have HB3 := Lib.hid hb3
            clear ho3 hg3 hn3 hb3 ho2 hb2 hr2 HZ2 hi hz0 hz1 hz2
            rw [show ((p : Int) + (len : Int)) = ((p + len : Nat) : Int) by simp]
            refine (skipSpace A l c (p + len) w3 hc hcm ((HL.out.below HB3.out).more hs3) HY.out (by omega)).mono ?_
            rintro e w4 ⟨rfl, hb4⟩
            have hsk1 := skip_le l (p + len) (by omega)
            have hsk2 := skip_ge l (p + len)
            have HB4 := Lib.hid (HB3.out.trans (hb4.mono hs3))
            have HO4 := Lib.hid (own_below HO3.out hb4 (Nat.le_refl _))
            clear hb4
            generalize skip l (p + len) = p2 at *
            go_wp2
            go_roundw
            case rel => exact ⟨p2, _, hsk1, by simp; omega, rfl, HO4.out, HB4.out, HR.out.trans HX.out⟩
            case measure => simp [intOf]; omega
        · have HX := Lib.hid (HN0.out her)
          rw [readV, show (er == 0) = false by simpa using her]
          clear HN0 HN1 HN2 HLn hi hz0 hz1 hz2
          have he1 : ((er : Int) == 0) = false := by rw [beq_eq_false_iff_ne]; omega
          have he2 : ((er : Int) != 0) = true := by rw [bne_iff_ne]; omega
          unfold badV
          go_wp2
          go_ret3
          rw [HR.out, HX.out]
          exact ⟨_, rfl, World.ownsRow_nil _ _ _ _, HB1.out.alloc hsz1 _⟩
      · obtain rfl : p = l.length := by omega
        have HX := Lib.hid (rest_end (l := l) (p := l.length) ts (Nat.le_refl _))
        go_wp2
        go_ret3
        rw [HR.out, HX.out]
        exact ⟨_, rfl, HO.out, HB.out⟩
end Go.Proofs.YtoicncfpoklanaaDoor
