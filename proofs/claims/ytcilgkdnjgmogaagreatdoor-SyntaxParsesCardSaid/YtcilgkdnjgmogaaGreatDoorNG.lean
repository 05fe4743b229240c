/- What holds of the tokens that are returned, in plain words; nothing of the program. -/
import Derived.Test.YtcilgkdnjgmogaaGreatDoorMB
import Derived.Test.YtcilgkdnjgmogaaGreatDoorMF
import Derived.Defers
import Derived.Recover
import Derived.Deep.DeepCutAuto
namespace Go.Proofs.YtcilgkdnjgmogaaGreatDoor
section
theorem steps_all {l : List Nat} {P : Tok → Prop} (h : ∀ p, p < l.length → (readT (l.drop p)).err = 0 → P ⟨(readT (l.drop p)).kind, (readT (l.drop p)).text, (readT (l.drop p)).num, p⟩) :
  ∀ (f p : Nat) (ts : List Tok), (∀ t ∈ ts, P t) → ∀ t ∈ (steps l f p ts).toks, P t
 | 0, _, _, hts => hts
 | f + 1, p, ts, hts => by
  intro t ht
  unfold steps at ht
  split at ht
  ·rename_i hp
   split at ht
   ·cases ht
   ·rename_i he
    split at ht
    ·cases ht
    ·refine steps_all h f _ _ ?_ t ht
     intro u hu
     rcases List.mem_append.1 hu with h1 | h1
     ·exact hts u h1
     ·simp at h1
      subst h1
      exact h p hp (by simpa using he)
  ·exact hts t ht
theorem lexed_all {l : List Nat} {P : Tok → Prop} (h : ∀ p, p < l.length → (readT (l.drop p)).err = 0 → P ⟨(readT (l.drop p)).kind, (readT (l.drop p)).text, (readT (l.drop p)).num, p⟩) : ∀ t ∈ (lexed l).toks, P t := by
 unfold lexed
 split
 ·intro t ht
  cases ht
 ·exact steps_all h _ _ _ (fun t ht => by cases ht)
theorem read_name {r : List Nat} (h : (readT r).err = 0) (hy : Byn r) : Byn (readT r).text ∧ ((readT r).kind = 1 → isWord (readT r).text = false) := by
 have nilB : Byn [] := fun b hb => by cases hb
 cases r with
 | nil => exact ⟨nilB, fun h1 => by simp [readT, bad] at h1⟩
 | cons b r =>
  rw [readT_cons] at h ⊢
  by_cases h1 : letterB b = true
  ·rw [if_pos h1] at h ⊢
   unfold nameT at h ⊢
   split at h
   ·simp [bad] at h
   ·rename_i hn
    rw [if_neg hn]
    refine ⟨hy.sub fun x hx => List.mem_of_mem_take hx, fun hk => ?_⟩
    dsimp only at hk ⊢
    cases hw : isWord (List.take (run nameB (b :: r)) (b :: r)) with
    | false => rfl
    | true => rw [hw] at hk; simp at hk
  ·rw [if_neg h1] at h ⊢
   by_cases h2 : digitB b = true
   ·rw [if_pos h2] at h ⊢
    unfold numT at h ⊢
    cases hv : value (List.take (run digitB (b :: r)) (b :: r)) 0 with
    | none => rw [hv] at h; simp [bad] at h
    | some v => exact ⟨nilB, fun hk => by simp at hk⟩
   ·rw [if_neg h2] at h ⊢
    by_cases h3 : b = 34
    ·rw [if_pos h3] at h ⊢
     unfold textT at h ⊢
     split at h
     ·rename_i hq
      rw [if_pos hq]
      split at h
      ·simp [bad] at h
      ·rename_i hn
       rw [if_neg hn]
       exact ⟨hy.sub fun x hx => List.mem_of_mem_drop (List.mem_of_mem_take hx), fun hk => by simp at hk⟩
     ·simp [bad] at h
    ·rw [if_neg h3] at h ⊢
     unfold signT at h ⊢
     split at h
     ·simp [bad] at h
     ·rename_i hn
      rw [if_neg hn]
      exact ⟨signOf_byn hy, fun hk => by simp at hk⟩
theorem lexed_names {l : List Nat} (hy : Byn l) : ∀ t ∈ (lexed l).toks, Byn t.text ∧ (t.kind = 1 → isWord t.text = false) :=
 lexed_all fun _ _ he => read_name he (hy.sub fun _ hx => List.mem_of_mem_drop hx)
theorem steps_many {l : List Nat} : ∀ (f p : Nat) (ts : List Tok), ts.length ≤ 2048 → (steps l f p ts).toks.length ≤ 2048
 | 0, _, _, h => h
 | f + 1, p, ts, h => by
  unfold steps
  split
  ·split
   ·exact Nat.zero_le _
   ·split
    ·exact Nat.zero_le _
    ·exact steps_many f _ _ (by simp; omega)
  ·exact h
theorem lexed_many (l : List Nat) : (lexed l).toks.length ≤ 2048 := by
 unfold lexed
 split
 ·exact Nat.zero_le _
 ·exact steps_many _ _ _ (Nat.zero_le _)
end
section
open Go.RowKit
set_option maxRecDepth 100000
set_option linter.unusedSimpArgs false
theorem eql_nil (w : World) : (binOp .eql 20 .nilIface .nilIface).run Tryz.prog w = .ok (.bool true) w := by
 have h : ∀ d : Nat, (Op.equalIn (d + 1) 20 .nilIface .nilIface).run Tryz.prog w = .ok true w := fun d => by simp [Op.equalIn, run_underlying Tryz.underlying20]
 simp only [binOp]
 simp [Op.equal, Op.maxDepth, h 9999]
theorem eql_some (w : World) (u : TypeId) (v : Value) : (binOp .eql 20 (.iface u v) .nilIface).run Tryz.prog w = .ok (.bool false) w := by
 have h : ∀ d : Nat, (Op.equalIn (d + 1) 20 (.iface u v) .nilIface).run Tryz.prog w = .ok false w := fun d => by simp [Op.equalIn, run_underlying Tryz.underlying20]
 simp only [binOp]
 simp [Op.equal, Op.maxDepth, h 9999]
theorem assert55 (w : World) (v : Value) : (Instr.typeAssert (.iface 75 v) 20 75 true).run Tryz.prog w = .ok (.tuple #[v, .bool true]) w := by
 simp [Instr.typeAssert, run_underlying Tryz.underlying75]
theorem slots14 (a b c v : Value) : #[a, b, c] ++ ((Array.replicate 19 undef).setIfInBounds 3 v).setIfInBounds 0 v = #[a, b, c, v, undef, undef, v, undef, undef, undef, undef, undef, undef, undef, undef, undef, undef, undef, undef, undef, undef, undef] := by kernel_rfl
theorem post_ret {P : Program} {fn : Func} {c₀ : Frame} {cs : List Frame} {R : Ending → FrameMode → World → Prop} {a : Act} {v : Value} {c : Frame} {w : World} (hc : c = { c₀ with mode := c.mode }) (hv : (results fn a.tmps).run P w = .ok v w) (hd : a.defers = []) (hR : R (.returned v) c.mode w) :
  bodyPostS P fn c₀ cs R Exit.ret a (c :: cs) w := by
 exact ⟨hd, c.mode, by rw [← hc], v, hv, hR⟩
theorem post_norm {P : Program} {fn : Func} {c₀ : Frame} {cs : List Frame} {R : Ending → FrameMode → World → Prop} {a : Act} {v : Value} {c : Frame} {w : World} (hc : c = { c₀ with mode := c.mode }) (hv : (results fn a.tmps).run P w = .ok v w) (hd : a.defers = []) (hR : R (.returned v) c.mode w) :
  bodyPostS P fn c₀ cs R Exit.normal a (c :: cs) w := by
 exact ⟨hd, c.mode, by rw [← hc], v, hv, hR⟩
set_option maxHeartbeats 400000 in
theorem catch_idle (a b c : Addr) (w : World) :
  CallsD Tryz.prog 34 #[.pointer (some a), .pointer (some b), .pointer (some c)] .returning w fun e u' w' => e = .returned (.tuple #[]) ∧ u' = .returning ∧ w' = w := by
 have hen := eql_nil
 refine callsD_of_wpS Tryz.func34 rfl fun c₀ cs hu => ?_
 apply wpS_seq
 apply wpS_region
 generalize hQ : Exit.thenS _ _ = Q'
 simp only [Tryz.ntmps34]
 simp [wpOpsS, go_sem, recoverD, hu]
 rw [← hQ]
 simp only [Exit.thenS]
 clear hQ
 refine wpS_of_wp ?_
 rw [slots14]
 go_wp2
 refine post_ret (v := .tuple #[]) rfl ?_ rfl ?_
 ·simp [results, Tryz.results34]
 ·exact ⟨rfl, hu, rfl⟩
set_option maxHeartbeats 800000 in
theorem catch_panicking (a b c : Nat) (code place : Nat) (older : List PanicEntry) (w : World) (u0 : Value) (x0 y0 : Int) (ha : VarAt w a [u0]) (hb : VarAt w b [.int .i64 x0]) (hc : VarAt w c [.int .i64 y0]) (hab : a ≠ b) (hac : a ≠ c) (hbc : b ≠ c) :
  CallsD Tryz.prog 34 #[.pointer (some ⟨a, 0, none⟩), .pointer (some ⟨b, 0, none⟩), .pointer (some ⟨c, 0, none⟩)] (.panicking ({ v := .iface 75 (.agg #[.int .i64 code, .int .i64 place]), recovered := false } :: older)) w fun e u' w' =>
   e = .returned (.tuple #[]) ∧ u' = .panicking ({ v := .iface 75 (.agg #[.int .i64 code, .int .i64 place]), recovered := true } :: older) ∧ VarAt w' a [.slice none 0 0] ∧ VarAt w' b [.int .i64 code] ∧ VarAt w' c [.int .i64 place] ∧ ∀ B, B ≤ a → B ≤ b → B ≤ c → Below B w w' := by
 have hes := eql_some
 have has := assert55
 have la := ha.lt (by simp)
 have lb := hb.lt (by simp)
 have lc := hc.lt (by simp)
 obtain ⟨a1, a2⟩ := ha.cell 0 _ rfl
 obtain ⟨b1, b2⟩ := hb.cell 0 _ rfl
 obtain ⟨c1, c2⟩ := hc.cell 0 _ rfl
 have HA := Lib.hid ha
 have HB := Lib.hid hb
 have HC := Lib.hid hc
 clear ha hb hc
 refine callsD_of_wpS Tryz.func34 rfl fun c₀ cs hu => ?_
 apply wpS_seq
 apply wpS_region
 generalize hQ : Exit.thenS _ _ = Q'
 simp only [Tryz.ntmps34]
 simp [wpOpsS, go_sem, recoverD, hu]
 rw [← hQ]
 simp only [Exit.thenS]
 clear hQ
 refine wpS_of_wp ?_
 rw [slots14]
 go_wp2_with fail
 go_region
 have va := ((HA.out.set 0 (.slice none 0 0)).of (set_other (b := b) (i := 0) (u := .int .i64 code) a hab)).of (set_other (b := c) (i := 0) (u := .int .i64 place) a hac)
 have vb := ((HB.out.of (set_other (b := a) (i := 0) (u := .slice none 0 0) b (Ne.symm hab))).set 0 (.int .i64 code)).of (set_other (b := c) (i := 0) (u := .int .i64 place) b hbc)
 have vc := ((HC.out.of (set_other (b := a) (i := 0) (u := .slice none 0 0) c (Ne.symm hac))).of (set_other (b := b) (i := 0) (u := .int .i64 code) c (Ne.symm hbc))).set 0 (.int .i64 place)
 have hsz : (((w.setCell ⟨a, 0, none⟩ (.slice none 0 0)).setCell ⟨b, 0, none⟩ (.int .i64 code)).setCell ⟨c, 0, none⟩ (.int .i64 place)).heap.size = w.heap.size := by rw [set_size, set_size, set_size]
 have hbel : ∀ B, B ≤ a → B ≤ b → B ≤ c → Below B w (((w.setCell ⟨a, 0, none⟩ (.slice none 0 0)).setCell ⟨b, 0, none⟩ (.int .i64 code)).setCell ⟨c, 0, none⟩ (.int .i64 place)) := fun B h1 h2 h3 =>
  (((Below.refl B w).setCell (p := ⟨a, 0, none⟩) h1 _).setCell (p := ⟨b, 0, none⟩) h2 _).setCell (p := ⟨c, 0, none⟩) h3 _
 generalize ((w.setCell ⟨a, 0, none⟩ (.slice none 0 0)).setCell ⟨b, 0, none⟩ (.int .i64 code)).setCell ⟨c, 0, none⟩ (.int .i64 place) = w3 at *
 have hblk : ∀ k, k < w3.heap.size → (w3.alloc (.cells #[.int .i64 code, .int .i64 place] 75)).drew.heap[k]? = w3.heap[k]? := fun k hk => Below.heap_alloc _ _ _ hk
 refine post_norm (v := .tuple #[]) (c := { c₀ with mode := .panicking ({ v := .iface 75 (.agg #[.int .i64 code, .int .i64 place]), recovered := true } :: older) }) rfl ?_ rfl ?_
 ·simp [results, Tryz.results34]
 ·exact ⟨rfl, rfl, va.of (hblk a (by omega)), vb.of (hblk b (by omega)), vc.of (hblk c (by omega)), fun B h1 h2 h3 => ((hbel B h1 h2 h3).alloc (by omega) _).drew⟩
end
section
open Go.RowKit
set_option maxRecDepth 100000
set_option linter.unusedSimpArgs false
def ParseO (w : World) (o : Parsed) (e : Ending) (w' : World) : Prop :=
 ∃ V, e = .returned (.tuple #[.agg #[V], .int .i64 o.err, .int .i64 o.place]) ∧ FusC w' (Rng w.heap.size w'.heap.size) o.funcs V ∧ Below w.heap.size w w'
theorem own_src {w : World} {base : Nat} {v : Value} {ts : List Tok} {z R : Nat} (h : w.ownsRow base 134 4 v ts.length (toksC ts)) (hy : ∀ t ∈ ts, Byn t.text) (hR : w.heap.size ≤ R) : ∃ S : Src, S.all = ts ∧ S.z = z ∧ S.V = v ∧ S.Ok w R := by
 rcases h.2 with ⟨rfl, h2⟩ | ⟨g, cap, cur, rfl, hb, hg, hn, hm, _⟩
 ·have : ts = [] := List.eq_nil_of_length_eq_zero h2
  subst this
  exact ⟨⟨none, 0, [], z⟩, rfl, rfl, rfl, Nat.le_refl _, Nat.zero_le _, hy, fun _ => rfl, fun g h => by cases h⟩
 ·refine ⟨⟨some g, cap, ts, z⟩, rfl, rfl, rfl, hn, hm, hy, (fun h => by cases h), fun g' hg' => ?_⟩
  injection hg' with hg'
  subst hg'
  refine ⟨Nat.lt_of_lt_of_le (h.lt g rfl).2 hR, fun i t ht => ?_⟩
  have key : ∀ j u, j < 4 → (tokC t)[j]? = some u → w.cell? ⟨g, i * 4 + j, none⟩ = some u := fun j u hj hu => by
   have h1 := h.cells rfl (i * 4 + j) u ((toksC_get ts i j t ht hj).trans hu)
   rw [Addr.add_lit, Nat.zero_add] at h1
   exact h1
  exact ⟨key 0 _ (by omega) rfl, key 1 _ (by omega) rfl, key 2 _ (by omega) rfl, key 3 _ (by omega) rfl⟩
theorem ret_parse (tmps : Array Value) (w : World) (p q r : Nat) (V : Value) (x y : Int) (h2 : tmps.getD 2 undef = .pointer (some ⟨p, 0, none⟩)) (h3 : tmps.getD 3 undef = .pointer (some ⟨q, 0, none⟩)) (h4 : tmps.getD 4 undef = .pointer (some ⟨r, 0, none⟩)) (hV : VarAt w p [V]) (hx : VarAt w q [.int .i64 x]) (hy : VarAt w r [.int .i64 y]) :
  (results Tryz.f12 tmps).run Tryz.prog w = .ok (.tuple #[.agg #[V], .int .i64 x, .int .i64 y]) w := by
 have h2' : tmps[2]?.getD undef = .pointer (some ⟨p, 0, none⟩) := by simpa using h2
 have h3' : tmps[3]?.getD undef = .pointer (some ⟨q, 0, none⟩) := by simpa using h3
 have h4' : tmps[4]?.getD undef = .pointer (some ⟨r, 0, none⟩) := by simpa using h4
 have c0 := (hV.cell 0 _ rfl).1
 have c1 := (hx.cell 0 _ rfl).1
 have c2 := (hy.cell 0 _ rfl).1
 simp [results, Tryz.results12, h2', h3', h4', asAddr, go_sem, c0, c1, c2]
end
section
open Go.RowKit
set_option maxRecDepth 100000
set_option linter.unusedSimpArgs false
def parsedOf : Res (List Fu) → Parsed
 | .ok fs _ => ⟨0, fs, 0⟩
 | .bad c p => ⟨c, [], p⟩
theorem parsed_of {l : List Nat} (h : (lexed l).err = 0) : parsed l = parsedOf (programP l.length (lexed l).toks) := by
 unfold parsed
 rw [if_pos h]
 cases programP l.length (lexed l).toks <;> rfl
set_option maxHeartbeats 1600000 in
theorem parse (A : Option Addr) (l : List Nat) (c : Nat) (w : World) (hc : l.length ≤ c) (hcm : c ≤ maxLen) (hl : Lies w w.heap.size A c (bts l)) (hy : Byn l) (ht : Tab w) :
  Calls Tryz.prog 12 #[.slice A l.length c] w (ParseO w (parsed l)) := by
 have hmf : ∀ (fn : Fn) (first cap : Array Value) (w : World), (Instr.makeFunc fn first cap).run Tryz.prog w = .ok (.func fn first cap) w := fun _ _ _ _ => rfl
 have hcm' := hcm
 unfold maxLen at hcm'
 have b2 := below_two (Below.refl w.heap.size w) (Nat.le_refl _) (.cells #[.slice none 0 0] 26) (.cells #[.int .i64 0] 27)
 have s2 : ((w.alloc (.cells #[.slice none 0 0] 26)).alloc (.cells #[.int .i64 0] 27)).heap.size = w.heap.size + 2 := by simp
 have bt := below_alloc ((w.alloc (.cells #[.slice none 0 0] 26)).alloc (.cells #[.int .i64 0] 27)) (.cells #[.int .i64 0] 3)
 have b3 := b2.trans (bt.mono b2.size)
 have n0 : (((w.alloc (.cells #[.slice none 0 0] 26)).alloc (.cells #[.int .i64 0] 27)).alloc (.cells #[.int .i64 0] 3)).heap[w.heap.size]? = some (.cells #[.slice none 0 0] 26) := by
  rw [Below.heap_alloc _ _ _ (by simp; omega), Below.heap_alloc _ _ _ (by simp)]
  exact heap_alloc_new w _
 have n1 : (((w.alloc (.cells #[.slice none 0 0] 26)).alloc (.cells #[.int .i64 0] 27)).alloc (.cells #[.int .i64 0] 3)).heap[w.heap.size + 1]? = some (.cells #[.int .i64 0] 27) := by
  rw [Below.heap_alloc _ _ _ (by simp)]
  have := heap_alloc_new (w.alloc (.cells #[.slice none 0 0] 26)) (.cells #[.int .i64 0] 27)
  simpa using this
 have n2 : (((w.alloc (.cells #[.slice none 0 0] 26)).alloc (.cells #[.int .i64 0] 27)).alloc (.cells #[.int .i64 0] 3)).heap[w.heap.size + 1 + 1]? = some (.cells #[.int .i64 0] 3) := by
  have := heap_alloc_new ((w.alloc (.cells #[.slice none 0 0] 26)).alloc (.cells #[.int .i64 0] 27)) (.cells #[.int .i64 0] 3)
  simpa using this
 have K := Lib.hid (lex A l c _ hc hcm ((hl.below b3).more b3.size) hy (ht.below b3 ht.1))
 have HB := Lib.hid b3
 have HN : Hid (VarAt (((w.alloc (.cells #[.slice none 0 0] 26)).alloc (.cells #[.int .i64 0] 27)).alloc (.cells #[.int .i64 0] 3)) w.heap.size [.slice none 0 0] ∧ VarAt (((w.alloc (.cells #[.slice none 0 0] 26)).alloc (.cells #[.int .i64 0] 27)).alloc (.cells #[.int .i64 0] 3)) (w.heap.size + 1) [.int .i64 0] ∧ VarAt (((w.alloc (.cells #[.slice none 0 0] 26)).alloc (.cells #[.int .i64 0] 27)).alloc (.cells #[.int .i64 0] 3)) (w.heap.size + 1 + 1) [.int .i64 0]) := ⟨VarAt.block (cs := [_]) n0, VarAt.block (cs := [_]) n1, VarAt.block (cs := [_]) n2⟩
 have s3 : (((w.alloc (.cells #[.slice none 0 0] 26)).alloc (.cells #[.int .i64 0] 27)).alloc (.cells #[.int .i64 0] 3)).heap.size = w.heap.size + 3 := by simp
 have HY := Lib.hid hy
 clear hl hy ht b2 bt b3 n0 n1 n2 s2 hcm
 go_enter_defers Tryz.func12, Tryz.ntmps12
 go_wp2_with fail
 generalize ((w.alloc (.cells #[.slice none 0 0] 26)).alloc (.cells #[.int .i64 0] 27)).alloc (.cells #[.int .i64 0] 3) = w0 at *
 refine K.out.mono ?_
 clear K
 rintro e' w1 ⟨v, rfl, hown, hb1⟩
 obtain ⟨Av, cv, rfl⟩ := own_shape hown
 have s1 := hb1.size
 have V0 := HN.out.1.of (hb1.block _ (by omega))
 have V1 := HN.out.2.1.of (hb1.block _ (by omega))
 have V2 := HN.out.2.2.of (hb1.block _ (by omega))
 obtain ⟨e1, f1⟩ := V1.cell 0 _ rfl
 obtain ⟨e2, f2⟩ := V2.cell 0 _ rfl
 by_cases herr : (lexed l).err = 0
 ·have hne : ((((lexed l).err : Nat) : Int) != 0) = false := by rw [herr]; rfl
  have HP := Lib.hid (parsed_of herr)
  have HV : Hid (VarAt w1 w.heap.size [.slice none 0 0] ∧ VarAt w1 (w.heap.size + 1) [.int .i64 0] ∧ VarAt w1 (w.heap.size + 1 + 1) [.int .i64 0]) := ⟨V0, V1, V2⟩
  have HB1 := Lib.hid (HB.out.trans (hb1.mono (by omega)))
  have HO := Lib.hid hown
  have hmany := lexed_many l
  have HNm := Lib.hid (lexed_names HY.out)
  clear hown hb1 V0 V1 V2 herr
  generalize (lexed l).err = er at *
  generalize (lexed l).place = pl at *
  generalize (lexed l).toks = ts at *
  go_upto_region 4 with fail
  have vb := (HV.out.2.1.set 0 (.int .i64 er)).of (set_other (b := w.heap.size + 1 + 1) (i := 0) (u := .int .i64 pl) _ (by omega))
  have vc := (HV.out.2.2.of (set_other (b := w.heap.size + 1) (i := 0) (u := .int .i64 er) _ (by omega))).set 0 (.int .i64 pl)
  have va := (HV.out.1.of (set_other (b := w.heap.size + 1) (i := 0) (u := .int .i64 er) _ (by omega))).of (set_other (b := w.heap.size + 1 + 1) (i := 0) (u := .int .i64 pl) _ (by omega))
  have hB3 := (HB1.out.setCell (p := ⟨w.heap.size + 1, 0, none⟩) (by show w.heap.size ≤ w.heap.size + 1; omega) (.int .i64 er)).setCell (p := ⟨w.heap.size + 1 + 1, 0, none⟩) (by show w.heap.size ≤ w.heap.size + 1 + 1; omega) (.int .i64 pl)
  have hsz : ((w1.setCell ⟨w.heap.size + 1, 0, none⟩ (.int .i64 er)).setCell ⟨w.heap.size + 1 + 1, 0, none⟩ (.int .i64 pl)).heap.size = w1.heap.size := by rw [set_size, set_size]
  have hO3 : ((w1.setCell ⟨w.heap.size + 1, 0, none⟩ (.int .i64 er)).setCell ⟨w.heap.size + 1 + 1, 0, none⟩ (.int .i64 pl)).ownsRow w0.heap.size 134 4 (.slice Av ts.length cv) ts.length (toksC ts) := by
   refine ⟨HO.out.1, ?_⟩
   rcases HO.out.2 with h' | ⟨g, cap, cur, e, hb, hg, rest⟩
   ·exact .inl h'
   ·exact .inr ⟨g, cap, cur, e, hb, by rw [set_other g (by omega), set_other g (by omega)]; exact hg, rest⟩
  clear e1 f1 e2 f2 HV HO HB1
  generalize (w1.setCell ⟨w.heap.size + 1, 0, none⟩ (.int .i64 er)).setCell ⟨w.heap.size + 1 + 1, 0, none⟩ (.int .i64 pl) = w3 at *
  obtain ⟨S, hS1, hS2, hS3, hS4⟩ := own_src (z := l.length) (R := w3.heap.size) hO3 (fun t h => (HNm.out t h).1) (Nat.le_refl _)
  have bR := below_alloc w3 (.cells #[.slice Av ts.length cv, .int .i64 0, .int .i64 l.length] 79)
  have hAt : At (w3.alloc (.cells #[.slice Av ts.length cv, .int .i64 0, .int .i64 l.length] 79)) w3.heap.size S ts := by
   refine ⟨hS4.of fun k hk => bR.block k hk, 0, Nat.zero_le _, by rw [hS1]; rfl, ?_⟩
   rw [heap_alloc_new]
   unfold rdO
   rw [hS3, hS2]
   rfl
  have K := Lib.hid (program w3.heap.size S (by rw [hS1]; omega) ts _ hAt)
  rw [hS2] at K
  have HV3 : Hid (VarAt w3 w.heap.size [.slice none 0 0] ∧ VarAt w3 (w.heap.size + 1) [.int .i64 er] ∧ VarAt w3 (w.heap.size + 1 + 1) [.int .i64 pl]) := ⟨va, vb, vc⟩
  have HB3 := Lib.hid (hB3.trans (bR.mono hB3.size))
  have sR : (w3.alloc (.cells #[.slice Av ts.length cv, .int .i64 0, .int .i64 l.length] 79)).heap.size = w3.heap.size + 1 := by simp
  have HbR := Lib.hid bR
  have HSZ := Lib.hid hsz
  have HSR := Lib.hid sR
  have HS3 := Lib.hid s3
  clear va vb vc hB3 hO3 hS1 hS3 hS4 bR hAt hsz sR s3
  go_wp2_with fail
  generalize w3.alloc (.cells #[.slice Av ts.length cv, .int .i64 0, .int .i64 l.length] 79) = wR at *
  (with_reducible refine K.out.mono ?_)
  clear K
  rintro e' w5 ⟨hm, ⟨fs, r5, pv, hr, rfl, hq, ha5⟩ | ⟨cc, q, hr, rfl⟩⟩
  ·have hsz := HSZ.out
   have sR := HSR.out
   have s3 := HS3.out
   have VR : VarAt w5 w.heap.size [.slice none 0 0] ∧ VarAt w5 (w.heap.size + 1) [.int .i64 er] ∧ VarAt w5 (w.heap.size + 1 + 1) [.int .i64 pl] :=
    ⟨HV3.out.1.of ((hm.block' (by omega) (by omega)).trans (HbR.out.block _ (by omega))), HV3.out.2.1.of ((hm.block' (by omega) (by omega)).trans (HbR.out.block _ (by omega))), HV3.out.2.2.of ((hm.block' (by omega) (by omega)).trans (HbR.out.block _ (by omega)))⟩
   obtain ⟨V, rfl, hF⟩ := hq
   obtain ⟨aV, nV, cV, rfl⟩ : ∃ a n c, V = .slice a n c := by
    obtain ⟨_, _, ⟨a, c, h, _⟩, _⟩ := hF
    exact ⟨a, _, c, h⟩
   have HP2 : Hid (parsed l = ⟨0, fs, 0⟩) := by show _ = _; rw [HP.out, hr]; rfl
   have HB5 : Hid (Below w.heap.size w w5) := HB3.out.trans ⟨hm.os, hm.tape, hm.output, hm.size, fun k hk => hm.block' (by omega) (by omega)⟩
   have HF : Hid (FusC w5 (Rng (w.heap.size + 3) w5.heap.size) fs (.slice aV nV cV)) := hF.more fun k hk => ⟨by have := hk.1; omega, hk.2⟩
   have HVR := Lib.hid VR
   clear hm hr hsz sR s3 hF ha5 VR
   go_wp2_with (refine wpList_storeN info26s rfl (.tmp 2) (.tmp 25) rfl rfl w.heap.size rfl [_] rfl rfl HVR.out.1.2 (by simp [Value.oneCell']) ?_; intro w7 g1 g2 g3 g4 g5; refine Hid.out ?_)
   refine Lib.hid ?_
   have v1 := HVR.out.2.1.of (g4 (w.heap.size + 1) (by omega))
   have v2 := HVR.out.2.2.of (g4 (w.heap.size + 1 + 1) (by omega))
   obtain ⟨e1, f1⟩ := v1.cell 0 _ rfl
   obtain ⟨e2, f2⟩ := v2.cell 0 _ rfl
   have HG : Hid (VarAt w7 w.heap.size [.slice aV nV cV] ∧ VarAt w7 (w.heap.size + 1) [.int .i64 er] ∧ VarAt w7 (w.heap.size + 1 + 1) [.int .i64 pl] ∧ Below w.heap.size w w7 ∧ FusC w7 (Rng (w.heap.size + 3) w7.heap.size) fs (.slice aV nV cV)) :=
    ⟨⟨g1, g2⟩, v1, v2, HB5.out.trans g3, (HF.out.same fun q h => g4 q (by have := h.1; omega)).more fun q h => ⟨h.1, by rw [g5]; exact h.2⟩⟩
   clear g1 g2 g3 g4 g5 v1 v2
   go_wp2
   have va := (HG.out.1.of (set_other (b := w.heap.size + 1) (i := 0) (u := .int .i64 0) _ (by omega))).of (set_other (b := w.heap.size + 1 + 1) (i := 0) (u := .int .i64 0) _ (by omega))
   have vb := (HG.out.2.1.set 0 (.int .i64 0)).of (set_other (b := w.heap.size + 1 + 1) (i := 0) (u := .int .i64 0) _ (by omega))
   have vc := (HG.out.2.2.1.of (set_other (b := w.heap.size + 1) (i := 0) (u := .int .i64 0) _ (by omega))).set 0 (.int .i64 0)
   have hbe := (HG.out.2.2.2.1.setCell (p := ⟨w.heap.size + 1, 0, none⟩) (by show w.heap.size ≤ w.heap.size + 1; omega) (.int .i64 0)).setCell (p := ⟨w.heap.size + 1 + 1, 0, none⟩) (by show w.heap.size ≤ w.heap.size + 1 + 1; omega) (.int .i64 0)
   have hfu : FusC ((w7.setCell ⟨w.heap.size + 1, 0, none⟩ (.int .i64 0)).setCell ⟨w.heap.size + 1 + 1, 0, none⟩ (.int .i64 0)) (Rng (w.heap.size + 3) w7.heap.size) fs (.slice aV nV cV) :=
    HG.out.2.2.2.2.same fun q h => by rw [set_other q (by have := h.1; omega), set_other q (by have := h.1; omega)]
   have hsz7 : ((w7.setCell ⟨w.heap.size + 1, 0, none⟩ (.int .i64 0)).setCell ⟨w.heap.size + 1 + 1, 0, none⟩ (.int .i64 0)).heap.size = w7.heap.size := by rw [set_size, set_size]
   generalize (w7.setCell ⟨w.heap.size + 1, 0, none⟩ (.int .i64 0)).setCell ⟨w.heap.size + 1 + 1, 0, none⟩ (.int .i64 0) = w8 at *
   refine leaves_cons (f := 34) (args := #[.pointer (some ⟨w.heap.size, 0, none⟩), .pointer (some ⟨w.heap.size + 1, 0, none⟩), .pointer (some ⟨w.heap.size + 1 + 1, 0, none⟩)]) (by simp) (by simp [go_sem]) ?_
   refine (catch_idle ⟨w.heap.size, 0, none⟩ ⟨w.heap.size + 1, 0, none⟩ ⟨w.heap.size + 1 + 1, 0, none⟩ w8).mono ?_
   rintro e' u' w9 ⟨rfl, rfl, rfl⟩
   exact ⟨_, ret_parse _ _ w.heap.size (w.heap.size + 1) (w.heap.size + 1 + 1) (.slice aV nV cV) 0 0 rfl rfl rfl va vb vc, .slice aV nV cV, by rw [HP2.out]; rfl, by rw [HP2.out]; exact hfu.more fun q h => ⟨by have := h.1; omega, by rw [hsz7]; exact h.2⟩, hbe⟩
  ·have hsz := HSZ.out
   have sR := HSR.out
   have s3 := HS3.out
   have VR : VarAt w5 w.heap.size [.slice none 0 0] ∧ VarAt w5 (w.heap.size + 1) [.int .i64 er] ∧ VarAt w5 (w.heap.size + 1 + 1) [.int .i64 pl] :=
    ⟨HV3.out.1.of ((hm.block' (by omega) (by omega)).trans (HbR.out.block _ (by omega))), HV3.out.2.1.of ((hm.block' (by omega) (by omega)).trans (HbR.out.block _ (by omega))), HV3.out.2.2.of ((hm.block' (by omega) (by omega)).trans (HbR.out.block _ (by omega)))⟩
   have HP2 : Hid (parsed l = ⟨cc, [], q⟩) := by show _ = _; rw [HP.out, hr]; rfl
   have HB5 : Hid (Below w.heap.size w w5) := HB3.out.trans ⟨hm.os, hm.tape, hm.output, hm.size, fun k hk => hm.block' (by omega) (by omega)⟩
   clear hm hr hsz sR s3
   go_wp2
   refine leaves_cons (f := 34) (args := #[.pointer (some ⟨w.heap.size, 0, none⟩), .pointer (some ⟨w.heap.size + 1, 0, none⟩), .pointer (some ⟨w.heap.size + 1 + 1, 0, none⟩)]) (by simp) (by simp [go_sem]) ?_
   refine (catch_panicking w.heap.size (w.heap.size + 1) (w.heap.size + 1 + 1) cc q [] w5 _ _ _ VR.1 VR.2.1 VR.2.2 (by omega) (by omega) (by omega)).mono ?_
   rintro e' u' w6 ⟨rfl, rfl, v1, v2, v3, hbel⟩
   refine ⟨_, ret_parse _ _ w.heap.size (w.heap.size + 1) (w.heap.size + 1 + 1) (.slice none 0 0) cc q rfl rfl rfl v1 v2 v3, .slice none 0 0, by rw [HP2.out], by rw [HP2.out]; exact FusC.nothing _ _, HB5.out.trans (hbel _ (Nat.le_refl _) (by omega) (by omega))⟩
 ·have hne : ((((lexed l).err : Nat) : Int) != 0) = true := by rw [bne_iff_ne]; omega
  have HO := Lib.hid hown
  have HV : Hid (VarAt w1 w.heap.size [.slice none 0 0] ∧ VarAt w1 (w.heap.size + 1) [.int .i64 0] ∧ VarAt w1 (w.heap.size + 1 + 1) [.int .i64 0]) := ⟨V0, V1, V2⟩
  have HB1 := Lib.hid (HB.out.trans (hb1.mono (by omega)))
  have HP : Hid (parsed l = ⟨(lexed l).err, [], (lexed l).place⟩) := by show _ = _; unfold parsed; rw [if_neg herr]
  obtain ⟨e0, f0⟩ := V0.cell 0 _ rfl
  clear hown hb1 V0 V1 V2 herr
  generalize (lexed l).err = er at *
  generalize (lexed l).place = pl at *
  go_wp2_with fail
  go_region
  go_wp2
  have va := ((((HV.out.1.of (set_other (b := w.heap.size + 1) (i := 0) (u := .int .i64 er) _ (by omega))).of (set_other (b := w.heap.size + 1 + 1) (i := 0) (u := .int .i64 pl) _ (by omega))).set 0 (.slice none 0 0)).of (set_other (b := w.heap.size + 1) (i := 0) (u := .int .i64 er) _ (by omega))).of (set_other (b := w.heap.size + 1 + 1) (i := 0) (u := .int .i64 pl) _ (by omega))
  have vb := ((((HV.out.2.1.set 0 (.int .i64 er)).of (set_other (b := w.heap.size + 1 + 1) (i := 0) (u := .int .i64 pl) _ (by omega))).of (set_other (b := w.heap.size) (i := 0) (u := .slice none 0 0) _ (by omega))).set 0 (.int .i64 er)).of (set_other (b := w.heap.size + 1 + 1) (i := 0) (u := .int .i64 pl) _ (by omega))
  have vc := ((((HV.out.2.2.of (set_other (b := w.heap.size + 1) (i := 0) (u := .int .i64 er) _ (by omega))).set 0 (.int .i64 pl)).of (set_other (b := w.heap.size) (i := 0) (u := .slice none 0 0) _ (by omega))).of (set_other (b := w.heap.size + 1) (i := 0) (u := .int .i64 er) _ (by omega))).set 0 (.int .i64 pl)
  refine ⟨_, ret_parse _ _ w.heap.size (w.heap.size + 1) (w.heap.size + 1 + 1) (.slice none 0 0) er pl rfl rfl rfl (va.of rfl) (vb.of rfl) (vc.of rfl), .slice none 0 0, by rw [HP.out], by rw [HP.out]; exact FusC.nothing _ _, ?_⟩
  exact (((((HB1.out.setCell (p := ⟨w.heap.size + 1, 0, none⟩) (by show w.heap.size ≤ w.heap.size + 1; omega) _).setCell (p := ⟨w.heap.size + 1 + 1, 0, none⟩) (by show w.heap.size ≤ w.heap.size + 1 + 1; omega) _).setCell (p := ⟨w.heap.size, 0, none⟩) (Nat.le_refl _) _).setCell (p := ⟨w.heap.size + 1, 0, none⟩) (by show w.heap.size ≤ w.heap.size + 1; omega) _).setCell (p := ⟨w.heap.size + 1 + 1, 0, none⟩) (by show w.heap.size ≤ w.heap.size + 1 + 1; omega) _).drew
end
end Go.Proofs.YtcilgkdnjgmogaaGreatDoor
