/- What holds of the tokens that are returned, in plain words; nothing of the program. Conditions: those in each theorem. What the program's deferred function does when the reader has panicked, and when it has not. Conditions: the results' variables lie in memory. What the program's 'Parse' returns: the document's program, or the error and its place. Conditions: what is read lies in memory; the tables lie as the program lays them. What the program's 'Parse' returns: the document's program, or the error and its place. Conditions: what is read lies in memory; the tables lie as the program lays them. A few words for memory, and the document's parser as a contract whose error is a number. Conditions: those in each theorem. -/
import Derived.Test.YtfcpabhkconjmaaGreatDoorMB
import Derived.Test.YtfcpabhkconjmaaGreatDoorMF
import Derived.Defers
import Derived.Recover
import Derived.Deep.DeepCutAuto
import Derived.Test.YtfcpabhkconjmaaGreatDoorME
namespace Go.Proofs.YtfcpabhkconjmaaGreatDoor
section
/-- what holds of every token that is read holds of all that are returned -/
theorem steps_all {l : List Nat} {P : Tok → Prop} (h : ∀ p, p < l.length → (readT (l.drop p)).err = 0 → P ⟨(readT (l.drop p)).kind, (readT (l.drop p)).text, (readT (l.drop p)).num, p⟩) :
    ∀ (f p : Nat) (ts : List Tok), (∀ t ∈ ts, P t) → ∀ t ∈ (steps l f p ts).toks, P t
  | 0, _, _, hts => hts
  | f + 1, p, ts, hts => by
    intro t ht
    unfold steps at ht
    split at ht
    · rename_i hp
      split at ht
      · cases ht
      · rename_i he
        split at ht
        · cases ht
        · refine steps_all h f _ _ ?_ t ht
          intro u hu
          rcases List.mem_append.1 hu with h1 | h1
          · exact hts u h1
          · simp at h1
            subst h1
            exact h p hp (by simpa using he)
    · exact hts t ht
theorem lexed_all {l : List Nat} {P : Tok → Prop} (h : ∀ p, p < l.length → (readT (l.drop p)).err = 0 → P ⟨(readT (l.drop p)).kind, (readT (l.drop p)).text, (readT (l.drop p)).num, p⟩) : ∀ t ∈ (lexed l).toks, P t := by
  unfold lexed
  split
  · intro t ht
    cases ht
  · exact steps_all h _ _ _ (fun t ht => by cases ht)
/-- a name is no word, and its bytes are bytes -/
theorem read_name {r : List Nat} (h : (readT r).err = 0) (hy : Byn r) : Byn (readT r).text ∧ ((readT r).kind = 1 → isWord (readT r).text = false) := by
  have nilB : Byn [] := fun b hb => by cases hb
  cases r with
  | nil => exact ⟨nilB, fun h1 => by simp [readT, bad] at h1⟩
  | cons b r =>
    rw [readT_cons] at h ⊢
    by_cases h1 : letterB b = true
    · rw [if_pos h1] at h ⊢
      unfold nameT at h ⊢
      split at h
      · simp [bad] at h
      · rename_i hn
        rw [if_neg hn]
        refine ⟨hy.sub fun x hx => List.mem_of_mem_take hx, fun hk => ?_⟩
        dsimp only at hk ⊢
        cases hw : isWord (List.take (run nameB (b :: r)) (b :: r)) with
        | false => rfl
        | true => rw [hw] at hk; simp at hk
    · rw [if_neg h1] at h ⊢
      by_cases h2 : digitB b = true
      · rw [if_pos h2] at h ⊢
        unfold numT at h ⊢
        cases hv : value (List.take (run digitB (b :: r)) (b :: r)) 0 with
        | none => rw [hv] at h; simp [bad] at h
        | some v => exact ⟨nilB, fun hk => by simp at hk⟩
      · rw [if_neg h2] at h ⊢
        by_cases h3 : b = 34
        · rw [if_pos h3] at h ⊢
          unfold textT at h ⊢
          split at h
          · rename_i hq
            rw [if_pos hq]
            split at h
            · simp [bad] at h
            · rename_i hn
              rw [if_neg hn]
              exact ⟨hy.sub fun x hx => List.mem_of_mem_drop (List.mem_of_mem_take hx), fun hk => by simp at hk⟩
          · simp [bad] at h
        · rw [if_neg h3] at h ⊢
          unfold signT at h ⊢
          split at h
          · simp [bad] at h
          · rename_i hn
            rw [if_neg hn]
            exact ⟨signOf_byn hy, fun hk => by simp at hk⟩
theorem lexed_names {l : List Nat} (hy : Byn l) : ∀ t ∈ (lexed l).toks, Byn t.text ∧ (t.kind = 1 → isWord t.text = false) :=
  lexed_all fun _ _ he => read_name he (hy.sub fun _ hx => List.mem_of_mem_drop hx)
/-- at most as many tokens as there may be -/
theorem steps_many {l : List Nat} : ∀ (f p : Nat) (ts : List Tok), ts.length ≤ 2048 → (steps l f p ts).toks.length ≤ 2048
  | 0, _, _, h => h
  | f + 1, p, ts, h => by
    unfold steps
    split
    · split
      · exact Nat.zero_le _
      · split
        · exact Nat.zero_le _
        · exact steps_many f _ _ (by simp; omega)
    · exact h
theorem lexed_many (l : List Nat) : (lexed l).toks.length ≤ 2048 := by
  unfold lexed
  split
  · exact Nat.zero_le _
  · exact steps_many _ _ _ (Nat.zero_le _)
end

section
open Go.RowKit
set_option maxRecDepth 100000
set_option linter.unusedSimpArgs false

theorem eql_nil (w : World) : (binOp .eql 20 .nilIface .nilIface).run Tryz.prog w = .ok (.bool true) w := by
  have h : ∀ d : Nat, (Op.equalIn (d + 1) 20 .nilIface .nilIface).run Tryz.prog w = .ok true w := fun d => by simp [Op.equalIn, run_underlying Tryz.underlying20]
  simp only [binOp]
  simp [Op.equal, Op.maxDepth, h 9999]
theorem eql_some (w : World) (u : TypeId) (v : Value) : (binOp .eql 20 (.iface u v) .nilIface).run Tryz.prog w = .ok (.bool false) w := by
  have h : ∀ d : Nat, (Op.equalIn (d + 1) 20 (.iface u v) .nilIface).run Tryz.prog w = .ok false w := fun d => by simp [Op.equalIn, run_underlying Tryz.underlying20]
  simp only [binOp]
  simp [Op.equal, Op.maxDepth, h 9999]
theorem assert55 (w : World) (v : Value) : (Instr.typeAssert (.iface 59 v) 20 59 true).run Tryz.prog w = .ok (.tuple #[v, .bool true]) w := by
  simp [Instr.typeAssert, run_underlying Tryz.underlying59]
theorem slots14 (a b c v : Value) : #[a, b, c] ++ ((Array.replicate 19 undef).setIfInBounds 3 v).setIfInBounds 0 v = #[a, b, c, v, undef, undef, v, undef, undef, undef, undef, undef, undef, undef, undef, undef, undef, undef, undef, undef, undef, undef] := by kernel_rfl
theorem post_ret {P : Program} {fn : Func} {c₀ : Frame} {cs : List Frame} {R : Ending → FrameMode → World → Prop} {a : Act} {v : Value} {c : Frame} {w : World} (hc : c = { c₀ with mode := c.mode }) (hv : (results fn a.tmps).run P w = .ok v w) (hd : a.defers = []) (hR : R (.returned v) c.mode w) :
    bodyPostS P fn c₀ cs R Exit.ret a (c :: cs) w := by
  exact ⟨hd, c.mode, by rw [← hc], v, hv, hR⟩
theorem post_norm {P : Program} {fn : Func} {c₀ : Frame} {cs : List Frame} {R : Ending → FrameMode → World → Prop} {a : Act} {v : Value} {c : Frame} {w : World} (hc : c = { c₀ with mode := c.mode }) (hv : (results fn a.tmps).run P w = .ok v w) (hd : a.defers = []) (hR : R (.returned v) c.mode w) :
    bodyPostS P fn c₀ cs R Exit.normal a (c :: cs) w := by
  exact ⟨hd, c.mode, by rw [← hc], v, hv, hR⟩
set_option maxHeartbeats 400000 in
theorem catch_idle (a b c : Addr) (w : World) :
    CallsD Tryz.prog 21 #[.pointer (some a), .pointer (some b), .pointer (some c)] .returning w fun e u' w' => e = .returned (.tuple #[]) ∧ u' = .returning ∧ w' = w := by
  have hen := eql_nil
  refine callsD_of_wpS Tryz.func21 rfl fun c₀ cs hu => ?_
  apply wpS_seq
  apply wpS_region
  generalize hQ : Exit.thenS _ _ = Q'
  simp only [Tryz.ntmps21]
  simp [wpOpsS, go_sem, recoverD, hu]
  rw [← hQ]
  simp only [Exit.thenS]
  clear hQ
  refine wpS_of_wp ?_
  rw [slots14]
  go_wp2
  refine post_ret (v := .tuple #[]) rfl ?_ rfl ?_
  · simp [results, Tryz.results21]
  · exact ⟨rfl, hu, rfl⟩
set_option maxHeartbeats 800000 in
theorem catch_panicking (a b c : Nat) (code place : Nat) (older : List PanicEntry) (w : World) (u0 : Value) (x0 y0 : Int) (ha : VarAt w a [u0]) (hb : VarAt w b [.int .i64 x0]) (hc : VarAt w c [.int .i64 y0]) (hab : a ≠ b) (hac : a ≠ c) (hbc : b ≠ c) :
    CallsD Tryz.prog 21 #[.pointer (some ⟨a, 0, none⟩), .pointer (some ⟨b, 0, none⟩), .pointer (some ⟨c, 0, none⟩)] (.panicking ({ v := .iface 59 (.agg #[.int .i64 code, .int .i64 place]), recovered := false } :: older)) w fun e u' w' =>
      e = .returned (.tuple #[]) ∧ u' = .panicking ({ v := .iface 59 (.agg #[.int .i64 code, .int .i64 place]), recovered := true } :: older) ∧ VarAt w' a [.slice none 0 0] ∧ VarAt w' b [.int .i64 code] ∧ VarAt w' c [.int .i64 place] ∧ ∀ B, B ≤ a → B ≤ b → B ≤ c → Below B w w' := by
  have hes := eql_some
  have has := assert55
  have la := ha.lt (by simp)
  have lb := hb.lt (by simp)
  have lc := hc.lt (by simp)
  obtain ⟨a1, a2⟩ := ha.cell 0 _ rfl
  obtain ⟨b1, b2⟩ := hb.cell 0 _ rfl
  obtain ⟨c1, c2⟩ := hc.cell 0 _ rfl
  have HA := Lib.hid ha
  have HB := Lib.hid hb
  have HC := Lib.hid hc
  clear ha hb hc
  refine callsD_of_wpS Tryz.func21 rfl fun c₀ cs hu => ?_
  apply wpS_seq
  apply wpS_region
  generalize hQ : Exit.thenS _ _ = Q'
  simp only [Tryz.ntmps21]
  simp [wpOpsS, go_sem, recoverD, hu]
  rw [← hQ]
  simp only [Exit.thenS]
  clear hQ
  refine wpS_of_wp ?_
  rw [slots14]
  go_wp2_with fail
  go_region
  have va := ((HA.out.set 0 (.slice none 0 0)).of (set_other (b := b) (i := 0) (u := .int .i64 code) a hab)).of (set_other (b := c) (i := 0) (u := .int .i64 place) a hac)
  have vb := ((HB.out.of (set_other (b := a) (i := 0) (u := .slice none 0 0) b (Ne.symm hab))).set 0 (.int .i64 code)).of (set_other (b := c) (i := 0) (u := .int .i64 place) b hbc)
  have vc := ((HC.out.of (set_other (b := a) (i := 0) (u := .slice none 0 0) c (Ne.symm hac))).of (set_other (b := b) (i := 0) (u := .int .i64 code) c (Ne.symm hbc))).set 0 (.int .i64 place)
  have hsz : (((w.setCell ⟨a, 0, none⟩ (.slice none 0 0)).setCell ⟨b, 0, none⟩ (.int .i64 code)).setCell ⟨c, 0, none⟩ (.int .i64 place)).heap.size = w.heap.size := by rw [set_size, set_size, set_size]
  have hbel : ∀ B, B ≤ a → B ≤ b → B ≤ c → Below B w (((w.setCell ⟨a, 0, none⟩ (.slice none 0 0)).setCell ⟨b, 0, none⟩ (.int .i64 code)).setCell ⟨c, 0, none⟩ (.int .i64 place)) := fun B h1 h2 h3 =>
    (((Below.refl B w).setCell (p := ⟨a, 0, none⟩) h1 _).setCell (p := ⟨b, 0, none⟩) h2 _).setCell (p := ⟨c, 0, none⟩) h3 _
  generalize ((w.setCell ⟨a, 0, none⟩ (.slice none 0 0)).setCell ⟨b, 0, none⟩ (.int .i64 code)).setCell ⟨c, 0, none⟩ (.int .i64 place) = w3 at *
  have hblk : ∀ k, k < w3.heap.size → (w3.alloc (.cells #[.int .i64 code, .int .i64 place] 59)).drew.heap[k]? = w3.heap[k]? := fun k hk => Below.heap_alloc _ _ _ hk
  refine post_norm (v := .tuple #[]) (c := { c₀ with mode := .panicking ({ v := .iface 59 (.agg #[.int .i64 code, .int .i64 place]), recovered := true } :: older) }) rfl ?_ rfl ?_
  · simp [results, Tryz.results21]
  · exact ⟨rfl, rfl, va.of (hblk a (by omega)), vb.of (hblk b (by omega)), vc.of (hblk c (by omega)), fun B h1 h2 h3 => ((hbel B h1 h2 h3).alloc (by omega) _).drew⟩
end

section
open Go.RowKit
set_option maxRecDepth 100000
set_option linter.unusedSimpArgs false

/-- what 'Parse' returns -/
def ParseO (w : World) (o : Parsed) (e : Ending) (w' : World) : Prop :=
  ∃ V, e = .returned (.tuple #[.agg #[V], .int .i64 o.err, .int .i64 o.place]) ∧ FusC w' (Rng w.heap.size w'.heap.size) o.funcs V ∧ Below w.heap.size w w'
/-- the tokens of a row of the call's own -/
theorem own_src {w : World} {base : Nat} {v : Value} {ts : List Tok} {z R : Nat} (h : w.ownsRow base 87 4 v ts.length (toksC ts)) (hy : ∀ t ∈ ts, Byn t.text) (hR : w.heap.size ≤ R) : ∃ S : Src, S.all = ts ∧ S.z = z ∧ S.V = v ∧ S.Ok w R := by
  rcases h.2 with ⟨rfl, h2⟩ | ⟨g, cap, cur, rfl, hb, hg, hn, hm, _⟩
  · have : ts = [] := List.eq_nil_of_length_eq_zero h2
    subst this
    exact ⟨⟨none, 0, [], z⟩, rfl, rfl, rfl, Nat.le_refl _, Nat.zero_le _, hy, fun _ => rfl, fun g h => by cases h⟩
  · refine ⟨⟨some g, cap, ts, z⟩, rfl, rfl, rfl, hn, hm, hy, (fun h => by cases h), fun g' hg' => ?_⟩
    injection hg' with hg'
    subst hg'
    refine ⟨Nat.lt_of_lt_of_le (h.lt g rfl).2 hR, fun i t ht => ?_⟩
    have key : ∀ j u, j < 4 → (tokC t)[j]? = some u → w.cell? ⟨g, i * 4 + j, none⟩ = some u := fun j u hj hu => by
      have h1 := h.cells rfl (i * 4 + j) u ((toksC_get ts i j t ht hj).trans hu)
      rw [Addr.add_lit, Nat.zero_add] at h1
      exact h1
    exact ⟨key 0 _ (by omega) rfl, key 1 _ (by omega) rfl, key 2 _ (by omega) rfl, key 3 _ (by omega) rfl⟩

theorem ret_parse (tmps : Array Value) (w : World) (p q r : Nat) (V : Value) (x y : Int) (h2 : tmps.getD 2 undef = .pointer (some ⟨p, 0, none⟩)) (h3 : tmps.getD 3 undef = .pointer (some ⟨q, 0, none⟩)) (h4 : tmps.getD 4 undef = .pointer (some ⟨r, 0, none⟩)) (hV : VarAt w p [V]) (hx : VarAt w q [.int .i64 x]) (hy : VarAt w r [.int .i64 y]) :
    (results Tryz.f10 tmps).run Tryz.prog w = .ok (.tuple #[.agg #[V], .int .i64 x, .int .i64 y]) w := by
  have h2' : tmps[2]?.getD undef = .pointer (some ⟨p, 0, none⟩) := by simpa using h2
  have h3' : tmps[3]?.getD undef = .pointer (some ⟨q, 0, none⟩) := by simpa using h3
  have h4' : tmps[4]?.getD undef = .pointer (some ⟨r, 0, none⟩) := by simpa using h4
  have c0 := (hV.cell 0 _ rfl).1
  have c1 := (hx.cell 0 _ rfl).1
  have c2 := (hy.cell 0 _ rfl).1
  simp [results, Tryz.results10, h2', h3', h4', asAddr, go_sem, c0, c1, c2]
end

section
open Go.RowKit
set_option maxRecDepth 100000
set_option linter.unusedSimpArgs false

/-- what 'Parse' makes of what was read -/
def parsedOf : Res (List Fu) → Parsed
  | .ok fs _ => ⟨0, fs, 0⟩
  | .bad c p => ⟨c, [], p⟩
theorem parsed_of {l : List Nat} (h : (lexed l).err = 0) : parsed l = parsedOf (programP l.length (lexed l).toks) := by
  unfold parsed
  rw [if_pos h]
  cases programP l.length (lexed l).toks <;> rfl

set_option maxHeartbeats 1600000 in
theorem parse (A : Option Addr) (l : List Nat) (c : Nat) (w : World) (hc : l.length ≤ c) (hcm : c ≤ maxLen) (hl : Lies w w.heap.size A c (bts l)) (hy : Byn l) (ht : Tab w) :
    Calls Tryz.prog 10 #[.slice A l.length c] w (ParseO w (parsed l)) := by
  have hmf : ∀ (fn : Fn) (first cap : Array Value) (w : World), (Instr.makeFunc fn first cap).run Tryz.prog w = .ok (.func fn first cap) w := fun _ _ _ _ => rfl
  have hcm' := hcm
  unfold maxLen at hcm'
  have b2 := below_two (Below.refl w.heap.size w) (Nat.le_refl _) (.cells #[.slice none 0 0] 26) (.cells #[.int .i64 0] 27)
  have s2 : ((w.alloc (.cells #[.slice none 0 0] 26)).alloc (.cells #[.int .i64 0] 27)).heap.size = w.heap.size + 2 := by simp
  have bt := below_alloc ((w.alloc (.cells #[.slice none 0 0] 26)).alloc (.cells #[.int .i64 0] 27)) (.cells #[.int .i64 0] 3)
  have b3 := b2.trans (bt.mono b2.size)
  have n0 : (((w.alloc (.cells #[.slice none 0 0] 26)).alloc (.cells #[.int .i64 0] 27)).alloc (.cells #[.int .i64 0] 3)).heap[w.heap.size]? = some (.cells #[.slice none 0 0] 26) := by
    rw [Below.heap_alloc _ _ _ (by simp; omega), Below.heap_alloc _ _ _ (by simp)]
    exact heap_alloc_new w _
  have n1 : (((w.alloc (.cells #[.slice none 0 0] 26)).alloc (.cells #[.int .i64 0] 27)).alloc (.cells #[.int .i64 0] 3)).heap[w.heap.size + 1]? = some (.cells #[.int .i64 0] 27) := by
    rw [Below.heap_alloc _ _ _ (by simp)]
    have := heap_alloc_new (w.alloc (.cells #[.slice none 0 0] 26)) (.cells #[.int .i64 0] 27)
    simpa using this
  have n2 : (((w.alloc (.cells #[.slice none 0 0] 26)).alloc (.cells #[.int .i64 0] 27)).alloc (.cells #[.int .i64 0] 3)).heap[w.heap.size + 1 + 1]? = some (.cells #[.int .i64 0] 3) := by
    have := heap_alloc_new ((w.alloc (.cells #[.slice none 0 0] 26)).alloc (.cells #[.int .i64 0] 27)) (.cells #[.int .i64 0] 3)
    simpa using this
  have K := Lib.hid (lex A l c _ hc hcm ((hl.below b3).more b3.size) hy (ht.below b3 ht.1))
  have HB := Lib.hid b3
  have HN : Hid (VarAt (((w.alloc (.cells #[.slice none 0 0] 26)).alloc (.cells #[.int .i64 0] 27)).alloc (.cells #[.int .i64 0] 3)) w.heap.size [.slice none 0 0] ∧ VarAt (((w.alloc (.cells #[.slice none 0 0] 26)).alloc (.cells #[.int .i64 0] 27)).alloc (.cells #[.int .i64 0] 3)) (w.heap.size + 1) [.int .i64 0] ∧ VarAt (((w.alloc (.cells #[.slice none 0 0] 26)).alloc (.cells #[.int .i64 0] 27)).alloc (.cells #[.int .i64 0] 3)) (w.heap.size + 1 + 1) [.int .i64 0]) := ⟨VarAt.block (cs := [_]) n0, VarAt.block (cs := [_]) n1, VarAt.block (cs := [_]) n2⟩
  have s3 : (((w.alloc (.cells #[.slice none 0 0] 26)).alloc (.cells #[.int .i64 0] 27)).alloc (.cells #[.int .i64 0] 3)).heap.size = w.heap.size + 3 := by simp
  have HY := Lib.hid hy
  clear hl hy ht b2 bt b3 n0 n1 n2 s2 hcm
  go_enter_defers Tryz.func10, Tryz.ntmps10
  go_wp2_with fail
  generalize ((w.alloc (.cells #[.slice none 0 0] 26)).alloc (.cells #[.int .i64 0] 27)).alloc (.cells #[.int .i64 0] 3) = w0 at *
  refine K.out.mono ?_
  clear K
  rintro e' w1 ⟨v, rfl, hown, hb1⟩
  obtain ⟨Av, cv, rfl⟩ := own_shape hown
  have s1 := hb1.size
  have V0 := HN.out.1.of (hb1.block _ (by omega))
  have V1 := HN.out.2.1.of (hb1.block _ (by omega))
  have V2 := HN.out.2.2.of (hb1.block _ (by omega))
  obtain ⟨e1, f1⟩ := V1.cell 0 _ rfl
  obtain ⟨e2, f2⟩ := V2.cell 0 _ rfl
  by_cases herr : (lexed l).err = 0
  · have hne : ((((lexed l).err : Nat) : Int) != 0) = false := by rw [herr]; rfl
    have HP := Lib.hid (parsed_of herr)
    have HV : Hid (VarAt w1 w.heap.size [.slice none 0 0] ∧ VarAt w1 (w.heap.size + 1) [.int .i64 0] ∧ VarAt w1 (w.heap.size + 1 + 1) [.int .i64 0]) := ⟨V0, V1, V2⟩
    have HB1 := Lib.hid (HB.out.trans (hb1.mono (by omega)))
    have HO := Lib.hid hown
    have hmany := lexed_many l
    have HNm := Lib.hid (lexed_names HY.out)
    clear hown hb1 V0 V1 V2 herr
    generalize (lexed l).err = er at *
    generalize (lexed l).place = pl at *
    generalize (lexed l).toks = ts at *
    go_upto_region 4 with fail
    have vb := (HV.out.2.1.set 0 (.int .i64 er)).of (set_other (b := w.heap.size + 1 + 1) (i := 0) (u := .int .i64 pl) _ (by omega))
    have vc := (HV.out.2.2.of (set_other (b := w.heap.size + 1) (i := 0) (u := .int .i64 er) _ (by omega))).set 0 (.int .i64 pl)
    have va := (HV.out.1.of (set_other (b := w.heap.size + 1) (i := 0) (u := .int .i64 er) _ (by omega))).of (set_other (b := w.heap.size + 1 + 1) (i := 0) (u := .int .i64 pl) _ (by omega))
    have hB3 := (HB1.out.setCell (p := ⟨w.heap.size + 1, 0, none⟩) (by show w.heap.size ≤ w.heap.size + 1; omega) (.int .i64 er)).setCell (p := ⟨w.heap.size + 1 + 1, 0, none⟩) (by show w.heap.size ≤ w.heap.size + 1 + 1; omega) (.int .i64 pl)
    have hsz : ((w1.setCell ⟨w.heap.size + 1, 0, none⟩ (.int .i64 er)).setCell ⟨w.heap.size + 1 + 1, 0, none⟩ (.int .i64 pl)).heap.size = w1.heap.size := by rw [set_size, set_size]
    have hO3 : ((w1.setCell ⟨w.heap.size + 1, 0, none⟩ (.int .i64 er)).setCell ⟨w.heap.size + 1 + 1, 0, none⟩ (.int .i64 pl)).ownsRow w0.heap.size 87 4 (.slice Av ts.length cv) ts.length (toksC ts) := by
      refine ⟨HO.out.1, ?_⟩
      rcases HO.out.2 with h' | ⟨g, cap, cur, e, hb, hg, rest⟩
      · exact .inl h'
      · exact .inr ⟨g, cap, cur, e, hb, by rw [set_other g (by omega), set_other g (by omega)]; exact hg, rest⟩
    clear e1 f1 e2 f2 HV HO HB1
    generalize (w1.setCell ⟨w.heap.size + 1, 0, none⟩ (.int .i64 er)).setCell ⟨w.heap.size + 1 + 1, 0, none⟩ (.int .i64 pl) = w3 at *
    obtain ⟨S, hS1, hS2, hS3, hS4⟩ := own_src (z := l.length) (R := w3.heap.size) hO3 (fun t h => (HNm.out t h).1) (Nat.le_refl _)
    have bR := below_alloc w3 (.cells #[.slice Av ts.length cv, .int .i64 0, .int .i64 l.length] 63)
    have hAt : At (w3.alloc (.cells #[.slice Av ts.length cv, .int .i64 0, .int .i64 l.length] 63)) w3.heap.size S ts := by
      refine ⟨hS4.of fun k hk => bR.block k hk, 0, Nat.zero_le _, by rw [hS1]; rfl, ?_⟩
      rw [heap_alloc_new]
      unfold rdO
      rw [hS3, hS2]
      rfl
    have K := Lib.hid (program w3.heap.size S (by rw [hS1]; omega) ts _ hAt)
    rw [hS2] at K
    have HV3 : Hid (VarAt w3 w.heap.size [.slice none 0 0] ∧ VarAt w3 (w.heap.size + 1) [.int .i64 er] ∧ VarAt w3 (w.heap.size + 1 + 1) [.int .i64 pl]) := ⟨va, vb, vc⟩
    have HB3 := Lib.hid (hB3.trans (bR.mono hB3.size))
    have sR : (w3.alloc (.cells #[.slice Av ts.length cv, .int .i64 0, .int .i64 l.length] 63)).heap.size = w3.heap.size + 1 := by simp
    have HbR := Lib.hid bR
    have HSZ := Lib.hid hsz
    have HSR := Lib.hid sR
    have HS3 := Lib.hid s3
    clear va vb vc hB3 hO3 hS1 hS3 hS4 bR hAt hsz sR s3
    go_wp2_with fail
    generalize w3.alloc (.cells #[.slice Av ts.length cv, .int .i64 0, .int .i64 l.length] 63) = wR at *
    (with_reducible refine K.out.mono ?_)
    clear K
    rintro e' w5 ⟨hm, ⟨fs, r5, pv, hr, rfl, hq, ha5⟩ | ⟨cc, q, hr, rfl⟩⟩
    · have hsz := HSZ.out
      have sR := HSR.out
      have s3 := HS3.out
      have VR : VarAt w5 w.heap.size [.slice none 0 0] ∧ VarAt w5 (w.heap.size + 1) [.int .i64 er] ∧ VarAt w5 (w.heap.size + 1 + 1) [.int .i64 pl] :=
        ⟨HV3.out.1.of ((hm.block' (by omega) (by omega)).trans (HbR.out.block _ (by omega))), HV3.out.2.1.of ((hm.block' (by omega) (by omega)).trans (HbR.out.block _ (by omega))), HV3.out.2.2.of ((hm.block' (by omega) (by omega)).trans (HbR.out.block _ (by omega)))⟩
      obtain ⟨V, rfl, hF⟩ := hq
      obtain ⟨aV, nV, cV, rfl⟩ : ∃ a n c, V = .slice a n c := by
        obtain ⟨_, _, ⟨a, c, h, _⟩, _⟩ := hF
        exact ⟨a, _, c, h⟩
      have HP2 : Hid (parsed l = ⟨0, fs, 0⟩) := by show _ = _; rw [HP.out, hr]; rfl
      have HB5 : Hid (Below w.heap.size w w5) := HB3.out.trans ⟨hm.os, hm.tape, hm.output, hm.size, fun k hk => hm.block' (by omega) (by omega)⟩
      have HF : Hid (FusC w5 (Rng (w.heap.size + 3) w5.heap.size) fs (.slice aV nV cV)) := hF.more fun k hk => ⟨by have := hk.1; omega, hk.2⟩
      have HVR := Lib.hid VR
      clear hm hr hsz sR s3 hF ha5 VR
      go_wp2_with (refine wpList_storeN info26s rfl (.tmp 2) (.tmp 25) rfl rfl w.heap.size rfl [_] rfl rfl HVR.out.1.2 (by simp [Value.oneCell']) ?_; intro w7 g1 g2 g3 g4 g5; refine Hid.out ?_)
      refine Lib.hid ?_
      have v1 := HVR.out.2.1.of (g4 (w.heap.size + 1) (by omega))
      have v2 := HVR.out.2.2.of (g4 (w.heap.size + 1 + 1) (by omega))
      obtain ⟨e1, f1⟩ := v1.cell 0 _ rfl
      obtain ⟨e2, f2⟩ := v2.cell 0 _ rfl
      have HG : Hid (VarAt w7 w.heap.size [.slice aV nV cV] ∧ VarAt w7 (w.heap.size + 1) [.int .i64 er] ∧ VarAt w7 (w.heap.size + 1 + 1) [.int .i64 pl] ∧ Below w.heap.size w w7 ∧ FusC w7 (Rng (w.heap.size + 3) w7.heap.size) fs (.slice aV nV cV)) :=
        ⟨⟨g1, g2⟩, v1, v2, HB5.out.trans g3, (HF.out.same fun q h => g4 q (by have := h.1; omega)).more fun q h => ⟨h.1, by rw [g5]; exact h.2⟩⟩
      clear g1 g2 g3 g4 g5 v1 v2
      go_wp2
      have va := (HG.out.1.of (set_other (b := w.heap.size + 1) (i := 0) (u := .int .i64 0) _ (by omega))).of (set_other (b := w.heap.size + 1 + 1) (i := 0) (u := .int .i64 0) _ (by omega))
      have vb := (HG.out.2.1.set 0 (.int .i64 0)).of (set_other (b := w.heap.size + 1 + 1) (i := 0) (u := .int .i64 0) _ (by omega))
      have vc := (HG.out.2.2.1.of (set_other (b := w.heap.size + 1) (i := 0) (u := .int .i64 0) _ (by omega))).set 0 (.int .i64 0)
      have hbe := (HG.out.2.2.2.1.setCell (p := ⟨w.heap.size + 1, 0, none⟩) (by show w.heap.size ≤ w.heap.size + 1; omega) (.int .i64 0)).setCell (p := ⟨w.heap.size + 1 + 1, 0, none⟩) (by show w.heap.size ≤ w.heap.size + 1 + 1; omega) (.int .i64 0)
      have hfu : FusC ((w7.setCell ⟨w.heap.size + 1, 0, none⟩ (.int .i64 0)).setCell ⟨w.heap.size + 1 + 1, 0, none⟩ (.int .i64 0)) (Rng (w.heap.size + 3) w7.heap.size) fs (.slice aV nV cV) :=
        HG.out.2.2.2.2.same fun q h => by rw [set_other q (by have := h.1; omega), set_other q (by have := h.1; omega)]
      have hsz7 : ((w7.setCell ⟨w.heap.size + 1, 0, none⟩ (.int .i64 0)).setCell ⟨w.heap.size + 1 + 1, 0, none⟩ (.int .i64 0)).heap.size = w7.heap.size := by rw [set_size, set_size]
      generalize (w7.setCell ⟨w.heap.size + 1, 0, none⟩ (.int .i64 0)).setCell ⟨w.heap.size + 1 + 1, 0, none⟩ (.int .i64 0) = w8 at *
      refine leaves_cons (f := 21) (args := #[.pointer (some ⟨w.heap.size, 0, none⟩), .pointer (some ⟨w.heap.size + 1, 0, none⟩), .pointer (some ⟨w.heap.size + 1 + 1, 0, none⟩)]) (by simp) (by simp [go_sem]) ?_
      refine (catch_idle ⟨w.heap.size, 0, none⟩ ⟨w.heap.size + 1, 0, none⟩ ⟨w.heap.size + 1 + 1, 0, none⟩ w8).mono ?_
      rintro e' u' w9 ⟨rfl, rfl, rfl⟩
      exact ⟨_, ret_parse _ _ w.heap.size (w.heap.size + 1) (w.heap.size + 1 + 1) (.slice aV nV cV) 0 0 rfl rfl rfl va vb vc, .slice aV nV cV, by rw [HP2.out]; rfl, by rw [HP2.out]; exact hfu.more fun q h => ⟨by have := h.1; omega, by rw [hsz7]; exact h.2⟩, hbe⟩
    · have hsz := HSZ.out
      have sR := HSR.out
      have s3 := HS3.out
      have VR : VarAt w5 w.heap.size [.slice none 0 0] ∧ VarAt w5 (w.heap.size + 1) [.int .i64 er] ∧ VarAt w5 (w.heap.size + 1 + 1) [.int .i64 pl] :=
        ⟨HV3.out.1.of ((hm.block' (by omega) (by omega)).trans (HbR.out.block _ (by omega))), HV3.out.2.1.of ((hm.block' (by omega) (by omega)).trans (HbR.out.block _ (by omega))), HV3.out.2.2.of ((hm.block' (by omega) (by omega)).trans (HbR.out.block _ (by omega)))⟩
      have HP2 : Hid (parsed l = ⟨cc, [], q⟩) := by show _ = _; rw [HP.out, hr]; rfl
      have HB5 : Hid (Below w.heap.size w w5) := HB3.out.trans ⟨hm.os, hm.tape, hm.output, hm.size, fun k hk => hm.block' (by omega) (by omega)⟩
      clear hm hr hsz sR s3
      go_wp2
      refine leaves_cons (f := 21) (args := #[.pointer (some ⟨w.heap.size, 0, none⟩), .pointer (some ⟨w.heap.size + 1, 0, none⟩), .pointer (some ⟨w.heap.size + 1 + 1, 0, none⟩)]) (by simp) (by simp [go_sem]) ?_
      refine (catch_panicking w.heap.size (w.heap.size + 1) (w.heap.size + 1 + 1) cc q [] w5 _ _ _ VR.1 VR.2.1 VR.2.2 (by omega) (by omega) (by omega)).mono ?_
      rintro e' u' w6 ⟨rfl, rfl, v1, v2, v3, hbel⟩
      refine ⟨_, ret_parse _ _ w.heap.size (w.heap.size + 1) (w.heap.size + 1 + 1) (.slice none 0 0) cc q rfl rfl rfl v1 v2 v3, .slice none 0 0, by rw [HP2.out], by rw [HP2.out]; exact FusC.nothing _ _, HB5.out.trans (hbel _ (Nat.le_refl _) (by omega) (by omega))⟩
  · have hne : ((((lexed l).err : Nat) : Int) != 0) = true := by rw [bne_iff_ne]; omega
    have HO := Lib.hid hown
    have HV : Hid (VarAt w1 w.heap.size [.slice none 0 0] ∧ VarAt w1 (w.heap.size + 1) [.int .i64 0] ∧ VarAt w1 (w.heap.size + 1 + 1) [.int .i64 0]) := ⟨V0, V1, V2⟩
    have HB1 := Lib.hid (HB.out.trans (hb1.mono (by omega)))
    have HP : Hid (parsed l = ⟨(lexed l).err, [], (lexed l).place⟩) := by show _ = _; unfold parsed; rw [if_neg herr]
    obtain ⟨e0, f0⟩ := V0.cell 0 _ rfl
    clear hown hb1 V0 V1 V2 herr
    generalize (lexed l).err = er at *
    generalize (lexed l).place = pl at *
    go_wp2_with fail
    go_region
    go_wp2
    have va := ((((HV.out.1.of (set_other (b := w.heap.size + 1) (i := 0) (u := .int .i64 er) _ (by omega))).of (set_other (b := w.heap.size + 1 + 1) (i := 0) (u := .int .i64 pl) _ (by omega))).set 0 (.slice none 0 0)).of (set_other (b := w.heap.size + 1) (i := 0) (u := .int .i64 er) _ (by omega))).of (set_other (b := w.heap.size + 1 + 1) (i := 0) (u := .int .i64 pl) _ (by omega))
    have vb := ((((HV.out.2.1.set 0 (.int .i64 er)).of (set_other (b := w.heap.size + 1 + 1) (i := 0) (u := .int .i64 pl) _ (by omega))).of (set_other (b := w.heap.size) (i := 0) (u := .slice none 0 0) _ (by omega))).set 0 (.int .i64 er)).of (set_other (b := w.heap.size + 1 + 1) (i := 0) (u := .int .i64 pl) _ (by omega))
    have vc := ((((HV.out.2.2.of (set_other (b := w.heap.size + 1) (i := 0) (u := .int .i64 er) _ (by omega))).set 0 (.int .i64 pl)).of (set_other (b := w.heap.size) (i := 0) (u := .slice none 0 0) _ (by omega))).of (set_other (b := w.heap.size + 1) (i := 0) (u := .int .i64 er) _ (by omega))).set 0 (.int .i64 pl)
    refine ⟨_, ret_parse _ _ w.heap.size (w.heap.size + 1) (w.heap.size + 1 + 1) (.slice none 0 0) er pl rfl rfl rfl (va.of rfl) (vb.of rfl) (vc.of rfl), .slice none 0 0, by rw [HP.out], by rw [HP.out]; exact FusC.nothing _ _, ?_⟩
    exact (((((HB1.out.setCell (p := ⟨w.heap.size + 1, 0, none⟩) (by show w.heap.size ≤ w.heap.size + 1; omega) _).setCell (p := ⟨w.heap.size + 1 + 1, 0, none⟩) (by show w.heap.size ≤ w.heap.size + 1 + 1; omega) _).setCell (p := ⟨w.heap.size, 0, none⟩) (Nat.le_refl _) _).setCell (p := ⟨w.heap.size + 1, 0, none⟩) (by show w.heap.size ≤ w.heap.size + 1; omega) _).setCell (p := ⟨w.heap.size + 1 + 1, 0, none⟩) (by show w.heap.size ≤ w.heap.size + 1 + 1; omega) _).drew
end

section
open Go.RowKit
set_option maxRecDepth 100000
set_option linter.unusedSimpArgs false
set_option linter.unusedVariables false
/-- a row that is not empty lies at a plain place -/
theorem RowF.plain {w : World} {D : Nat → Prop} {n : Nat} {xs : List Value} {V : Value} (h : RowF w D n xs V) (hx : xs ≠ []) : ∃ b o c, V = .slice (some ⟨b, o, none⟩) n c ∧ n ≤ c ∧ c ≤ maxLen ∧ D b ∧ w.rangeAt b o xs := by
  obtain ⟨A, c, rfl, h2, h3, h4, h5⟩ := h
  cases xs with
  | nil => exact absurd rfl hx
  | cons x r =>
    obtain ⟨ad, rfl, hD, hc⟩ := h5 0 x rfl
    have hs : ad.spot = none := by
      unfold World.cell? at hc
      rw [show ad.add 0 = ad from rfl] at hc
      split at hc
      · split at hc
        · cases hc
        · rename_i hh
          cases hsp : ad.spot with
          | none => rfl
          | some q => rw [hsp] at hh; simp at hh
      · cases hc
    obtain ⟨b, o, sp⟩ := ad
    simp at hs
    subst hs
    refine ⟨b, o, c, rfl, h2, h3, hD, fun j v hv => ?_⟩
    obtain ⟨ad', e, _, hc'⟩ := h5 j v hv
    injection e with e
    subst e
    rw [Addr.add_lit] at hc'
    exact hc'
theorem zip_get {α β : Type} {f : α → β → List Value} {m : Nat} (hf : ∀ a b, (f a b).length = m) : ∀ (l : List α) (ks : List β) (i j : Nat) (a : α) (b : β), l[i]? = some a → ks[i]? = some b → j < m → ((List.zipWith f l ks).flatten)[i * m + j]? = (f a b)[j]?
  | [], _, i, j, a, b, h, _, _ => by simp at h
  | _ :: _, [], i, j, a, b, _, h, _ => by simp at h
  | x :: l, y :: ks, 0, j, a, b, h, h', hj => by
    simp at h h'
    subst h h'
    simp only [List.zipWith_cons_cons, List.flatten_cons]
    rw [List.getElem?_append_left (by rw [hf]; omega)]
    simp
  | x :: l, y :: ks, i + 1, j, a, b, h, h', hj => by
    have ih := zip_get hf l ks i j a b (by simpa using h) (by simpa using h') hj
    simp only [List.zipWith_cons_cons, List.flatten_cons]
    have e : (i + 1) * m = m + i * m := by rw [Nat.add_mul]; omega
    rw [List.getElem?_append_right (by rw [hf]; omega), hf]
    rw [show (i + 1) * m + j - m = i * m + j by omega]
    exact ih
theorem stsC_sl {w : World} {D : Nat → Prop} {l : List St} {k : Value} (h : StsC w D l k) : ∃ A c, k = .slice A l.length c := by
  cases h with
  | mk _ ks _ _ h1 _ _ _ =>
    obtain ⟨A, c, e, _⟩ := h1
    exact ⟨A, c, e⟩
theorem row_slice {w : World} {D : Nat → Prop} {n : Nat} {xs : List Value} {V : Value} (h : RowF w D n xs V) : ∃ A c, V = .slice A n c := by
  obtain ⟨A, c, e, _⟩ := h
  exact ⟨A, c, e⟩
theorem cells5 : Tryz.prog.cellsOf 5 = 1 := by kernel_rfl
theorem FusC.get {w : World} {D : Nat → Prop} {l : List Fu} {V : Value} (h : FusC w D l V) {i : Nat} {f : Fu} (he : l[i]? = some f) : ∃ (b o c : Nat) (k : Two), V = .slice (some ⟨b, o, none⟩) l.length c ∧ l.length ≤ c ∧ c ≤ maxLen ∧ D b ∧ w.rangeAt b (o + i * 5) (fuC f k.p k.b) ∧ FuK w D f k := by
  obtain ⟨ks, hk, h1, h2⟩ := h
  have hi := (List.getElem?_eq_some_iff.1 he).1
  have hk' : ks[i]? = some ks[i] := List.getElem?_eq_getElem (by omega)
  generalize ks[i] = k at hk'
  have hg := fun j hj => zip_get (f := fun (s : Fu) (k : Two) => fuC s k.p k.b) (m := 5) (fun _ _ => rfl) l ks i j f k he hk' hj
  obtain ⟨b, o, c, rfl, a1, a2, a3, a4⟩ := h1.plain (by
    intro e0
    have := hg 0 (by omega)
    unfold fusC at e0
    rw [e0] at this
    simp [fuC] at this)
  refine ⟨b, o, c, k, rfl, a1, a2, a3, fun j v hv => ?_, h2 i f k he hk'⟩
  have hj : j < 5 := by
    have := (List.getElem?_eq_some_iff.1 hv).1
    simpa [fuC] using this
  rw [Nat.add_assoc]
  exact a4 _ v ((hg j hj).trans hv)
theorem push_modify (a : Array Obj) (x : Obj) (f : Obj → Obj) : (a.push x).modify a.size f = a.push (f x) := by
  apply Array.ext
  · simp
  · intro i h1 h2
    simp only [Array.getElem_modify, Array.getElem_push]
    by_cases h : a.size = i
    · subst h
      simp
    · have hi : i < a.size := by simp at h1; omega
      simp [h, hi]
/-- a constant string's bytes: the block bears the mark behind its last cell -/
theorem run_marked (w : World) (C : Array Value) (n c : Nat) :
    (convert 22 22 (.slice (some ⟨w.heap.size, 0, none⟩) n c)).run Tryz.prog (w.alloc (.cells C 5)) = .ok (.slice (some ⟨w.heap.size, 0, none⟩) n c) (w.alloc (.cells C 5 (C.size, C.size + 1))) := by
  have hsh : (w.alloc (.cells C 5)).shape? w.heap.size = some (5, C.size) := by
    have : (w.alloc (.cells C 5)).heap[w.heap.size]? = some (.cells C 5) := heap_alloc_new w _
    unfold World.shape?
    rw [this]
  have hfr : (w.alloc (.cells C 5)).freeze ⟨w.heap.size, C.size, none⟩ 1 = w.alloc (.cells C 5 (C.size, C.size + 1)) := by
    unfold World.freeze
    rw [if_neg (by decide)]
    show ({ w.alloc (.cells C 5) with heap := (w.heap.push (.cells C 5)).modify w.heap.size _ } : World) = _
    rw [push_modify]
    rfl
  simp [convert, run_underlying Tryz.underlying22, run_underlying Tryz.underlying5, markStringish, hsh]
  exact hfr
/-- a block just made, as a slice that lies -/
theorem lies_new (w : World) (l : List Nat) (c : Nat) (t : TypeId) (fr : Nat × Nat) : Lies (w.alloc (.cells (bts l).toArray t fr)) (w.heap.size + 1) (some ⟨w.heap.size, 0, none⟩) c (bts l) := by
  refine ⟨(fun e => by cases e), fun j u hu => ⟨_, rfl, by simp, ?_⟩⟩
  have hb : (w.alloc (.cells (bts l).toArray t fr)).heap[w.heap.size]? = some (.cells (bts l).toArray t fr) := heap_alloc_new w _
  rw [Addr.add_lit, cell_of_row _ _ _ _ _ _ hb]
  simpa using hu
/-- what 'Parse' returns, spelled out -/
def ParseZ (w : World) (fs : List Fu) (ze zp : Int) (e : Ending) (w' : World) : Prop :=
  ∃ V, e = .returned (.tuple #[.agg #[V], .int .i64 ze, .int .i64 zp]) ∧ FusC w' (Rng w.heap.size w'.heap.size) fs V ∧ Below w.heap.size w w'
theorem parseZ (A : Option Addr) (l : List Nat) (n c : Nat) (w : World) (hn : l.length = n) (hc : n ≤ c) (hcm : c ≤ maxLen) (hl : Lies w w.heap.size A c (bts l)) (hy : Byn l) (ht : Tab w) (err place : Nat) (fs : List Fu) (hp : parsed l = ⟨err, fs, place⟩) (ze zp : Int) (h1 : ze = err) (h2 : zp = place) :
    Calls Tryz.prog 10 #[.slice A n c] w (ParseZ w fs ze zp) := by
  subst hn h1 h2
  have h := parse A l c w hc hcm hl hy ht
  rw [hp] at h
  exact h
end
end Go.Proofs.YtfcpabhkconjmaaGreatDoor
