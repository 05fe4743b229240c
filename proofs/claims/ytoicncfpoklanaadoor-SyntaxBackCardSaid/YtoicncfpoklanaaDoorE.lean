/- What the program's search of the longest sign returns. Conditions: what is read lies in memory; the tables lie as the program lays them. -/
import Derived.Test.YtoicncfpoklanaaDoorD
import Derived.WalkMore
namespace Go.Proofs.YtoicncfpoklanaaDoor
open Go.RowKit
set_option maxRecDepth 100000

/-- the longest sign so far, and behind one more -/
def better (r best x : List Nat) : List Nat := if x.length ≤ best.length then best else if x.length > r.length then best else if r.take x.length = x then x else best
def best (r : List Nat) : List (List Nat) → List Nat → List Nat
  | [], b => b
  | x :: L, b => best r L (better r b x)
theorem best_append (r : List Nat) : ∀ (L : List (List Nat)) (x b : List Nat), best r (L ++ [x]) b = better r (best r L b) x
  | [], _, _ => rfl
  | y :: L, x, b => best_append r L x (better r b y)
theorem best_keep (r : List Nat) : ∀ (L : List (List Nat)) (b : List Nat), (∀ x ∈ L, x.length ≤ b.length) → best r L b = b
  | [], _, _ => rfl
  | x :: L, b, h => by
    have h1 : better r b x = b := by unfold better; rw [if_pos (h x (by simp))]
    show best r L (better r b x) = b
    rw [h1]
    exact best_keep r L b fun y hy => h y (by simp [hy])
theorem best_find (r : List Nat) (m : Nat) (hm : 0 < m) : ∀ (L : List (List Nat)), (∀ x ∈ L, x.length = m) → best r L [] = if L.contains (r.take m) then r.take m else []
  | [], _ => by simp [best]
  | x :: L, h => by
    have hx := h x (by simp)
    have hL : ∀ y ∈ L, y.length = m := fun y hy => h y (by simp [hy])
    show best r L (better r [] x) = _
    by_cases hr : r.take m = x
    · have h1 : better r [] x = x := by
        unfold better
        have : (r.take m).length = m := by rw [hr, hx]
        rw [List.length_take] at this
        rw [if_neg (by rw [hx]; simp only [List.length_nil]; omega), if_neg (by omega), hx, if_pos hr]
      rw [h1, best_keep r L x fun y hy => by rw [hL y hy, hx]; exact Nat.le_refl _]
      simp [hr]
    · have h1 : better r [] x = [] := by
        unfold better
        rw [hx]
        simp [hr]
      rw [h1, best_find r m hm L hL]
      simp [hr]
theorem best_signs (r : List Nat) : best r signsN [] = signOf r := by
  have app : ∀ (L M : List (List Nat)) (b : List Nat), best r (L ++ M) b = best r M (best r L b) := by
    intro L
    induction L with
    | nil => intro M b; rfl
    | cons x L ih => intro M b; exact ih M _
  unfold signsN signOf
  rw [app, best_find r 2 (by omega) twos (by decide)]
  have h1 : ∀ x ∈ ones, x.length = 1 := by decide
  by_cases h : twos.contains (r.take 2) = true
  · rw [if_pos h, if_pos h]
    refine best_keep r ones _ fun x hx => ?_
    have h2 : ∀ x ∈ twos, x.length = 2 := by decide
    have := h2 (r.take 2) (by simpa using h)
    rw [h1 x hx, this]
    omega
  · rw [if_neg h, if_neg h]
    exact best_find r 1 (by omega) ones h1

theorem signs_get {k : Nat} (h : k < 22) : ∃ x, signsN[k]? = some x ∧ (signsN.map strV)[k]? = some (.string (strN x)) ∧ Byn x ∧ 1 ≤ x.length ∧ x.length ≤ 2 := by
  have hk : k < signsN.length := h
  have hall : ∀ x ∈ signsN, (∀ b ∈ x, b < 256) ∧ 1 ≤ x.length ∧ x.length ≤ 2 := by decide
  have h1 := hall _ (List.getElem_mem hk)
  exact ⟨signsN[k], List.getElem?_eq_getElem hk, by simp [hk], h1.1, h1.2⟩
theorem wpList_load48 {ops : Array Oper} {rest : List Oper} {o : Oper} {a : Act} {w : World} {Q : Exit → Act → World → Prop} (h : Tab w) (hgd : o.guard = none) (ho : o.op = .load 109 (.global 1))
    (k : wpList Tryd.prog ops Q rest (a.put o.dst (.agg (signsN.map strV).toArray)) w) : wpList Tryd.prog ops Q (o :: rest) a w :=
  wpList_load_mid hgd 109 (.global 1) ho 1 0 rfl _ _ h.2.2 Tryd.underlying109 rfl info109 k
theorem run_index_str (w : World) {x : List Nat} {j b : Nat} (hx : Byn x) (h : x[j]? = some b) : (Instr.index 9 (.string (strN x)) (.int .i64 j)).run Tryd.prog w = .ok (.int .u8 b) w := by
  have hb := byn_get hx h
  have h1 : (strN x)[j]? = some (UInt8.ofNat b) := by
    have : (strN x).data[j]? = some (UInt8.ofNat b) := by rw [strN_data]; simp [h]
    exact this
  have h2 : b % 256 = b := by omega
  simp [Instr.index, run_underlying Tryd.underlying9, asIntOf, h1, h2]

theorem str_byte {x : List Nat} {j y : Nat} (hx : Byn x) (h : x[j]? = some y) : ∀ (hj : j < (strN x).size), ((strN x)[j]'hj).toNat = y := by
  intro hj
  have hb := byn_get hx h
  have h1 : (strN x)[j]? = some (UInt8.ofNat y) := by
    have : (strN x).data[j]? = some (UInt8.ofNat y) := by rw [strN_data]; simp [h]
    exact this
  have h2 : (strN x)[j]'hj = UInt8.ofNat y := by
    have h3 : (strN x)[j]? = some ((strN x)[j]'hj) := by simp [hj]
    rw [h1] at h3
    simpa using h3.symm
  rw [h2]
  have h4 : y % 256 = y := by omega
  simp [h4]
theorem take_more {r x : List Nat} {j y : Nat} (h : r.take j = x.take j) (hr : r[j]? = some y) (hx : x[j]? = some y) : r.take (j + 1) = x.take (j + 1) := by
  rw [List.take_add_one, List.take_add_one, h, hr, hx]
theorem take_unlike {r x : List Nat} {j a y : Nat} (hr : r[j]? = some a) (hx : x[j]? = some y) (hay : ¬ a = y) : ¬ r.take x.length = x := by
  intro h
  have hj := (List.getElem?_eq_some_iff.1 hx).1
  have h1 : (r.take x.length)[j]? = some a := by rw [List.getElem?_take, if_pos hj, hr]
  rw [h, hx] at h1
  exact hay (by simpa using h1.symm)

set_option maxHeartbeats 3200000 in
theorem longest (A : Option Addr) (r : List Nat) (n c : Nat) (w : World) (hn : r.length = n) (hl : Lies w w.heap.size A c (bts r)) (hy : Byn r) (ht : Tab w) :
    Calls Tryd.prog 50 #[.slice A n c] w fun e w' => e = .returned (.string (strN (signOf r))) ∧ Below w.heap.size w w' := by
  have HL := Lib.hid hl
  have HY := Lib.hid hy
  have HT := Lib.hid ht
  have HNL := Lib.hid hn
  clear hl hy ht hn
  have hlen : (signsN.map strV).length = 22 := rfl
  have HG : Hid (∀ k, k < 22 → ∃ x, signsN[k]? = some x ∧ (signsN.map strV)[k]? = some (.string (strN x)) ∧ Byn x ∧ 1 ≤ x.length ∧ x.length ≤ 2) := fun k h => signs_get h
  have HB := Lib.hid (best_signs r)
  have HS : Hid (signsN.length = 22) := rfl
  go_enter Tryd.func50, Tryd.ntmps50
  go_wp2
  go_step3
  go_wp2
  go_step3
  go_wp2_with (refine wpList_load48 HT.out rfl rfl ?_; generalize signsN.map strV = kw at *)
  generalize signsN = W at *
  go_loopw [3, 8] (fun s i wr => ∃ (k : Nat), k ≤ 22 ∧ i = .int .i64 k ∧ s = .string (strN (best r (W.take k) [])) ∧ Below w.heap.size w wr) (fun _ i _ => 22 - (intOf i).toNat)
  case atStart => exact ⟨0, Nat.zero_le _, rfl, rfl, Below.refl _ _⟩
  case round =>
    obtain ⟨k, hk, rfl, rfl, hbel⟩ := hrel
    have BE := Lib.hid hbel
    clear hbel
    by_cases hlt : k < 22
    · obtain ⟨x, h1, h2, h3, h4, h5⟩ := HG.out k hlt
      have hix := run_index_agg wr (k := k) Tryd.underlying109 info9s (by simp) hlt h2
      have HX := Lib.hid h3
      have HSt : Hid (best r (W.take (k + 1)) [] = better r (best r (W.take k) []) x) := by
        show _ = _
        rw [List.take_add_one, h1]
        exact best_append r _ x []
      clear h1 h2 h3
      generalize best r (W.take k) [] = b at *
      have hsx := strN_size x
      have hsb := strN_size b
      have HR := HNL.out
      by_cases hskip : x.length ≤ b.length
      · have HB1 : Hid (better r b x = b) := by show _ = _; unfold better; rw [if_pos hskip]
        clear HR
        go_wp2
        go_roundw
        case rel => exact ⟨k + 1, by omega, by go_num, by rw [HSt.out, HB1.out], BE.out⟩
        case measure => simp [intOf]; omega
      · by_cases hlong : x.length > n
        · have HB1 : Hid (better r b x = b) := by show _ = _; unfold better; rw [if_neg hskip, if_pos (by omega)]
          clear HR
          go_wp2
          go_roundw
          case rel => exact ⟨k + 1, by omega, by go_num, by rw [HSt.out, HB1.out], BE.out⟩
          case measure => simp [intOf]; omega
        · have HB1 : Hid (better r b x = if r.take x.length = x then x else b) := by show _ = _; unfold better; rw [if_neg hskip, if_neg (by omega)]
          clear HR
          go_wp2
          clear hix
          go_loopw [25] (fun i ws => ∃ (j : Nat), j ≤ x.length ∧ i = .int .i64 j ∧ Hid (r.take j = x.take j) ∧ Below w.heap.size w ws) (fun i _ => x.length - (intOf i).toNat)
          case atStart => exact ⟨0, Nat.zero_le _, rfl, by simp [Hid], BE.out⟩
          case round =>
            obtain ⟨j, hj, rfl, HJ, hbel⟩ := hrel
            by_cases hjl : j < x.length
            · obtain ⟨ad, a, rfl, hBa, hg, hcell⟩ := (HL.out.below hbel).nat (k := j) (by rw [HNL.out]; omega)
              obtain ⟨y, hyx⟩ : ∃ y, x[j]? = some y := ⟨_, List.getElem?_eq_getElem hjl⟩
              have hidx := str_byte HX.out hyx
              have ha := byn_get HY.out hg
              have hyb := byn_get HX.out hyx
              have HG1 := Lib.hid hg
              have HG2 := Lib.hid hyx
              have BE2 := Lib.hid hbel
              clear hg hyx hbel BE
              by_cases hay : a = y
              · subst hay
                go_wp2
                go_quiet (fail)
                go_wp2
                go_roundw
                case rel => exact ⟨j + 1, by omega, by go_num, take_more HJ.out HG1.out HG2.out, below_drewN BE2.out _⟩
                case measure => simp [intOf]; omega
              · have hne : ((a : Int) != (y : Int)) = true := by rw [bne_iff_ne]; omega
                rw [if_neg (take_unlike HG1.out HG2.out hay)] at HB1
                go_wp2
                go_quiet (fail)
                go_wp2
                go_roundw
                case rel => exact ⟨k + 1, by omega, by go_num, by rw [HSt.out, HB1.out], below_drewN BE2.out _⟩
                case measure => simp [intOf]; omega
            · obtain rfl : j = x.length := by omega
              have HE : Hid (r.take x.length = x) := by have h1 := HJ.out; rw [List.take_length] at h1; exact h1
              rw [if_pos HE.out] at HB1
              have BE2 := Lib.hid hbel
              clear hbel BE
              go_wp2
              go_roundw
              case rel => exact ⟨k + 1, by omega, by go_num, by rw [HSt.out, HB1.out], BE2.out⟩
              case measure => simp [intOf]; omega
    · obtain rfl : k = 22 := by omega
      have HS2 := Lib.hid (List.take_of_length_le (l := W) (i := 22) (by rw [HS.out]; omega))
      rw [HS2.out, HB.out]
      go_wp2
      simp only [Exit.noGoto]
      go_ret
      exact ⟨rfl, BE.out⟩

theorem info33s : (Tryd.prog.info? 77).map (·.size) = some 4 := by kernel_rfl
theorem below_setCells {g : Nat} (w : World) (c0 c1 c2 c3 : Value) : Below g w (w.setCells g 0 [c0, c1, c2, c3]) :=
  (((((Below.refl g w).setCell (p := ⟨g, 0, none⟩) (Nat.le_refl _) c0).setCell (p := ⟨g, 1, none⟩) (Nat.le_refl _) c1).setCell (p := ⟨g, 2, none⟩) (Nat.le_refl _) c2).setCell (p := ⟨g, 3, none⟩) (Nat.le_refl _) c3)
theorem other_setCells {g k : Nat} (hk : k ≠ g) (w : World) (c0 c1 c2 c3 : Value) : (w.setCells g 0 [c0, c1, c2, c3]).heap[k]? = w.heap[k]? := by
  show (World.setCell (World.setCell (World.setCell (World.setCell w ⟨g, 0, none⟩ c0) ⟨g, 1, none⟩ c1) ⟨g, 2, none⟩ c2) ⟨g, 3, none⟩ c3).heap[k]? = _
  rw [Below.heap_setCell _ _ _ _ hk, Below.heap_setCell _ _ _ _ hk, Below.heap_setCell _ _ _ _ hk, Below.heap_setCell _ _ _ _ hk]
/-- a token is stored in a variable of its own -/
theorem wpList_store4 {ops : Array Oper} {rest : List Oper} {o : Oper} {a : Act} {w : World} {Q : Exit → Act → World → Prop} (hgd : o.guard = none) (x y : Operand) (ho : o.op = .store 77 x y) (hd : o.dst = none)
    (g : Nat) (hx : a.eval x = .pointer (some ⟨g, 0, none⟩)) (c0 c1 c2 c3 : Value) (hy : a.eval y = .agg #[c0, c1, c2, c3]) (ht : w.there g 0 4) (h0 : c0.oneCell' = true) (h1 : c1.oneCell' = true) (h2 : c2.oneCell' = true) (h3 : c3.oneCell' = true)
    (h : ∀ w', w'.rangeAt g 0 [c0, c1, c2, c3] → w'.there g 0 4 → Below g w w' → (∀ k, k ≠ g → w'.heap[k]? = w.heap[k]?) → wpList Tryd.prog ops Q rest a w') : wpList Tryd.prog ops Q (o :: rest) a w := by
  refine wpList_store_mid hgd 77 x y ho g 0 #[c0, c1, c2, c3] hx hy ht info33s (by simp [h0, h1, h2, h3]) ?_
  have := h (w.setCells g 0 [c0, c1, c2, c3]) (World.rangeAt_setCells_same w g 0 _ ht) (World.there_setCells ht _ _ _) (below_setCells w c0 c1 c2 c3) (fun k hk => other_setCells hk w c0 c1 c2 c3)
  rw [hd]
  exact this
/-- a reader's results -/
theorem ret_reader {fn : Func} (h : fn.results = #[.cell 4 77, .tmp 5, .tmp 6]) (tmps : Array Value) (w : World) (g : Nat) (cs : List Value) (hp : tmps.getD 4 undef = .pointer (some ⟨g, 0, none⟩)) (hr : w.rangeAt g 0 cs) (hl : cs.length = 4) :
    (results fn tmps).run Tryd.prog w = .ok (.tuple #[.agg cs.toArray, tmps.getD 5 undef, tmps.getD 6 undef]) w := by
  have hp' : tmps[4]?.getD undef = .pointer (some ⟨g, 0, none⟩) := by simpa using hp
  have h1 := run_loadVar_mid (P := Tryd.prog) w g 0 77 cs _ hr Tryd.underlying77 rfl (by rw [hl]; exact info33s)
  simp [results, h, hp', asAddr, h1]
theorem there_of {w : World} {g : Nat} {c0 c1 c2 c3 : Value} (h : w.heap[g]? = some (.cells #[c0, c1, c2, c3] 77 (0, 0))) : w.there g 0 4 := by
  intro j hj
  constructor
  · rw [cell_of_row _ _ _ _ _ _ h]
    rcases j with _ | _ | _ | _ | j
    · rfl
    · rfl
    · rfl
    · rfl
    · omega
  · simp [World.frozen?, h]

theorem str_empty (s : List Nat) : (strN s).toList.isEmpty = s.isEmpty := by
  rw [ByteArray.toList_eq, strN_data]
  cases s <;> rfl
theorem signOf_two (r : List Nat) : (signOf r).length ≤ 2 := by
  unfold signOf
  repeat' split
  all_goals simp only [List.length_take, List.length_nil]
  all_goals omega
theorem signOf_byn {r : List Nat} (h : Byn r) : Byn (signOf r) := by
  unfold signOf
  split
  · exact h.sub fun x hx => List.mem_of_mem_take hx
  · split
    · exact h.sub fun x hx => List.mem_of_mem_take hx
    · intro b hb
      cases hb
theorem signT_none {r : List Nat} (h : signOf r = []) : signT r = bad 31 := by unfold signT; rw [if_pos h]
theorem signT_some {r : List Nat} (h : ¬ signOf r = []) : signT r = ⟨0, 4, signOf r, 0, (signOf r).length⟩ := by unfold signT; rw [if_neg h]

set_option maxHeartbeats 1600000 in
theorem readSign (A : Option Addr) (l : List Nat) (c p : Nat) (w : World) (hc : l.length ≤ c) (hcm : c ≤ maxLen) (hl : Lies w w.heap.size A c (bts l)) (hy : Byn l) (hp : p < l.length) (ht : Tab w) :
    Calls Tryd.prog 35 #[.slice A l.length c, .int .i64 p] w fun e w' => e = .returned (readV (signT (l.drop p)) p) ∧ Below w.heap.size w w' := by
  have HL := Lib.hid hl
  have HY := Lib.hid hy
  have HT := Lib.hid ht
  have hpos := ht.1
  clear hl hy ht
  obtain ⟨ad, _, rfl, _, _, _⟩ := HL.out.nat hp
  have hne : ¬ c = p := by omega
  have hpl : p ≤ l.length := by omega
  have b0 := Lib.hid ((Below.refl w.heap.size w).alloc (Nat.le_refl _) (.cells #[.int .i64 0, .string ⟨#[]⟩, .int .i64 0, .int .i64 0] 77))
  have hm := (HL.out.below b0.out).cutN (p := p) hc
  rw [if_neg hne, Option.map_some] at hm
  have K1 := Lib.hid (longest (some (ad.add p)) (l.drop p) (l.length - p) (c - p) _ (by simp) (hm.more b0.out.size) (HY.out.sub fun x hx => List.mem_of_mem_drop hx) (HT.out.below b0.out hpos))
  have hnew := Lib.hid (heap_alloc_new w (.cells #[.int .i64 0, .string ⟨#[]⟩, .int .i64 0, .int .i64 0] 77))
  have H1 : Hid (signOf (l.drop p) = [] → signT (l.drop p) = bad 31) := signT_none
  have H2 : Hid (¬ signOf (l.drop p) = [] → signT (l.drop p) = ⟨0, 4, signOf (l.drop p), 0, (signOf (l.drop p)).length⟩) := signT_some
  have hs2 := signOf_two (l.drop p)
  have hs3 := signOf_le (l.drop p)
  rw [List.length_drop] at hs3
  have HSB := Lib.hid (signOf_byn (r := l.drop p) (HY.out.sub fun x hx => List.mem_of_mem_drop hx))
  generalize signOf (l.drop p) = s at *
  clear hm
  unfold maxLen at hcm
  go_enter Tryd.func35, Tryd.ntmps35
  go_wp2_with fail
  refine K1.out.mono ?_
  rintro e w1 ⟨rfl, hb1⟩
  have hblk : w1.heap[w.heap.size]? = some (.cells #[.int .i64 0, .string ⟨#[]⟩, .int .i64 0, .int .i64 0] 77 (0, 0)) := by
    rw [hb1.block _ (by simp)]
    exact hnew.out
  have HBL := Lib.hid hblk
  have bw := b0.out.trans (hb1.mono b0.out.size)
  have BW := Lib.hid bw
  clear hb1 bw hblk
  have hth := Lib.hid (there_of HBL.out)
  have hsz := strN_size s
  have he := str_empty s
  by_cases hs0 : s = []
  · subst hs0
    rw [List.isEmpty_nil] at he
    go_wp2_with (refine wpList_store4 rfl (.tmp 4) (.tmp 14) rfl rfl w.heap.size rfl _ _ _ _ rfl hth.out rfl rfl rfl rfl ?_; intro w2 g1 g2 g3 g4)
    refine bodyPost_ret (ret_reader Tryd.results35 _ _ w.heap.size _ rfl g1 rfl) rfl ?_
    refine ⟨?_, BW.out.trans g3⟩
    rw [H1.out trivial, readV_bad 31 p (by omega)]
    rfl
  · rw [show s.isEmpty = false by simpa using hs0] at he
    have HS0 := Lib.hid hs0
    clear hs0
    go_wp2_with (refine wpList_store4 rfl (.tmp 4) (.tmp 17) rfl rfl w.heap.size rfl _ _ _ _ rfl hth.out rfl rfl rfl rfl ?_; intro w2 g1 g2 g3 g4)
    refine bodyPost_ret (ret_reader Tryd.results35 _ _ w.heap.size _ rfl g1 rfl) rfl ?_
    refine ⟨?_, BW.out.trans g3⟩
    rw [H2.out HS0.out, readV_ok, okV]
    simp
end Go.Proofs.YtoicncfpoklanaaDoor
