/- Plain facts for SealSpoilt: bytes changed one behind the other, and what opening says of them; the loop's relation. Conditions: those in each theorem. -/
import Derived.Test.YtjilifodmmhnkaaDoorE
namespace Go.Proofs.YtjilifodmmhnkaaDoor
open Go.RowKit

/-- the byte at j, changed by x -/
def xb (S : List Int) (j x : Nat) : Int := (((S.getD j 0).toNat ^^^ x % 256 : Nat) : Int)
/-- S with the first k bytes from i on changed by x's bytes, the lowest first -/
def sp (S : List Int) (i x : Nat) : Nat → List Int
  | 0 => S
  | k + 1 => (sp S i x k).set (i + k) (xb S (i + k) (x / 2 ^ (8 * k)))
theorem sp_length (S : List Int) (i x : Nat) : ∀ k, (sp S i x k).length = S.length
  | 0 => rfl
  | k + 1 => by simp [sp, sp_length S i x k]
theorem sp_far (S : List Int) (i x : Nat) : ∀ (k j : Nat), i + k ≤ j → (sp S i x k)[j]? = S[j]?
  | 0, _, _ => rfl
  | k + 1, j, h => by
    show ((sp S i x k).set (i + k) _)[j]? = _
    rw [List.getElem?_set_ne (by omega)]
    exact sp_far S i x k j (by omega)
theorem xb_lt (S : List Int) (j x : Nat) (h : Byt S) : 0 ≤ xb S j x ∧ xb S j x < 256 := by
  unfold xb
  have h1 : (S.getD j 0).toNat < 256 := by
    rw [List.getD_eq_getElem?_getD]
    cases hj : S[j]? with
    | none => simp
    | some b =>
      have := h b (List.mem_of_getElem? hj)
      simp
      omega
  have h2 : (S.getD j 0).toNat ^^^ x % 256 < 256 := Nat.xor_lt_two_pow (n := 8) h1 (Nat.mod_lt x (by omega : 256 > 0))
  omega
theorem sp_byt {S : List Int} (h : Byt S) (i x : Nat) : ∀ k, Byt (sp S i x k)
  | 0 => h
  | k + 1 => by
    intro b hb
    rcases List.mem_or_eq_of_mem_set (show b ∈ (sp S i x k).set (i + k) _ from hb) with h1 | h1
    · exact sp_byt h i x k b h1
    · rw [h1]
      exact xb_lt S _ _ h
/-- four bytes changed -/
theorem sp_four (pre post : List Int) (a b c d : Nat) (x : Nat) :
    sp (pre ++ ([(a : Int), (b : Int), (c : Int), (d : Int)] ++ post)) pre.length x 4 = pre ++ ([((a ^^^ x % 256 : Nat) : Int), ((b ^^^ x / 256 % 256 : Nat) : Int), ((c ^^^ x / 65536 % 256 : Nat) : Int), ((d ^^^ x / 16777216 % 256 : Nat) : Int)] ++ post) := by
  have g : ∀ k, k < 4 → (pre ++ ([(a : Int), (b : Int), (c : Int), (d : Int)] ++ post)).getD (pre.length + k) 0 = [(a : Int), (b : Int), (c : Int), (d : Int)].getD k 0 := by
    intro k hk
    rw [List.getD_eq_getElem?_getD, List.getD_eq_getElem?_getD, List.getElem?_append_right (by omega), Nat.add_sub_cancel_left, List.getElem?_append_left (by simpa using hk)]
  have h0 := g 0 (by omega)
  have h1 := g 1 (by omega)
  have h2 := g 2 (by omega)
  have h3 := g 3 (by omega)
  simp only [sp, xb, h0, h1, h2, h3]
  rw [List.set_append_right _ _ (by omega), List.set_append_right _ _ (by omega), List.set_append_right _ _ (by omega), List.set_append_right _ _ (by omega)]
  simp

theorem four_inj {s t : Nat} (hs : s < 4294967296) (ht : t < 4294967296) (h : four s = four t) : s = t := by
  simp only [four, List.cons.injEq, and_true] at h
  omega
theorem nats_casts (l : List Nat) : nats (l.map fun x : Nat => (x : Int)) = l := by
  unfold nats
  rw [List.map_map]
  conv => rhs; rw [← List.map_id l]
  exact List.map_congr_left fun x _ => by simp
/-- a list of bytes as a list of natural numbers -/
theorem byt_casts {l : List Int} (h : Byt l) : ∃ m : List Nat, l = m.map (fun x : Nat => (x : Int)) ∧ ∀ b ∈ m, b < 256 := by
  refine ⟨nats l, ?_, nats_lt h⟩
  unfold nats
  rw [List.map_map]
  conv => lhs; rw [← List.map_id l]
  refine List.map_congr_left fun x hx => ?_
  have := h x hx
  simp
  omega
theorem split4 {l : List Int} (h : Byt l) {j : Nat} (hj : j + 4 ≤ l.length) : ∃ (pre post : List Nat) (a b c d : Nat), l = pre.map (fun x : Nat => (x : Int)) ++ ([(a : Int), (b : Int), (c : Int), (d : Int)] ++ post.map (fun x : Nat => (x : Int))) ∧ pre.length = j ∧
    (∀ y ∈ pre, y < 256) ∧ (∀ y ∈ post, y < 256) ∧ a < 256 ∧ b < 256 ∧ c < 256 ∧ d < 256 := by
  obtain ⟨m, rfl, hm⟩ := byt_casts h
  have hlen : j + 4 ≤ m.length := by simpa using hj
  have hd : ∃ a b c d post, m.drop j = a :: b :: c :: d :: post := by
    match hx : m.drop j with
    | a :: b :: c :: d :: post => exact ⟨a, b, c, d, post, rfl⟩
    | [] => have := congrArg List.length hx; simp at this; omega
    | [_] => have := congrArg List.length hx; simp at this; omega
    | [_, _] => have := congrArg List.length hx; simp at this; omega
    | [_, _, _] => have := congrArg List.length hx; simp at this; omega
  obtain ⟨a, b, c, d, post, hd⟩ := hd
  have hm2 : ∀ y ∈ m.drop j, y < 256 := fun y hy => hm y (List.mem_of_mem_drop hy)
  rw [hd] at hm2
  refine ⟨m.take j, post, a, b, c, d, ?_, by simp; omega, fun y hy => hm y (List.mem_of_mem_take hy), fun y hy => hm2 y (by simp [hy]), hm2 a (by simp), hm2 b (by simp), hm2 c (by simp), hm2 d (by simp)⟩
  conv => lhs; rw [← List.take_append_drop j m, hd]
  simp
/-- what is spoilt behind the sum -/
theorem spoilt_behind {l : List Int} (h : Byt l) {j x : Nat} (hj : j + 4 ≤ l.length) (h0 : x ≠ 0) (h1 : x < 4294967296) : opE (sp (four (crcI l) ++ l) (4 + j) x 4) = 21 := by
  obtain ⟨pre, post, a, b, c, d, hl, hp, b1, b2, ha, hb, hc, hd⟩ := split4 h hj
  have hF : (four (crcI l)).length = 4 := rfl
  have hS : sp (four (crcI l) ++ l) (4 + j) x 4 = four (crcI l) ++ (pre.map (fun x : Nat => (x : Int)) ++ ([((a ^^^ x % 256 : Nat) : Int), ((b ^^^ x / 256 % 256 : Nat) : Int), ((c ^^^ x / 65536 % 256 : Nat) : Int), ((d ^^^ x / 16777216 % 256 : Nat) : Int)] ++ post.map (fun x : Nat => (x : Int)))) := by
    have h2 := sp_four (four (crcI l) ++ pre.map (fun x : Nat => (x : Int))) (post.map (fun x : Nat => (x : Int))) a b c d x
    rw [List.length_append, hF, List.length_map, hp, List.append_assoc, ← hl, List.append_assoc] at h2
    exact h2
  rw [hS]
  unfold opE
  rw [if_neg (by simp [hF]), List.take_append_of_le_length (by omega), List.take_of_length_le (by omega), List.drop_append_of_le_length (by omega), List.drop_of_length_le (by omega), List.nil_append, if_neg]
  intro e
  have e1 := four_inj (crcI_lt _) (crcI_lt _) e
  have k := crc_spoilt pre post a b c d x h0 h1 b1 b2 ha hb hc hd
  apply k
  have e2 : ∀ (p q r s : Nat), crcI (pre.map (fun x : Nat => (x : Int)) ++ ([(p : Int), (q : Int), (r : Int), (s : Int)] ++ post.map (fun x : Nat => (x : Int)))) = crc (pre ++ ([p, q, r, s] ++ post)) := by
    intro p q r s
    unfold crcI
    have := nats_casts (pre ++ ([p, q, r, s] ++ post))
    rw [← this]
    simp
  rw [← e2, ← e2, ← e1, ← hl]
/-- the sum itself changed -/
theorem spoilt_sum {l : List Int} {x : Nat} (h1 : x < 4294967296) : opE (sp (four (crcI l) ++ l) 0 x 4) = if x = 0 then 0 else 21 := by
  have hs := crcI_lt l
  generalize hc : crcI l = s at *
  have hF : four s = [((s / 16777216 : Nat) : Int), ((s / 65536 % 256 : Nat) : Int), ((s / 256 % 256 : Nat) : Int), ((s % 256 : Nat) : Int)] := by
    simp only [four, List.cons.injEq, and_true]
    omega
  have h2 := sp_four [] l (s / 16777216) (s / 65536 % 256) (s / 256 % 256) (s % 256) x
  simp only [List.nil_append, List.length_nil] at h2
  rw [hF, h2]
  unfold opE
  rw [if_neg (by simp)]
  simp only [List.cons_append, List.nil_append, List.take_succ_cons, List.take_zero, List.drop_succ_cons, List.drop_zero]
  rw [hc, hF]
  by_cases hx : x = 0
  · rw [if_pos hx, if_pos]
    subst hx
    simp
  · rw [if_neg hx, if_neg]
    intro e
    simp only [List.cons.injEq, and_true] at e
    have xz : ∀ p q : Nat, ((p ^^^ q : Nat) : Int) = (p : Int) → q = 0 := by
      intro p q hpq
      have h3 : p ^^^ q = p := by omega
      have h4 : p ^^^ (p ^^^ q) = p ^^^ p := by rw [h3]
      rw [← Nat.xor_assoc, Nat.xor_self, Nat.zero_xor] at h4
      exact h4
    have e0 := xz _ _ e.1
    have e1 := xz _ _ e.2.1
    have e2 := xz _ _ e.2.2.1
    have e3 := xz _ _ e.2.2.2
    omega

/-- what the loop keeps -/
def SpRel (w0 : World) (base : Nat) (v : Value) (n : Nat) (S : List Int) (i x k : Nat) (wr : World) : Prop :=
  wr.ownsRow base 5 1 v n (cellsOf (sp S i x k)) ∧ w0.grownBy wr v.ownBlock
theorem SpRel.step {w0 wr : World} {base g n cap : Nat} {S : List Int} {i x k b : Nat} (h : SpRel w0 base (.slice (some ⟨g, 0, none⟩) n cap) n S i x k wr) (hb : S[i + k]? = some (b : Int)) :
    SpRel w0 base (.slice (some ⟨g, 0, none⟩) n cap) n S i x (k + 1) (wr.setCell ⟨g, i + k, none⟩ (.int .u8 ((b ^^^ x / 2 ^ (8 * k) % 256 : Nat) : Int))) := by
  obtain ⟨h1, h2⟩ := h
  have hst := h1.stored (i + k) (.int .u8 ((b ^^^ x / 2 ^ (8 * k) % 256 : Nat) : Int))
  refine ⟨?_, grown_trans h2 hst.2⟩
  have e : (cellsOf (sp S i x k)).set (i + k) (.int .u8 ((b ^^^ x / 2 ^ (8 * k) % 256 : Nat) : Int)) = cellsOf (sp S i x (k + 1)) := by
    show _ = ((sp S i x k).set (i + k) (xb S (i + k) (x / 2 ^ (8 * k)))).map (Value.int .u8)
    rw [List.map_set]
    unfold xb
    rw [List.getD_eq_getElem?_getD, hb]
    simp
  rw [← e]
  exact hst.1
theorem SpRel.drew {w0 wr : World} {base n : Nat} {v : Value} {S : List Int} {i x k : Nat} (h : SpRel w0 base v n S i x k wr) : SpRel w0 base v n S i x k wr.drew :=
  ⟨h.1, ⟨h.2.os, h.2.tape, h.2.output, h.2.size, h.2.block⟩⟩
theorem SpRel.cell {w0 wr : World} {base g n cap : Nat} {S : List Int} {i x k b : Nat} (h : SpRel w0 base (.slice (some ⟨g, 0, none⟩) n cap) n S i x k wr) (hb : S[i + k]? = some (b : Int)) :
    wr.cell? ⟨g, i + k, none⟩ = some (.int .u8 b) ∧ wr.frozen? ⟨g, i + k, none⟩ = false := by
  have hlt := (List.getElem?_eq_some_iff.1 hb).1
  have hn : S.length = n := by have := h.1.1; simpa [sp_length] using this
  refine ⟨?_, h.1.frozenAt (i + k)⟩
  rw [h.1.cellAt (i + k) (by omega), List.getElem?_map, sp_far S i x k (i + k) (Nat.le_refl _), hb]
  rfl
theorem xk0 (b x : Nat) (hb : b < 256) : bits .xor .u8 (b : Int) ((x : Int) % 256) = ((b ^^^ x / 2 ^ (8 * 0) % 256 : Nat) : Int) := by
  rw [show 2 ^ (8 * 0) = 1 by rfl, Nat.div_one, show ((x : Int) % 256) = ((x % 256 : Nat) : Int) by omega]; exact u8_xor_nat b _ hb (Nat.mod_lt _ (by omega))
theorem xk1 (b x : Nat) (hb : b < 256) : bits .xor .u8 (b : Int) ((x : Int) / 256 % 256) = ((b ^^^ x / 2 ^ (8 * 1) % 256 : Nat) : Int) := by
  rw [show 2 ^ (8 * 1) = 256 by rfl, show ((x : Int) / 256 % 256) = ((x / 256 % 256 : Nat) : Int) by omega]; exact u8_xor_nat b _ hb (Nat.mod_lt _ (by omega))
theorem xk2 (b x : Nat) (hb : b < 256) : bits .xor .u8 (b : Int) ((x : Int) / 65536 % 256) = ((b ^^^ x / 2 ^ (8 * 2) % 256 : Nat) : Int) := by
  rw [show 2 ^ (8 * 2) = 65536 by rfl, show ((x : Int) / 65536 % 256) = ((x / 65536 % 256 : Nat) : Int) by omega]; exact u8_xor_nat b _ hb (Nat.mod_lt _ (by omega))
theorem xk3 (b x : Nat) (hb : b < 256) (hx : x < 4294967296) : bits .xor .u8 (b : Int) ((x : Int) / 16777216) = ((b ^^^ x / 2 ^ (8 * 3) % 256 : Nat) : Int) := by
  rw [show 2 ^ (8 * 3) = 16777216 by rfl, show ((x : Int) / 16777216) = ((x / 16777216 % 256 : Nat) : Int) by omega]; exact u8_xor_nat b _ hb (Nat.mod_lt _ (by omega))
theorem u8_xor_byte (b y : Nat) (hb : b < 256) : bits .xor .u8 (b : Int) ((y % 256 : Nat) : Int) = ((b ^^^ y % 256 : Nat) : Int) := u8_xor_nat b (y % 256) hb (Nat.mod_lt _ (by omega))
end Go.Proofs.YtjilifodmmhnkaaDoor
