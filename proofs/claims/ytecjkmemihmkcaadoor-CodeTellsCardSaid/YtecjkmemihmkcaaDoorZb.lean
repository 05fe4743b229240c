/- What is read of bytes that are cut, what is read of bytes that were written, and what was read, written again: modules; nothing of the program. Conditions: those in each theorem. -/
import Derived.Test.YtecjkmemihmkcaaDoorZa
import Derived.Test.YtecjkmemihmkcaaDoorM
namespace Go.Proofs.YtecjkmemihmkcaaDoor
open Go.RowKit
set_option linter.unusedSimpArgs false
set_option linter.unusedVariables false

/-- a count of four bytes, at most so many -/
def cntR (l : List Int) (most p : Int) : Rd Nat := if cntE l p most = 0 then .ok (cnt l p) (p + 4) else .bad (cntE l p most)
/-- so many bytes -/
def partR (l : List Int) (n : Nat) (p : Int) : Rd (List Int) := if roomV l.length p n = 0 then .ok ((l.drop p.toNat).take n) (p + n) else .bad (roomV l.length p n)
theorem bytesR_eq (l : List Int) (p : Int) : bytesR l p = (cntR l 65536 p).bind fun n q => partR l n q := by
  unfold bytesR cntR partR bytesE
  by_cases h : cntE l p 65536 = 0
  · rw [if_pos h, if_pos h, Rd.bind_ok]
    by_cases h2 : roomV l.length (p + 4) (cnt l p) = 0
    · rw [if_pos h2, if_pos h2]
      have := cntE_0 h
      unfold bytesA bytesB
      rw [show (p + 4).toNat = p.toNat + 4 by omega]
    · rw [if_neg h2, if_neg h2]
  · rw [if_neg h, if_neg h, if_neg h]
    rfl
theorem elems_bytes (l : List Int) (q : Int) : ∀ k, elemsR (bytesR l) q k = if ferr l q k = 0 then .ok (items l q k) (offs l q k) else .bad (ferr l q k)
  | 0 => rfl
  | k + 1 => by
    show (elemsR (bytesR l) q k).bind _ = _
    rw [elems_bytes l q k]
    by_cases h : ferr l q k = 0
    · have hf : ferr l q (k + 1) = bytesE l (offs l q k) := by simp only [ferr]; rw [if_pos h]
      rw [if_pos h, Rd.bind_ok]
      unfold bytesR
      by_cases h2 : bytesE l (offs l q k) = 0
      · have h3 : ferr l q (k + 1) = 0 := by rw [hf]; exact h2
        rw [if_pos h2, if_pos h3, Rd.bind_ok]
        congr 1
        unfold items
        rw [List.range_succ, List.map_append]
        rfl
      · have h3 : ¬ ferr l q (k + 1) = 0 := by rw [hf]; exact h2
        rw [if_neg h2, if_neg h3, hf]
        rfl
    · have hf : ferr l q (k + 1) = ferr l q k := by simp only [ferr]; rw [if_neg h]
      have h3 : ¬ ferr l q (k + 1) = 0 := by rw [hf]; exact h
      rw [if_neg h, if_neg h3, hf]
      rfl
theorem rowR_eq (l : List Int) (p : Int) : rowR l p = (cntR l 1024 p).bind fun n q => elemsR (bytesR l) q n := by
  unfold rowR cntR rowE
  by_cases h : cntE l p 1024 = 0
  · rw [if_pos h, if_pos h, Rd.bind_ok, elems_bytes]
  · rw [if_neg h, if_neg h, if_neg h]
    rfl

/-- cut ahead of its end it is 'too early', cut behind it it is what it was -/
def Cut {α : Type} (f : List Int → Int → Rd α) : Prop := ∀ (l : List Int) (p : Int) (a : α) (q : Int), 0 ≤ p → p ≤ l.length → f l p = .ok a q →
  p ≤ q ∧ q ≤ l.length ∧ ∀ t : Nat, p ≤ t → ((q ≤ t → f (l.take t) p = .ok a q) ∧ (t < q → f (l.take t) p = .bad 11))
theorem cut_pure {α : Type} (x : α) : Cut fun _ p => .ok x p := by
  intro l p a q h0 h1 h
  injection h with e1 e2
  subst e1 e2
  exact ⟨Int.le_refl _, h1, fun t ht => ⟨fun _ => rfl, fun h => by omega⟩⟩
theorem cut_test {α : Type} (c : Prop) [Decidable c] (e : Int) (x : α) : Cut fun _ p => if c then .bad e else .ok x p := by
  by_cases h : c
  · simp only [if_pos h]
    intro l p a q _ _ h
    cases h
  · simp only [if_neg h]
    exact cut_pure x
theorem cut_bind {α β : Type} {f : List Int → Int → Rd α} {g : α → List Int → Int → Rd β} (hf : Cut f) (hg : ∀ a, Cut (g a)) : Cut fun l p => (f l p).bind fun a q => g a l q := by
  intro l p b r h0 h1 h
  obtain ⟨a, q, e1, e2⟩ := Rd.bind_is h
  obtain ⟨f1, f2, f3⟩ := hf l p a q h0 h1 e1
  obtain ⟨g1, g2, g3⟩ := hg a l q b r (by omega) f2 e2
  refine ⟨by omega, g2, fun t ht => ⟨fun hr => ?_, fun hr => ?_⟩⟩
  · show (f (l.take t) p).bind _ = _
    rw [(f3 t ht).1 (by omega), Rd.bind_ok]
    exact (g3 t (by omega)).1 hr
  · show (f (l.take t) p).bind _ = _
    by_cases hq : q ≤ t
    · rw [(f3 t ht).1 hq, Rd.bind_ok]
      exact (g3 t hq).2 hr
    · rw [(f3 t ht).2 (by omega)]
      rfl
theorem cut_elems {α : Type} {f : List Int → Int → Rd α} (hf : Cut f) : ∀ k, Cut fun l p => elemsR (f l) p k
  | 0 => cut_pure []
  | k + 1 => cut_bind (f := fun l p => elemsR (f l) p k) (g := fun xs l q => (f l q).bind fun a r => .ok (xs ++ [a]) r) (cut_elems hf k) fun xs => cut_bind hf fun a => cut_pure (xs ++ [a])
theorem take_len {l : List Int} {t : Nat} (h : t ≤ l.length) : (l.take t).length = t := by rw [List.length_take]; omega
theorem take_full {l : List Int} {t : Nat} (h : l.length ≤ t) : l.take t = l := List.take_of_length_le h
theorem cut_part (n : Nat) : Cut fun l p => partR l n p := by
  intro l p a q h0 h1 h
  simp only [partR] at h ⊢
  split at h
  · rename_i hr
    injection h with e1 e2
    subst e1 e2
    have := room_is0 hr
    refine ⟨by omega, by omega, fun t ht => ⟨fun hq => ?_, fun hq => ?_⟩⟩
    · by_cases hl : l.length ≤ t
      · rw [take_full hl, if_pos hr]
      · have hlen := take_len (l := l) (t := t) (by omega)
        rw [if_pos (room_0 h0 (by omega) (by omega)), List.drop_take, List.take_take, Nat.min_eq_left (by omega)]
    · have hlen := take_len (l := l) (t := t) (by omega)
      have := room_11 (n := t) (p := p) (size := n) h0 ht (by omega)
      rw [hlen, this, if_neg (by omega)]
  · cases h
theorem cut_cnt (most : Int) : Cut fun l p => cntR l most p := by
  intro l p a q h0 h1 h
  simp only [cntR] at h ⊢
  split at h
  · rename_i hr
    injection h with e1 e2
    subst e1 e2
    have := cntE_0 hr
    refine ⟨by omega, by omega, fun t ht => ⟨fun hq => ?_, fun hq => ?_⟩⟩
    · by_cases hl : l.length ≤ t
      · rw [take_full hl, if_pos hr]
      · have hlen := take_len (l := l) (t := t) (by omega)
        obtain ⟨p, rfl⟩ := Int.eq_ofNat_of_zero_le h0
        have hc := cnt_take (l := l) (t := t) (p := p) (by omega)
        have he : cntE (l.take t) p most = 0 := by
          unfold cntE
          rw [hlen, if_pos (room_0 h0 (by omega) (by omega)), hc, if_neg (by omega)]
        rw [if_pos he, hc]
    · have hlen := take_len (l := l) (t := t) (by omega)
      have h11 := room_11 (n := t) (p := p) (size := 4) h0 ht (by omega)
      have he : cntE (l.take t) p most = 11 := by
        unfold cntE
        rw [hlen, h11, if_neg (by omega)]
      rw [he, if_neg (by omega)]
  · cases h
theorem cut_num : Cut numR := by
  intro l p a q h0 h1 h
  simp only [numR] at h ⊢
  split at h
  · rename_i hr
    injection h with e1 e2
    subst e1 e2
    have := room_is0 hr
    refine ⟨by omega, by omega, fun t ht => ⟨fun hq => ?_, fun hq => ?_⟩⟩
    · by_cases hl : l.length ≤ t
      · rw [take_full hl, if_pos hr]
      · have hlen := take_len (l := l) (t := t) (by omega)
        have hr' : roomV (l.take t).length p 8 = 0 := room_0 h0 (by omega) (by omega)
        rw [if_pos hr']
        unfold numA
        rw [if_pos hr, if_pos hr', List.drop_take, List.take_take, Nat.min_eq_left (by omega)]
    · have hlen := take_len (l := l) (t := t) (by omega)
      have := room_11 (n := t) (p := p) (size := 8) h0 ht (by omega)
      rw [hlen, this, if_neg (by omega)]
  · cases h
theorem cut_bytes : Cut bytesR := by
  have := cut_bind (cut_cnt 65536) fun n => cut_part n
  simpa only [← bytesR_eq] using this
theorem cut_row : Cut rowR := by
  have := cut_bind (cut_cnt 1024) fun n => cut_elems cut_bytes n
  simpa only [← rowR_eq] using this
theorem cut_many (most : Int) : Cut fun l p => manyR l most p := cut_bind (f := numR) (g := fun n _ q => if n < 0 ∨ most < n then .bad 111 else .ok n q) cut_num fun n => cut_test (n < 0 ∨ most < n) 111 n
theorem cut_rowOf {α : Type} {f : List Int → Int → Rd α} (hf : Cut f) (most : Int) : Cut fun l p => rowOf l most (f l) p :=
  cut_bind (f := fun l p => manyR l most p) (g := fun n l q => elemsR (f l) q n.toNat) (cut_many most) fun n => cut_elems hf n.toNat
theorem cut_instr : Cut instrR := cut_bind (f := numR) (g := fun o l q => (numR l q).bind fun a r => .ok (o, a) r) cut_num fun o => cut_bind cut_num fun a => cut_pure (o, a)
theorem cut_code : Cut codeR :=
  cut_bind (f := bytesR) (g := fun s l p => (rowOf l 16 (numR l) p).bind fun ts p => (numR l p).bind fun t p => (numR l p).bind fun k p => (rowOf l 16384 (instrR l) p).bind fun is p => .ok (⟨s, ts, t, k, is⟩ : Cd) p) cut_bytes fun s =>
  cut_bind (f := fun l p => rowOf l 16 (numR l) p) (g := fun ts l p => (numR l p).bind fun t p => (numR l p).bind fun k p => (rowOf l 16384 (instrR l) p).bind fun is p => .ok (⟨s, ts, t, k, is⟩ : Cd) p) (cut_rowOf cut_num 16) fun ts =>
  cut_bind (f := numR) (g := fun t l p => (numR l p).bind fun k p => (rowOf l 16384 (instrR l) p).bind fun is p => .ok (⟨s, ts, t, k, is⟩ : Cd) p) cut_num fun t =>
  cut_bind (f := numR) (g := fun k l p => (rowOf l 16384 (instrR l) p).bind fun is p => .ok (⟨s, ts, t, k, is⟩ : Cd) p) cut_num fun k =>
  cut_bind (f := fun l p => rowOf l 16384 (instrR l) p) (g := fun is _ p => .ok (⟨s, ts, t, k, is⟩ : Cd) p) (cut_rowOf cut_instr 16384) fun is => cut_pure _
theorem cut_parts : Cut fun l p => (rowOf l 64 (codeR l) p).bind fun cs p => (rowR l p).bind fun ts p => .ok (⟨cs, ts⟩ : Md) p :=
  cut_bind (f := fun l p => rowOf l 64 (codeR l) p) (g := fun cs l p => (rowR l p).bind fun ts p => .ok (⟨cs, ts⟩ : Md) p) (cut_rowOf cut_code 64) fun cs => cut_bind (f := rowR) (g := fun ts _ p => .ok (⟨cs, ts⟩ : Md) p) cut_row fun ts => cut_pure _

/-- written as b, it is read as x -/
def Wr {α : Type} (f : List Int → Int → Rd α) (x : α) (b : List Int) : Prop := ∀ (l : List Int) (p : Nat) (r : List Int), l.drop p = b ++ r → f l p = .ok x ((p : Int) + b.length)
theorem drop_on {l : List Int} {p : Nat} {a b : List Int} (h : l.drop p = a ++ b) : l.drop (p + a.length) = b := by
  rw [← List.drop_drop, h, List.drop_left]
theorem wr_num {n : Int} (h0 : -9223372036854775808 ≤ n) (h1 : n ≤ 9223372036854775807) : Wr numR n (be n 7 8) := by
  intro l p r h
  obtain ⟨g1, g2, g3⟩ := num_at rfl h h0 h1
  unfold numR
  rw [if_pos g3, g1, be_length]
  rfl
theorem wr_bytes {s : List Int} (hs : s.length ≤ 65536) : Wr bytesR s (be s.length 3 4 ++ s) := by
  intro l p r h
  obtain ⟨g1, g2, g3, g4⟩ := bytes_at' (p := p) rfl (by rw [h, List.append_assoc]) hs
  unfold bytesR
  rw [if_pos g2, g3, g4, List.length_append, be_length]
  congr 1
  omega
theorem wr_row {ls : List (List Int)} (hn : ls.length ≤ 1024) (hgood : ∀ s ∈ ls, s.length ≤ 65536) : Wr rowR ls (rowBytes ls) := by
  intro l p r h
  obtain ⟨g1, g2, g3, g4⟩ := row_read' (p := p) rfl h hn hgood
  unfold rowR
  rw [if_pos g2, g1, g3, g4]
theorem wr_pure {α : Type} (x : α) : Wr (fun _ p => .ok x p) x [] := by
  intro l p r _
  simp
theorem wr_bind {α β : Type} {f : List Int → Int → Rd α} {g : α → List Int → Int → Rd β} {x : α} {y : β} {a b : List Int} (hf : Wr f x a) (hg : Wr (g x) y b) : Wr (fun l p => (f l p).bind fun a q => g a l q) y (a ++ b) := by
  intro l p r h
  rw [List.append_assoc] at h
  show (f l p).bind _ = _
  rw [hf l p _ h, Rd.bind_ok]
  have := hg l (p + a.length) r (drop_on h)
  rw [Int.natCast_add] at this
  rw [this, List.length_append]
  congr 1
  omega
theorem wr_elems {α : Type} {f : List Int → Int → Rd α} {b : α → List Int} : ∀ {xs : List α}, (∀ x ∈ xs, Wr f x (b x)) → Wr (fun l p => elemsR (f l) p xs.length) xs (xs.flatMap b) := by
  intro xs hx
  have key : ∀ k, k ≤ xs.length → Wr (fun l p => elemsR (f l) p k) (xs.take k) ((xs.take k).flatMap b) := by
    intro k
    induction k with
    | zero => intro _; exact wr_pure (α := List α) []
    | succ k ih =>
      intro hk
      have he : xs[k]? = some xs[k] := List.getElem?_eq_getElem (by omega)
      have := wr_bind (f := fun l p => elemsR (f l) p k) (g := fun ys l q => (f l q).bind fun a r => .ok (ys ++ [a]) r) (ih (by omega)) (wr_bind (f := f) (g := fun a _ r => .ok (xs.take k ++ [a]) r) (hx xs[k] (List.getElem_mem _)) (wr_pure _))
      rw [List.append_nil] at this
      rw [take_next he, List.flatMap_append, List.flatMap_cons, List.flatMap_nil, List.append_nil]
      exact this
  have := key xs.length (Nat.le_refl _)
  rwa [List.take_length] at this
theorem wr_rowOf {α : Type} {f : List Int → Int → Rd α} {b : α → List Int} {xs : List α} {most : Int} (hm : (xs.length : Int) ≤ most) (hm2 : most ≤ 9223372036854775807) (hx : ∀ x ∈ xs, Wr f x (b x)) :
    Wr (fun l p => rowOf l most (f l) p) xs (be xs.length 7 8 ++ xs.flatMap b) := by
  refine wr_bind (f := fun l p => manyR l most p) (g := fun n l q => elemsR (f l) q n.toNat) (x := (xs.length : Int)) ?_ ?_
  · have := wr_bind (f := numR) (g := fun n _ q => if n < 0 ∨ most < n then .bad 111 else .ok n q) (wr_num (n := (xs.length : Int)) (by omega) (by omega)) (y := (xs.length : Int)) (b := []) (by
      intro l p r _
      show (if (xs.length : Int) < 0 ∨ most < (xs.length : Int) then Rd.bad 111 else Rd.ok (xs.length : Int) (p : Int)) = _
      rw [if_neg (by omega)]
      simp)
    rw [List.append_nil] at this
    exact this
  · rw [Int.toNat_natCast]
    exact wr_elems hx

/-- the numbers of a module fit -/
def Fit (n : Int) : Prop := -9223372036854775808 ≤ n ∧ n ≤ 9223372036854775807
structure CdFit (c : Cd) : Prop where
  name : Byt c.name
  params : ∀ t ∈ c.params, Fit t
  result : Fit c.result
  slots : Fit c.slots
  instrs : ∀ i ∈ c.instrs, Fit i.1 ∧ Fit i.2
structure MdFit (m : Md) : Prop where
  codes : ∀ c ∈ m.codes, CdFit c
  texts : ∀ s ∈ m.texts, Byt s
theorem okCd_is {c : Cd} (h : okCd c = true) : c.name.length ≤ 16 ∧ c.params.length ≤ 16 ∧ c.instrs.length ≤ 16384 ∧ (c.params.length : Int) ≤ c.slots ∧ c.slots ≤ 256 ∧ (c.result = 0 ∨ okT c.result = true) ∧ c.params.all okT = true ∧ c.instrs.all okI = true := by
  simpa only [okCd, Bool.and_eq_true, Bool.or_eq_true, decide_eq_true_eq] using h
theorem okMd_is {m : Md} (h : okMd m = true) : m.codes.length ≤ 64 ∧ m.texts.length ≤ 1024 ∧ m.codes.all okCd = true ∧ m.texts.all okX = true := by
  simpa only [okMd, Bool.and_eq_true, decide_eq_true_eq] using h
theorem okTexts {m : Md} (h : okMd m = true) : ∀ s ∈ m.texts, s.length ≤ 64 := by
  intro s hs
  have := List.all_eq_true.1 (okMd_is h).2.2.2 s hs
  simpa [okX] using this
theorem wr_instr {i : Int × Int} (h : Fit i.1 ∧ Fit i.2) : Wr instrR i (inB i) := by
  have := wr_bind (f := numR) (g := fun o l q => (numR l q).bind fun a r => .ok (o, a) r) (wr_num h.1.1 h.1.2) (wr_bind (f := numR) (g := fun a _ r => .ok (i.1, a) r) (wr_num h.2.1 h.2.2) (wr_pure (i.1, i.2)))
  rw [List.append_nil] at this
  exact this
theorem wr_code {c : Cd} (hc : CdFit c) (ok : okCd c = true) : Wr codeR c (cdB c) := by
  obtain ⟨h1, h2, h3, _⟩ := okCd_is ok
  have := wr_bind (f := bytesR) (g := fun s l p => (rowOf l 16 (numR l) p).bind fun ts p => (numR l p).bind fun t p => (numR l p).bind fun k p => (rowOf l 16384 (instrR l) p).bind fun is p => .ok (⟨s, ts, t, k, is⟩ : Cd) p) (wr_bytes (s := c.name) (by omega)) <|
    wr_bind (f := fun l p => rowOf l 16 (numR l) p) (g := fun ts l p => (numR l p).bind fun t p => (numR l p).bind fun k p => (rowOf l 16384 (instrR l) p).bind fun is p => .ok (⟨c.name, ts, t, k, is⟩ : Cd) p) (wr_rowOf (b := nuB) (xs := c.params) (by omega) (by omega) fun t ht => wr_num (hc.params t ht).1 (hc.params t ht).2) <|
    wr_bind (f := numR) (g := fun t l p => (numR l p).bind fun k p => (rowOf l 16384 (instrR l) p).bind fun is p => .ok (⟨c.name, c.params, t, k, is⟩ : Cd) p) (wr_num hc.result.1 hc.result.2) <|
    wr_bind (f := numR) (g := fun k l p => (rowOf l 16384 (instrR l) p).bind fun is p => .ok (⟨c.name, c.params, c.result, k, is⟩ : Cd) p) (wr_num hc.slots.1 hc.slots.2) <|
    wr_bind (f := fun l p => rowOf l 16384 (instrR l) p) (g := fun is _ p => .ok (⟨c.name, c.params, c.result, c.slots, is⟩ : Cd) p) (wr_rowOf (b := inB) (xs := c.instrs) (by omega) (by omega) fun i hi => wr_instr (hc.instrs i hi)) (wr_pure (⟨c.name, c.params, c.result, c.slots, c.instrs⟩ : Cd))
  simp only [List.append_nil, List.append_assoc] at this
  exact this
theorem wr_parts {m : Md} (hm : MdFit m) (ok : okMd m = true) : partsR (mdB m) = .ok m (mdB m).length := by
  obtain ⟨h1, h2, h3, h4⟩ := okMd_is ok
  have := wr_bind (f := fun l p => rowOf l 64 (codeR l) p) (g := fun cs l p => (rowR l p).bind fun ts p => .ok (⟨cs, ts⟩ : Md) p) (wr_rowOf (b := cdB) (xs := m.codes) (by omega) (by omega) fun c hc => wr_code (hm.codes c hc) (List.all_eq_true.1 h3 c hc)) <|
    wr_bind (f := rowR) (g := fun ts _ p => .ok (⟨m.codes, ts⟩ : Md) p) (wr_row (ls := m.texts) (by omega) fun s hs => by have := okTexts ok s hs; omega) (wr_pure (⟨m.codes, m.texts⟩ : Md))
  simp only [List.append_nil, List.append_assoc] at this
  have := this (mdB m) 0 [] (by simp [mdB])
  simp only [Int.natCast_zero, Int.zero_add] at this
  unfold partsR
  rw [this]
  rfl
/-- a right module's bytes are read as it was -/
theorem get_put {m : Md} (hm : MdFit m) (ok : okMd m = true) : getR (mdB m) = .ok m (mdB m).length := by
  unfold getR
  rw [wr_parts hm ok, Rd.bind_ok, if_pos ⟨rfl, ok⟩]
/-- cut anywhere they are none -/
theorem get_cut {m : Md} (hm : MdFit m) (ok : okMd m = true) {t : Nat} (ht : t < (mdB m).length) : getR ((mdB m).take t) = .bad 11 := by
  have h := wr_parts hm ok
  unfold getR
  have hc := (cut_parts (mdB m) 0 m (mdB m).length (by omega) (by omega) h).2.2 t (by omega)
  have : partsR ((mdB m).take t) = .bad 11 := hc.2 (by omega)
  rw [this]
  rfl
/-- unlike modules have unlike bytes -/
theorem put_inj {m n : Md} (hm : MdFit m) (hn : MdFit n) (okm : okMd m = true) (okn : okMd n = true) (h : mdB m = mdB n) : m = n := by
  have h1 := get_put hm okm
  have h2 := get_put hn okn
  rw [h, h2] at h1
  injection h1 with h3
  exact h3.symm

/-- read as x, it stood there as it is written -/
def Rw {α : Type} (f : List Int → Int → Rd α) (b : α → List Int) : Prop := ∀ (l : List Int) (p : Nat) (x : α) (q : Int), Byt l → p ≤ l.length → f l p = .ok x q → ∃ k : Nat, q = (p : Int) + k ∧ p + k ≤ l.length ∧ (l.drop p).take k = b x
theorem rw_num : Rw numR nuB := by
  intro l p x q hb hp h
  obtain ⟨h1, h2, h3, h4, h5⟩ := numR_in h
  refine ⟨8, by omega, by omega, ?_⟩
  subst h4
  unfold numA nuB
  rw [if_pos h5, Int.toNat_natCast]
  exact (be_val8 (by rw [List.length_take, List.length_drop]; omega) (hb.sub fun x hx => List.mem_of_mem_drop (List.mem_of_mem_take hx))).symm
theorem rw_bytes : Rw bytesR fun s => be s.length 3 4 ++ s := by
  intro l p x q hb hp h
  obtain ⟨h1, h2, h3, h4, h5, h6⟩ := bytesR_in h
  have h7 := bytes_again hb h5
  have h8 := bytesA_length h5
  refine ⟨4 + x.length, by omega, by omega, ?_⟩
  subst h4
  show _ = be ((bytesA l p).length : Int) 3 4 ++ bytesA l p
  rw [h8]
  exact h7.symm
theorem rw_pure {α : Type} (x : α) : Rw (fun _ p => .ok x p) fun _ => [] := by
  intro l p y q _ hp h
  injection h with h1 h2
  exact ⟨0, by omega, by omega, by simp⟩
theorem take_two {l : List Int} {p a b : Nat} : (l.drop p).take (a + b) = (l.drop p).take a ++ (l.drop (p + a)).take b := by
  rw [List.take_add, List.drop_drop]
/-- one behind the other: what comes out tells both -/
theorem rw_bind {α β : Type} {f : List Int → Int → Rd α} {g : α → List Int → Int → Rd β} {bf : α → List Int} {bg : α → β → List Int} {b : β → List Int} (hf : Rw f bf) (hg : ∀ a, Rw (g a) (bg a))
    (hb : ∀ a y l p q, g a l p = .ok y q → b y = bf a ++ bg a y) : Rw (fun l p => (f l p).bind fun a q => g a l q) b := by
  intro l p y r hl hp h
  obtain ⟨a, q, e1, e2⟩ := Rd.bind_is h
  obtain ⟨k, rfl, k1, k2⟩ := hf l p a q hl hp e1
  rw [← Int.natCast_add] at e2
  obtain ⟨j, rfl, j1, j2⟩ := hg a l (p + k) y r hl k1 e2
  refine ⟨k + j, by omega, by omega, ?_⟩
  rw [take_two, k2, j2, hb a y l _ _ e2]
theorem rw_elems {α : Type} {f : List Int → Int → Rd α} {b : α → List Int} (hf : Rw f b) : ∀ k, Rw (fun l p => elemsR (f l) p k) fun xs => xs.flatMap b
  | 0 => by
    intro l p y q _ hp h
    injection h with h1 h2
    subst h1
    exact ⟨0, by omega, by omega, by simp⟩
  | k + 1 => by
    intro l p y r hl hp h
    obtain ⟨xs, q, e1, h⟩ := Rd.bind_is h
    obtain ⟨a, q', e2, h⟩ := Rd.bind_is h
    injection h with h1 h2
    subst h1 h2
    obtain ⟨i, rfl, i1, i2⟩ := rw_elems hf k l p xs q hl hp e1
    rw [← Int.natCast_add] at e2
    obtain ⟨j, rfl, j1, j2⟩ := hf l (p + i) a q' hl i1 e2
    refine ⟨i + j, by omega, by omega, ?_⟩
    rw [take_two, i2, j2]
    simp
theorem rw_rowOf {α : Type} {f : List Int → Int → Rd α} {b : α → List Int} (hf : Rw f b) (most : Int) : Rw (fun l p => rowOf l most (f l) p) fun xs => be xs.length 7 8 ++ xs.flatMap b := by
  intro l p xs r hl hp h
  obtain ⟨n, q, e1, h⟩ := Rd.bind_is h
  obtain ⟨e2, h1, h2⟩ := manyR_in e1
  obtain ⟨k, rfl, k1, k2⟩ := rw_num l p n q hl hp e2
  rw [← Int.natCast_add] at h
  obtain ⟨j, rfl, j1, j2⟩ := rw_elems hf n.toNat l (p + k) xs r hl k1 h
  have h3 := elemsR_len h
  refine ⟨k + j, by omega, by omega, ?_⟩
  rw [take_two, k2, j2]
  show _ = be (xs.length : Int) 7 8 ++ xs.flatMap b
  rw [h3, Int.toNat_of_nonneg h1]
  rfl
theorem rw_row : Rw rowR rowBytes := by
  intro l p xs r hl hp h
  rw [rowR_eq] at h
  obtain ⟨n, q, e1, h⟩ := Rd.bind_is h
  unfold cntR at e1
  split at e1
  · rename_i h0
    injection e1 with e2 e3
    have h1 := cntE_0 h0
    have h2 := be_cnt hl (p := p) (by omega)
    subst e2 e3
    rw [show (p : Int) + 4 = ((p + 4 : Nat) : Int) by omega] at h
    obtain ⟨j, rfl, j1, j2⟩ := rw_elems rw_bytes _ l (p + 4) xs r hl (by omega) h
    have h3 := elemsR_len h
    refine ⟨4 + j, by omega, by omega, ?_⟩
    rw [take_two, ← h2, j2, rowBytes, h3]
    unfold bsTo
    rw [← h3, List.take_length]
  · cases e1
theorem rw_instr : Rw instrR inB := by
  refine rw_bind (f := numR) (g := fun o l q => (numR l q).bind fun a r => .ok (o, a) r) (bf := nuB) (bg := fun _ i => nuB i.2) rw_num (fun o => rw_bind (f := numR) (g := fun a _ r => .ok (o, a) r) (bf := nuB) (bg := fun _ _ => []) rw_num (fun a => rw_pure _) ?_) ?_
  · intro a y l p q h
    injection h with h1 h2
    subst h1
    simp
  · intro a y l p q h
    obtain ⟨x, q', e1, h⟩ := Rd.bind_is h
    injection h with h1 h2
    subst h1
    rfl
theorem rw_code : Rw codeR cdB := by
  intro l p c r hl hp h
  obtain ⟨x1, p1, e1, h⟩ := Rd.bind_is h
  obtain ⟨x2, p2, e2, h⟩ := Rd.bind_is h
  obtain ⟨x3, p3, e3, h⟩ := Rd.bind_is h
  obtain ⟨x4, p4, e4, h⟩ := Rd.bind_is h
  obtain ⟨x5, p5, e5, h⟩ := Rd.bind_is h
  injection h with h1 h2
  subst h1 h2
  obtain ⟨k1, rfl, l1, m1⟩ := rw_bytes l p _ _ hl hp e1
  rw [← Int.natCast_add] at e2
  obtain ⟨k2, rfl, l2, m2⟩ := rw_rowOf rw_num 16 l (p + k1) _ _ hl l1 e2
  rw [← Int.natCast_add] at e3
  obtain ⟨k3, rfl, l3, m3⟩ := rw_num l (p + k1 + k2) _ _ hl l2 e3
  rw [← Int.natCast_add] at e4
  obtain ⟨k4, rfl, l4, m4⟩ := rw_num l (p + k1 + k2 + k3) _ _ hl l3 e4
  rw [← Int.natCast_add] at e5
  obtain ⟨k5, rfl, l5, m5⟩ := rw_rowOf rw_instr 16384 l (p + k1 + k2 + k3 + k4) _ _ hl l4 e5
  refine ⟨k1 + k2 + k3 + k4 + k5, by omega, by omega, ?_⟩
  rw [show k1 + k2 + k3 + k4 + k5 = k1 + (k2 + (k3 + (k4 + k5))) by omega, take_two, take_two, take_two, take_two, m1, m2, m3, m4, m5]
  simp only [cdB, nuB, List.append_assoc]
/-- what is read of any bytes has the bytes as they stood -/
theorem get_kept {l : List Int} {m : Md} {q : Int} (hl : Byt l) (h : getR l = .ok m q) : mdB m = l ∧ okMd m = true := by
  obtain ⟨m', p, e1, h⟩ := Rd.bind_is h
  split at h
  · rename_i hc
    injection h with h1 h2
    subst h1
    obtain ⟨hp, hok⟩ := hc
    obtain ⟨cs, p1, e2, h⟩ := Rd.bind_is e1
    obtain ⟨ts, p2, e3, h⟩ := Rd.bind_is h
    injection h with h1 h2
    obtain ⟨k1, rfl, l1, m1⟩ := rw_rowOf rw_code 64 l 0 cs p1 hl (by omega) e2
    rw [Int.natCast_zero, Int.zero_add, ← Nat.zero_add k1] at e3
    obtain ⟨k2, rfl, l2, m2⟩ := rw_row l (0 + k1) ts p2 hl l1 e3
    subst h1
    refine ⟨?_, hok⟩
    have hk : k1 + k2 = l.length := by omega
    have := take_two (l := l) (p := 0) (a := k1) (b := k2)
    rw [m1, m2, hk, List.drop_zero, List.take_length] at this
    rw [this]
    simp [mdB]
  · cases h

/-- how many bytes a module has -/
def cdN (c : Cd) : Nat := 4 + c.name.length + 8 * (4 + c.params.length) + 16 * c.instrs.length
theorem flat_len {α : Type} {b : α → List Int} {k : Nat} (h : ∀ x, (b x).length = k) : ∀ xs : List α, (xs.flatMap b).length = k * xs.length
  | [] => rfl
  | x :: xs => by rw [List.flatMap_cons, List.length_append, h, flat_len h xs, List.length_cons, Nat.mul_add]; omega
theorem cdB_len (c : Cd) : (cdB c).length = cdN c := by
  have h1 := flat_len (b := nuB) (k := 8) (fun x => be_length _ _ _) c.params
  have h2 := flat_len (b := inB) (k := 16) (fun x => by simp [inB, be_length]) c.instrs
  simp only [cdB, List.length_append, be_length, h1, h2, cdN]
  omega
def cdsN (cs : List Cd) : Nat := (cs.map cdN).sum
theorem cdsB_len : ∀ cs : List Cd, (cs.flatMap cdB).length = cdsN cs
  | [] => rfl
  | c :: cs => by rw [List.flatMap_cons, List.length_append, cdB_len, cdsB_len cs]; rfl
theorem mdB_len (m : Md) : (mdB m).length = 12 + cdsN m.codes + szTo m.texts m.texts.length := by
  rw [mdB, List.length_append, List.length_append, be_length, cdsB_len, rowBytes_length]
  omega
theorem cdB_byt {c : Cd} (h : CdFit c) : Byt (cdB c) := by
  have f : ∀ {α : Type} (b : α → List Int), (∀ x, Byt (b x)) → ∀ xs : List α, Byt (xs.flatMap b) := by
    intro α b hb xs y hy
    obtain ⟨x, _, hx⟩ := List.mem_flatMap.1 hy
    exact hb x y hx
  exact (be_byt _ _ _).append (h.name.append ((be_byt _ _ _).append ((f nuB (fun x => be_byt _ _ _) _).append ((be_byt _ _ _).append ((be_byt _ _ _).append ((be_byt _ _ _).append (f inB (fun x => (be_byt _ _ _).append (be_byt _ _ _)) _)))))))
theorem mdB_byt {m : Md} (h : MdFit m) : Byt (mdB m) := by
  refine (be_byt _ _ _).append (Byt.append (fun y hy => ?_) (rowBytes_byt h.texts))
  obtain ⟨x, hx, hx2⟩ := List.mem_flatMap.1 hy
  exact cdB_byt (h.codes x hx) y hx2

end Go.Proofs.YtecjkmemihmkcaaDoor
