/- The search: how it begins. No program. Conditions: those in each theorem. -/
import Derived.Test.YtilmidjkjgeoeaaDoorWA
namespace Go.Proofs.YtilmidjkjgeoeaaDoor
open Go.RowKit Go.MapKept
set_option maxRecDepth 100000
set_option linter.unusedVariables false
set_option linter.unusedSimpArgs false
theorem ok_start : StOk [(0, 0, 0)] [[]] where
  len := rfl
  e0 := rfl
  s0 := rfl
  step n e h1 h2 := by
    rw [List.getElem?_eq_none (by simpa using h1)] at h2
    cases h2
  once i j ts hi hj := by
    have h1 := (List.getElem?_eq_some_iff.1 hi).1
    have h2 := (List.getElem?_eq_some_iff.1 hj).1
    simp at h1 h2
    omega
  cap ts h := by
    rw [List.mem_singleton.1 h]
    exact Nat.zero_le _
  ty ts h t ht := by
    rw [List.mem_singleton.1 h] at ht
    cases ht
theorem tv_start (m n : Nat) : TvR [[]] m (List.replicate n pl0) (fun _ => none) where
  none _ _ _ _ := rfl
  some k p hp ht := by
    rw [List.mem_replicate.1 (List.mem_of_getElem? hp) |>.2] at ht
    cases ht
  out _ _ := rfl
  ws p hp := by
    rw [(List.mem_replicate.1 hp).2]
    exact ws0_ok
/-- the search, at its outer round -/
def SoO (B W : Nat) (x0 : Wx) (P : Pv) (c : Cd) (a0 : Sv) (N : Nat) (w0 : World) (k : Nat) (w : World) : Prop :=
  ∃ x S T L V R, Sf B W x0 P c a0 N x S T (fun j => j ∈ x.rem) k L V R w ∧ leftN a0 c T x ≤ k ∧ Below B w0 w
/-- at its inner round -/
def SoI (B W : Nat) (x0 : Wx) (P : Pv) (c : Cd) (a0 : Sv) (N : Nat) (w0 : World) (gk k : Nat) (v : Value) (w : World) : Prop :=
  k < gk ∧ ∃ x S T L V R at_ s, v = .int .i64 (at_ : Nat) ∧ T at_ = some s ∧ Sf B W x0 P c a0 N x S T (fun j => j = at_ ∨ j ∈ x.rem) (k + 1) L V R w ∧ leftN a0 c T x ≤ k ∧ Below B w0 w
theorem so_start {B W : Nat} {x0 : Wx} {P : Pv} {c : Cd} {a0 : Sv} {L V R R' : Value} {w0 w w' : World} {ys : List Nat} (hE : x0.E = [(0, 0, 0)]) (hpl : x0.pl = List.replicate c.instrs.length pl0) (hrem : x0.rem = []) (h0 : a0.st = []) (hm : a0.sl.length ≤ 256) (hn : c.instrs.length ≤ 16384) (hy : Ws8 ys) (hs : SlR ys a0.sl)
    (hk : WkAt B W { x0 with pl := (reachM x0.pl 0 0 ys).1, rem := if (reachM x0.pl 0 0 ys).2.1 then x0.rem ++ [(0 : Int).toNat] else x0.rem } L V R w) (hb : Below B w0 w) :
    ((reachM x0.pl 0 0 ys).2.2 = false → ¬ SafeV P c.instrs a0) ∧ ((reachM x0.pl 0 0 ys).2.2 = true → ∃ N k, N ≤ 1000000000 ∧ SoO B W x0 P c a0 N w0 k w) := by
  have ht := tv_start a0.sl.length c.instrs.length
  rw [← hpl] at ht
  have hok : StOk x0.E [[]] := by rw [hE]; exact ok_start
  have hr : RepV [[]] a0.sl.length 0 ys a0 := ⟨by rw [h0]; rfl, hy, hs, rfl⟩
  have hlen : x0.pl.length = c.instrs.length := by rw [hpl]; simp
  obtain ⟨r1, r2⟩ := reach_plain hok ht hr 0 hm
  constructor
  · intro e hsafe
    have hpos := hsafe.pos
    rcases r1 e with g | ⟨b, g, _⟩
    · have : 0 < c.instrs.length := List.length_pos_iff.2 hpos
      omega
    · cases g
  · intro e
    obtain ⟨g1, g2, g3, g4, g5, g6⟩ := r2 e
    have hc : (reachM x0.pl 0 0 ys).2.1 = true := by
      cases hc : (reachM x0.pl 0 0 ys).2.1 with
      | true => rfl
      | false => exact absurd (g4 hc) (by simp)
    rw [hc, hrem] at hk
    simp only [if_true, List.nil_append] at hk
    have hT : setV (fun _ => none) (0 : Int).toNat (comeV none a0) = fun k => if k = 0 then some a0 else none := rfl
    change TvR [[]] a0.sl.length (reachM x0.pl 0 0 ys).1 (setV (fun _ => none) (0 : Int).toNat (comeV none a0)) at g3
    rw [hT] at g3
    have hws := WorkV.start P c.instrs a0
    have hle := left_le hws.len c.instrs.length
    have h2 : c.instrs.length * (a0.sl.length + 1) ≤ 16384 * 257 := Nat.mul_le_mul hn (by omega)
    refine ⟨1 + (2 * leftV a0.sl.length c.instrs.length (fun k => if k = 0 then some a0 else none) + 1), 2 * leftV a0.sl.length c.instrs.length (fun k => if k = 0 then some a0 else none) + 1, by omega, _, [[]], fun k => if k = 0 then some a0 else none, L, V, R, ⟨hk, hok, g3, hws.mono (fun j hj => by rw [hj]; exact List.mem_singleton.2 rfl), fun j hj => ⟨?_, hj⟩, ⟨rfl, rfl, rfl, rfl, rfl⟩, g6.trans hlen, ?_⟩, ?_, hb⟩
    · rw [List.mem_singleton.1 hj]
      exact ⟨a0, rfl⟩
    · show x0.E.length + _ ≤ _
      rw [hE]
      exact Nat.le_refl _
    · unfold leftN
      exact Nat.le_refl _
def SafeQ (P : Pv) (c : Cd) (a0 : Sv) (B : Nat) (w : World) (r : Ending) (w' : World) : Prop := ∃ b, r = .returned (.bool b) ∧ (b = true ↔ SafeV P c.instrs a0) ∧ Below B w w'
theorem safe_not {P : Pv} {c : Cd} {a0 : Sv} {B : Nat} {w w' : World} (h : ¬ SafeV P c.instrs a0) (hb : Below B w w') : SafeQ P c a0 B w (.returned (.bool false)) w' :=
  ⟨false, rfl, ⟨fun e => (by cases e), fun hs => absurd hs h⟩, hb⟩
theorem so_reach {B W : Nat} {x0 : Wx} {P : Pv} {c : Cd} {a0 : Sv} {N : Nat} {w0 : World} {og k at_ : Nat} {i : Ins} {s s' : Sv} {done : List Int} {x : Wx} {S : List (List Int)} {T : Tv} {L V R : Value} {w w' : World} {n : Nat} {ys : List Nat} {q : Int}
    (h : Sr B W x0 P c a0 N x S T (fun j => j ∈ x.rem) k at_ i s s' done L V R w) (hk : k < og) (hr : RepV S a0.sl.length n ys s') (hm : a0.sl.length ≤ 256) (hq : q ∈ succZ at_ i) (hd : ∀ p ∈ succZ at_ i, p = q ∨ p ∈ done) (hw : WkAt B W { x with pl := (reachM x.pl q n ys).1 } L V R w') (hb : Below B w0 w') :
    ((reachM x.pl q n ys).2.2 = false → SafeQ P c a0 B w0 (.returned (.bool false)) w') ∧
    ((reachM x.pl q n ys).2.2 = true → (reachM x.pl q n ys).2.1 = false → SoO B W x0 P c a0 N w0 k w') ∧
    ((reachM x.pl q n ys).2.2 = true → (reachM x.pl q n ys).2.1 = true → ∃ k', k' < k ∧ SoI B W x0 P c a0 N w0 og k' (.int .i64 q) w') := by
  refine ⟨fun e => safe_not (h.bad hr hm hq e) hb, fun e e2 => ?_, fun e e2 => ?_⟩
  · obtain ⟨_, ⟨_, x', g1, g2⟩ | ⟨e3, _⟩⟩ := h.end_ hr hm hq hd e hw
    · exact ⟨x', S, T, L, V, R, g1, g2, hb⟩
    · rw [e2] at e3; cases e3
  · obtain ⟨h0, ⟨e3, _⟩ | ⟨_, x', T', k', hk', g1, g2, u, hu⟩⟩ := h.end_ hr hm hq hd e hw
    · rw [e2] at e3; cases e3
    · exact ⟨k', hk', by omega, x', S, T', L, V, R, q.toNat, u, by rw [Int.toNat_of_nonneg h0], hu, g1, g2, hb⟩
theorem eff_r {B W St : Nat} {x : Wx} {S : List (List Int)} {V R : Value} {o : Option Sv} {r : Ending} {w w' : World} (h : EffQ B W St x S V R o w r w') : r = .returned (.bool true) ∨ r = .returned (.bool false) := by
  rcases h with ⟨_, _, _, h, _⟩ | ⟨_, h, _⟩
  · exact .inl h
  · exact .inr h
theorem so_eff {B W St : Nat} {x0 : Wx} {P : Pv} {c : Cd} {a0 : Sv} {N k at_ : Nat} {i : Ins} {s : Sv} {x : Wx} {S : List (List Int)} {T : Tv} {L V R : Value} {w w1 w' : World} (h : Sf B W x0 P c a0 N x S T (fun j => j = at_ ∨ j ∈ x.rem) (k + 1) L V R w) (hl : leftN a0 c T x ≤ k) (hs : T at_ = some s) (hi : c.instrs[at_]? = some i)
    (hq : EffQ B W St x S V R (stepV P i s) w1 (.returned (.bool true)) w') : ∃ x1 S1 L1 s' n ys, Sr B W x0 P c a0 N x1 S1 T (fun j => j ∈ x1.rem) k at_ i s s' [] L1 V R w' ∧ RepV S1 a0.sl.length n ys s' ∧ w'.heap[St]? = some (stO n ys) ∧ Mt B tsP w1 w' ∧ x1.rem = x.rem := by
  rcases hq with ⟨s', h1, h2, _, E', S', L', h3, h4, h5, h6⟩ | ⟨_, h, _⟩
  · obtain ⟨n, ys, g1, g2, g3, g4⟩ := h5.st
    have hsr := h.begin hl hs hi h1 h2 h5.wk h5.ok h3 h4
    exact ⟨_, S', L', s', n, ys, hsr, ⟨g2, g3, g4, hsr.g.hs⟩, g1, h6, rfl⟩
  · injection h with h
    injection h with h
    cases h
theorem so_no {B W St : Nat} {x0 : Wx} {P : Pv} {c : Cd} {a0 : Sv} {N k at_ : Nat} {i : Ins} {s : Sv} {x : Wx} {S : List (List Int)} {T : Tv} {L V R : Value} {w w1 w' : World} (h : Sf B W x0 P c a0 N x S T (fun j => j = at_ ∨ j ∈ x.rem) (k + 1) L V R w) (hs : T at_ = some s) (hi : c.instrs[at_]? = some i)
    (hq : EffQ B W St x S V R (stepV P i s) w1 (.returned (.bool false)) w') : ¬ SafeV P c.instrs a0 ∧ Mt B tsP w1 w' := by
  rcases hq with ⟨s', h1, h2, h, _⟩ | ⟨h1, _, h2⟩
  · injection h with h
    injection h with h
    cases h
  · exact ⟨h.wv.fall hs hi (fun s' g1 g2 => absurd (h1 s' g1) (by omega)), h2⟩
theorem so_ret {B W : Nat} {x0 : Wx} {P : Pv} {c : Cd} {a0 : Sv} {N k at_ : Nat} {A : Int} {s : Sv} {x : Wx} {S : List (List Int)} {T : Tv} {L V R : Value} {w w0 w' : World} (h : Sf B W x0 P c a0 N x S T (fun j => j = at_ ∨ j ∈ x.rem) (k + 1) L V R w) (hl : leftN a0 c T x ≤ k) (hs : T at_ = some s) (hi : c.instrs[at_]? = some (18, A))
    (h1 : stepV P (18, A) s = some s) (hst : ∃ n : Nat, S[n]? = some s.st) (hk : WkAt B W x L V R w') (hb : Below B w0 w') : SoO B W x0 P c a0 N w0 k w' := by
  obtain ⟨n, hn⟩ := hst
  have hsr := h.begin (E' := x.E) (S' := S) hl hs hi h1 (h.ok.cap _ (List.mem_of_getElem? hn)) hk h.ok (List.prefix_refl S) (by omega)
  exact ⟨_, S, T, L, V, R, hsr.none_ rfl, hl, hb⟩
theorem so_take {B W : Nat} {x0 : Wx} {P : Pv} {c : Cd} {a0 : Sv} {N : Nat} {w0 : World} {k : Nat} {x : Wx} {S : List (List Int)} {T : Tv} {L V R R' : Value} {w w' : World} {at_ : Nat} (h : Sf B W x0 P c a0 N x S T (fun j => j ∈ x.rem) k L V R w) (hl : leftN a0 c T x ≤ k) (hb : Below B w0 w) (hat : x.rem.getLast? = some at_)
    (hk : WkAt B W { x with rem := x.rem.dropLast } L V R' w') (hm : Mt B ts3 w w') : SoI B W x0 P c a0 N w0 k (k - 1) (.int .i64 at_) w' := by
  have hin : at_ ∈ x.rem := List.mem_of_getLast? hat
  have hpos : 0 < x.rem.length := List.length_pos_of_mem hin
  have hsplit : x.rem = x.rem.dropLast ++ [at_] := by
    obtain ⟨ys, hys⟩ := List.getLast?_eq_some_iff.1 hat
    rw [hys]; simp
  unfold leftN at hl
  obtain ⟨⟨s, hs⟩, _⟩ := h.rem at_ hin
  have hd : x.rem.dropLast.length = x.rem.length - 1 := List.length_dropLast
  refine ⟨by omega, _, S, T, L, V, R', at_, s, rfl, hs, ⟨hk, h.ok, h.tv, h.wv.mono (fun j hj => ?_), fun j hj => ?_, ⟨h.same.C, h.same.Tx, h.same.r, h.same.sl, h.same.I⟩, h.pl, ?_⟩, ?_, hb.trans hm.low⟩
  · rw [hsplit] at hj
    rcases List.mem_append.1 hj with hj | hj
    · exact .inr hj
    · exact .inl (List.mem_singleton.1 hj)
  · exact ⟨(h.rem j (by rw [hsplit]; exact List.mem_append_left _ hj)).1, .inr hj⟩
  · have := h.bd
    show x.E.length + (k - 1 + 1) ≤ N
    omega
  · unfold leftN
    show 2 * leftV a0.sl.length c.instrs.length T + x.rem.dropLast.length ≤ k - 1
    omega
end Go.Proofs.YtilmidjkjgeoeaaDoor
