/- The search through a function: what stands at each round's beginning. Conditions: those in each theorem. -/
import Derived.Test.YtilmidjkjgeoeaaDoorVY
import Derived.WalkMore
import Derived.Deep.DeepCutAuto
namespace Go.Proofs.YtilmidjkjgeoeaaDoor
open Go.RowKit Go.MapKept
set_option maxRecDepth 100000
set_option linter.unusedVariables false
set_option linter.unusedSimpArgs false
/-- a function of a module, and its walk's constant parts -/
structure SafeP (B : Nat) (x : Wx) (P : Pv) (cs : List Cd) (c : Cd) (m : Nat) (w : World) : Prop where
  hC : CodesV w B cs x.C
  hfs : P.fs = cs.map (fun c => (c.params, c.result))
  hT : ∃ A c, x.Tx = .slice A P.nt c
  hr : x.r = P.res
  hr2 : OkN P.res
  hs : x.sl = m
  hok : ∀ c ∈ cs, (∀ p ∈ c.params, okTy p) ∧ OkN c.result
  tab : Tab w
  h0 : 0 < B
  hnt : P.nt ≤ 1024
  hcs : cs.length ≤ 1024
  hI : RowL w B c.instrs.length (insV c.instrs) x.I
  hP : RowL w B c.params.length (tysV c.params) x.P
  hin : ∀ i ∈ c.instrs, (1 ≤ i.1 ∧ i.1 ≤ 18) ∧ Fit i.2
  hps : ∀ p ∈ c.params, okTy p
  hm : m ≤ 256
  hpm : c.params.length ≤ m
  hn : c.instrs.length ≤ 16384
theorem SafeP.low {B : Nat} {x : Wx} {P : Pv} {cs : List Cd} {c : Cd} {m : Nat} {w w' : World} (h : SafeP B x P cs c m w) (hb : Below B w w') : SafeP B x P cs c m w' :=
  ⟨h.hC.below hb, h.hfs, h.hT, h.hr, h.hr2, h.hs, h.hok, h.tab.below hb h.h0, h.h0, h.hnt, h.hcs, h.hI.below hb, h.hP.below hb, h.hin, h.hps, h.hm, h.hpm, h.hn⟩
/-- only the stacks, the places and what is left change -/
structure SameX (x0 x : Wx) : Prop where
  C : x.C = x0.C
  Tx : x.Tx = x0.Tx
  r : x.r = x0.r
  sl : x.sl = x0.sl
  I : x.I = x0.I
theorem SameX.refl (x : Wx) : SameX x x := ⟨rfl, rfl, rfl, rfl, rfl⟩
/-- the search -/
structure Sf (B W : Nat) (x0 : Wx) (P : Pv) (c : Cd) (a0 : Sv) (N : Nat) (x : Wx) (S : List (List Int)) (T : Tv) (D : Nat → Prop) (k : Nat) (L V R : Value) (w : World) : Prop where
  wk : WkAt B W x L V R w
  ok : StOk x.E S
  tv : TvR S a0.sl.length x.pl T
  wv : WorkV P c.instrs a0 T D
  rem : ∀ j ∈ x.rem, (∃ s, T j = some s) ∧ D j
  same : SameX x0 x
  pl : x.pl.length = c.instrs.length
  bd : x.E.length + k ≤ N
theorem Sf.below {B W : Nat} {x0 : Wx} {P : Pv} {c : Cd} {a0 : Sv} {N : Nat} {x : Wx} {S : List (List Int)} {T : Tv} {D : Nat → Prop} {k : Nat} {L V R : Value} {w w' : World} (h : Sf B W x0 P c a0 N x S T D k L V R w) (hb : Below w.heap.size w w') : Sf B W x0 P c a0 N x S T D k L V R w' :=
  ⟨h.wk.below hb, h.ok, h.tv, h.wv, h.rem, h.same, h.pl, h.bd⟩
/-- how much is left to do -/
def leftN (a0 : Sv) (c : Cd) (T : Tv) (x : Wx) : Nat := 2 * leftV a0.sl.length c.instrs.length T + x.rem.length
/-- an instruction's state, ready for its effect -/
theorem Sf.efp {B W : Nat} {x0 : Wx} {P : Pv} {cs : List Cd} {c : Cd} {a0 : Sv} {N : Nat} {x : Wx} {S : List (List Int)} {T : Tv} {D : Nat → Prop} {k : Nat} {L V R : Value} {w w1 : World} {St n : Nat} {ys : List Nat} {s : Sv} (h : Sf B W x0 P c a0 N x S T D k L V R w) (hp : SafeP B x0 P cs c a0.sl.length w1) (hb : Below w.heap.size w w1) (hS : w1.heap[St]? = some (stO n ys)) (hr : RepV S a0.sl.length n ys s) (hB : B ≤ St) (hN : N ≤ 1000000000) :
    EfP B W St x S L V R s P cs w1 :=
  ⟨⟨h.wk.below hb, h.ok, ⟨n, ys, hS, hr.st, hr.ok, hr.sl⟩, hB, by rw [hr.len]; exact hp.hm⟩, by rw [h.same.C]; exact hp.hC, hp.hfs, by rw [h.same.Tx]; exact hp.hT, by rw [h.same.r]; exact hp.hr, hp.hr2, by rw [h.same.sl, hr.len]; exact hp.hs, hp.hok, by have := h.bd; omega, hp.tab, hp.h0, hp.hnt, hp.hcs⟩
end Go.Proofs.YtilmidjkjgeoeaaDoor
