/- The document's 'Same' answers true where both rows have the same tokens. Conditions: the rows lie in memory. -/
import Derived.Test.YtdmjlgjnboofdaaDoorH
namespace Go.Proofs.YtdmjlgjnboofdaaDoor
open Go.RowKit

/-- a token lies at a place of a block -/
def TokIn (w : World) (g o : Nat) (t : Tok) : Prop :=
  w.cell? ⟨g, o, none⟩ = some (.int .i64 t.kind) ∧ w.cell? ⟨g, o + 1, none⟩ = some (.string (strN t.text)) ∧ w.cell? ⟨g, o + 2, none⟩ = some (.int .i64 t.num) ∧ w.cell? ⟨g, o + 3, none⟩ = some (.int .i64 t.place)
theorem TokIn.below {w w' : World} {B g i : Nat} {t : Tok} (h : TokIn w g i t) (hb : Below B w w') (hg : g < B) : TokIn w' g i t :=
  ⟨(hb.cell (p := ⟨g, _, none⟩) hg).trans h.1, (hb.cell (p := ⟨g, _, none⟩) hg).trans h.2.1, (hb.cell (p := ⟨g, _, none⟩) hg).trans h.2.2.1, (hb.cell (p := ⟨g, _, none⟩) hg).trans h.2.2.2⟩
/-- two rows of the same tokens -/
def TwoRows (w : World) (A1 A2 : Option Addr) (ts : List Tok) : Prop :=
  ts = [] ∨ ∃ g1 o1 g2 o2, A1 = some ⟨g1, o1, none⟩ ∧ A2 = some ⟨g2, o2, none⟩ ∧ g1 < w.heap.size ∧ g2 < w.heap.size ∧ ∀ i t, ts[i]? = some t → TokIn w g1 (o1 + i * 4) t ∧ TokIn w g2 (o2 + i * 4) t

set_option maxRecDepth 100000 in
set_option maxHeartbeats 1600000 in
theorem same (A1 A2 : Option Addr) (ts : List Tok) (n c1 c2 : Nat) (w : World) (hn : ts.length = n) (hm : n ≤ 2048) (hr : TwoRows w A1 A2 ts) :
    Calls Tryd.prog 12 #[.slice A1 n c1, .slice A2 n c2] w fun e w' => e = .returned (.bool true) ∧ Below w.heap.size w w' := by
  have HR := Lib.hid hr
  have HN := Lib.hid hn
  clear hr hn
  go_enter Tryd.func12, Tryd.ntmps12
  go_wp2
  go_loopw [5] (fun i wr => ∃ k : Nat, k ≤ n ∧ i = .int .i64 k ∧ Below w.heap.size w wr) (fun i _ => n - (intOf i).toNat)
  case atStart => exact ⟨0, Nat.zero_le _, rfl, Below.refl _ _⟩
  case round =>
    obtain ⟨k, hk, rfl, hbel⟩ := hrel
    by_cases hlt : k < n
    · obtain ⟨t, htk⟩ : ∃ t, ts[k]? = some t := ⟨_, List.getElem?_eq_getElem (by rw [HN.out]; exact hlt)⟩
      rcases HR.out with h0 | ⟨g1, o1, g2, o2, rfl, rfl, hg1, hg2, hrow⟩
      · rw [h0] at htk
        simp at htk
      · have hboth := hrow k t htk
        obtain ⟨a1, a2, a3, a4⟩ := hboth.1.below hbel hg1
        obtain ⟨b1, b2, b3, b4⟩ := hboth.2.below hbel hg2
        have BE := Lib.hid hbel
        clear hboth hrow htk hbel HR
        go_wp2
        go_quiet (fail)
        go_wp2
        go_roundw
        case rel => exact ⟨k + 1, by omega, by go_num, below_drewN BE.out _⟩
        case measure => simp [intOf]; omega
    · obtain rfl : k = n := by omega
      have hfin := hbel
      clear hbel
      go_wp2
      go_ret
      exact ⟨rfl, hfin⟩
end Go.Proofs.YtdmjlgjnboofdaaDoor
