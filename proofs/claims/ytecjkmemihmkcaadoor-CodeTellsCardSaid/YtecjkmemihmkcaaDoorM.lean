/- Plain facts for WireBack: what it writes is read back, part by part. Conditions: those in each theorem. -/
import Derived.Test.YtecjkmemihmkcaaDoorL
import Derived.Test.YtecjkmemihmkcaaDoorCodec
namespace Go.Proofs.YtecjkmemihmkcaaDoor
set_option maxRecDepth 100000
open Go.RowKit

theorem num_at {L : List Int} {p : Int} {q : Nat} {n : Int} {r : List Int} (hp : p = q) (h : L.drop q = be n 7 8 ++ r) (h0 : -9223372036854775808 ≤ n) (h1 : n ≤ 9223372036854775807) :
    numA L p = n ∧ numB L p = p + 8 ∧ roomV L.length p 8 = 0 := by
  subst hp
  have h3 := congrArg List.length h
  rw [List.length_drop, List.length_append, be_length] at h3
  have hr : roomV L.length q 8 = 0 := room_0 (by omega) (by omega) (by omega)
  refine ⟨?_, if_pos hr, hr⟩
  unfold numA
  rw [if_pos hr, Int.toNat_natCast, h, List.take_left' (be_length _ _ _)]
  exact val_be8 h0 h1

theorem bool_at {L : List Int} {p : Int} {q : Nat} {b : Bool} {r : List Int} (hp : p = q) (h : L.drop q = (if b then 1 else 0) :: r) :
    boolA L p = b ∧ boolB L p = p + 1 ∧ boolE L p = 0 := by
  subst hp
  have h3 := congrArg List.length h
  rw [List.length_drop, List.length_cons] at h3
  have hr : roomV L.length q 1 = 0 := room_0 (by omega) (by omega) (by omega)
  have hx : L[q]? = some (if b then 1 else 0) := by
    have := congrArg (fun l => l[0]?) h
    simpa [List.getElem?_drop] using this
  have hE : boolE L q = 0 := by
    unfold boolE
    rw [if_pos hr, Int.toNat_natCast, getD_of hx]
    cases b <;> rfl
  refine ⟨?_, if_pos hE, hE⟩
  unfold boolA
  rw [if_pos hr, Int.toNat_natCast, getD_of hx]
  cases b <;> rfl

theorem bytes_at' {l : List Int} {p : Int} {q : Nat} {s r : List Int} (hp : p = q) (h : l.drop q = be s.length 3 4 ++ (s ++ r)) (hs : s.length ≤ 65536) :
    cnt l p = s.length ∧ bytesE l p = 0 ∧ bytesA l p = s ∧ bytesB l p = p + 4 + s.length := by
  subst hp
  obtain ⟨h1, h2, h3, h4, _⟩ := bytes_at h hs
  exact ⟨h1, h2, h3, h4⟩
theorem row_read' {l : List Int} {p : Int} {q : Nat} {ls : List (List Int)} {r : List Int} (hp : p = q) (h : l.drop q = rowBytes ls ++ r) (hn : ls.length ≤ 1024) (hgood : ∀ s ∈ ls, s.length ≤ 65536) :
    cnt l p = ls.length ∧ rowE l p = 0 ∧ items l (p + 4) ls.length = ls ∧ offs l (p + 4) ls.length = p + (rowBytes ls).length := by
  subst hp
  exact row_read h hn hgood

/-- all that WireBack writes, in one list -/
def backL (ahead : List Int) (n : Int) (b : Bool) (s : List Int) (ls : List (List Int)) (behind : List Int) : List Int :=
  ahead ++ (be n 7 8 ++ ((if b then 1 else 0) :: (be s.length 3 4 ++ (s ++ (rowBytes ls ++ behind)))))

theorem back_facts (ahead : List Int) (n : Int) (b : Bool) (s : List Int) (ls : List (List Int)) (behind : List Int) (h0 : -9223372036854775808 ≤ n) (h1 : n ≤ 9223372036854775807) (hs : s.length ≤ 65536) (hn : ls.length ≤ 1024) (hgood : ∀ s ∈ ls, s.length ≤ 65536)
    {p0 p1 p2 p3 : Int} (e0 : p0 = ahead.length) (e1 : p1 = p0 + 8) (e2 : p2 = p1 + 1) (e3 : p3 = p2 + 4 + s.length) :
    (numA (backL ahead n b s ls behind) p0 = n ∧ numB (backL ahead n b s ls behind) p0 = p0 + 8 ∧ roomV (backL ahead n b s ls behind).length p0 8 = 0) ∧
    (boolA (backL ahead n b s ls behind) p1 = b ∧ boolB (backL ahead n b s ls behind) p1 = p1 + 1 ∧ boolE (backL ahead n b s ls behind) p1 = 0) ∧
    (cnt (backL ahead n b s ls behind) p2 = s.length ∧ bytesE (backL ahead n b s ls behind) p2 = 0 ∧ bytesA (backL ahead n b s ls behind) p2 = s ∧ bytesB (backL ahead n b s ls behind) p2 = p2 + 4 + s.length) ∧
    (cnt (backL ahead n b s ls behind) p3 = ls.length ∧ rowE (backL ahead n b s ls behind) p3 = 0 ∧ items (backL ahead n b s ls behind) (p3 + 4) ls.length = ls ∧ offs (backL ahead n b s ls behind) (p3 + 4) ls.length = p3 + (rowBytes ls).length) ∧
    (backL ahead n b s ls behind).length = ahead.length + 8 + 1 + 4 + s.length + (rowBytes ls).length + behind.length := by
  have d0 : (backL ahead n b s ls behind).drop ahead.length = be n 7 8 ++ ((if b then 1 else 0) :: (be s.length 3 4 ++ (s ++ (rowBytes ls ++ behind)))) := List.drop_left' rfl
  have d1 : (backL ahead n b s ls behind).drop (ahead.length + 8) = (if b then 1 else 0) :: (be s.length 3 4 ++ (s ++ (rowBytes ls ++ behind))) := by
    rw [← List.drop_drop, d0, List.drop_left' (be_length _ _ _)]
  have d2 : (backL ahead n b s ls behind).drop (ahead.length + 8 + 1) = be s.length 3 4 ++ (s ++ (rowBytes ls ++ behind)) := by
    rw [← List.drop_drop, d1]; rfl
  have d3 : (backL ahead n b s ls behind).drop (ahead.length + 8 + 1 + 4 + s.length) = rowBytes ls ++ behind := (bytes_at d2 hs).2.2.2.2
  refine ⟨num_at (by omega) d0 h0 h1, bool_at (by omega) d1, bytes_at' (by omega) d2 hs, row_read' (by omega) d3 hn hgood, ?_⟩
  simp only [backL, List.length_append, List.length_cons, be_length]
  omega
theorem rowBytes_byt {ls : List (List Int)} (h : ∀ l ∈ ls, Byt l) : Byt (rowBytes ls) := by
  refine (be_byt _ _ _).append fun x hx => ?_
  simp only [bsTo, List.take_length, List.mem_flatMap] at hx
  obtain ⟨l, hl, hx⟩ := hx
  rcases List.mem_append.1 hx with h1 | h1
  · exact be_byt _ _ _ x h1
  · exact h l hl x h1
theorem back_byt {ahead : List Int} {n : Int} {b : Bool} {s : List Int} {ls : List (List Int)} {behind : List Int} (h1 : Byt ahead) (h2 : Byt s) (h3 : ∀ l ∈ ls, Byt l) (h4 : Byt behind) : Byt (backL ahead n b s ls behind) := by
  refine h1.append ((be_byt _ _ _).append ?_)
  intro x hx
  rcases List.mem_cons.1 hx with rfl | hx
  · cases b <;> decide
  · exact ((be_byt _ _ _).append (h2.append ((rowBytes_byt h3).append h4))) x hx

end Go.Proofs.YtecjkmemihmkcaaDoor
