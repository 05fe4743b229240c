/- append onto a row of the call's own in whose block no cell is a number: nor is there one behind. Conditions: those in the theorem. -/
import Derived.Test.YtncbbjodianmoaaJb
import Derived.Laws.AppendOwn
import Derived.Maps.AppendAt
namespace Go.Proofs.Ytncbbjodianmoaa
open Go.RowKit
set_option linter.unusedVariables false

theorem zeroCells_mem {z : Array Value} {n : Nat} {x : Value} (h : x ∈ Builtin.zeroCells z n) (hz : 0 < z.size) : x ∈ z := by
  unfold Builtin.zeroCells at h
  rw [Array.mem_map] at h
  obtain ⟨i, _, rfl⟩ := h
  have hi : i % z.size < z.size := Nat.mod_lt _ hz
  rw [getElem!_pos z _ hi]
  exact Array.getElem_mem hi
theorem NoI.append {a b : Array Value} (ha : NoI a) (hb : NoI b) : NoI (a ++ b) := fun x hx => (Array.mem_append.1 hx).elim (ha x) (hb x)
theorem NoI.zero {z : Array Value} (hz : NoI z) (h0 : 0 < z.size) (n : Nat) : NoI (Builtin.zeroCells z n) := fun x hx => hz x (zeroCells_mem hx h0)
theorem NoI.list {l : List Value} (h : ∀ x ∈ l, ∀ q y, x ≠ .int q y) : NoI l.toArray := fun x hx => h x (by simpa using hx)
theorem NoI.at {n0 : Nat} {w : World} {T : TypeId} {v : Value} {n : Nat} {xs : List Value} (h : Rws n0 w T v n xs) : ∀ x ∈ xs, ∀ q y, x ≠ .int q y := by
  intro x hx
  rcases h.1.2 with ⟨rfl, h2⟩ | ⟨g, cap, cur, rfl, h2, h3, _, _, _, h4⟩
  · have : xs = [] := List.eq_nil_of_length_eq_zero (by rw [h.1.1]; omega)
    subst this
    cases hx
  · exact h.2 g rfl _ _ _ h3 x (by rw [← h4] at hx; exact Array.mem_toList_iff.1 (List.mem_of_mem_take hx))

theorem room_fin {n0 g n m : Nat} {w w' : World} {e : TypeId} {v v' : Value} {xs ys : List Value} (h : Rws n0 w e v n xs) (hT : e = 54 ∨ e = 57 ∨ e = 60 ∨ e = 22) (hv : v.ownBlock = some g) (hv' : v'.ownBlock = some g) (hR : Rws n0 w' e v' m ys) (hg : w.grownBy w' (some g)) :
    Rws n0 w' e v' m ys ∧ w.grownBy w' v.ownBlock ∧ Off n0 w w' := ⟨hR, by rw [hv]; exact hg, .grown hg (h.spb hT hv) (hR.spb hT hv')⟩
theorem Rws.app {P : Program} {n0 : Nat} (w : World) (t ty e : TypeId) (i : TypeInfo) (z : Value) (bytes : Nat) (ht : P.underlying t = some (.slice e)) (hi : P.info? e = some i) (hz : i.zero = some z)
    (hsize : i.size = 1) (hby : i.bytes = bytes) (hzs : z.cells.size = 1) (hzn : NoI z.cells)
    (hT : e = 54 ∨ e = 57 ∨ e = 60 ∨ e = 22) {v : Value} {n : Nat} {xs : List Value} (h : Rws n0 w e v n xs)
    (a : Addr) (m c : Nat) (news : List Value) (hl : news.length = m) (hm0 : 0 < m) (hnews : ∀ j u, news[j]? = some u → w.cell? (a.add j) = some u) (h1 : ∀ u ∈ news, u.oneCell' = true) (hnn : ∀ x ∈ news, ∀ q y, x ≠ .int q y)
    (h63 : n + m ≤ maxLen) (hbytes : (n + m) * bytes ≤ 140737488355328) (hbase : n0 ≤ w.heap.size) :
    ∃ v' w', (Builtin.append_ #[t, t] ty #[v, .slice (some a) m c]).run P w = .ok v' w' ∧ Rws n0 w' e v' (n + m) (xs ++ news) ∧ w.grownBy w' v.ownBlock ∧ Off n0 w w' := by
  subst hby
  have hown := h.1
  have hxn := NoI.at h
  have hsmall : n + m ≤ 9223372036854775807 := by simp only [maxLen] at h63; omega
  have hlen : (xs ++ news).length = (n + m) * 1 := by rw [List.length_append, hown.1, hl]; omega
  have grown : ∀ (old : Nat), old < n + m → ∀ (row : Option Nat),
      Rws n0 (w.drew.alloc (.cells (xs.toArray ++ news.toArray ++ Builtin.zeroCells z.cells (grownCap w (n + m) old e - (n + m))) e)) e
        (.slice (some ⟨w.heap.size, 0, none⟩) (n + m) (grownCap w (n + m) old e)) (n + m) (xs ++ news) ∧
      w.grownBy (w.drew.alloc (.cells (xs.toArray ++ news.toArray ++ Builtin.zeroCells z.cells (grownCap w (n + m) old e - (n + m))) e)) row := by
    intro old ho row
    have hge := grownCap_ge w (n + m) old e
    have hcm : grownCap w (n + m) old e ≤ maxLen := grownCap_le_maxLen w (n + m) old e h63
    have hnew : (w.drew.alloc (.cells (xs.toArray ++ news.toArray ++ Builtin.zeroCells z.cells (grownCap w (n + m) old e - (n + m))) e)).heap[w.heap.size]? = some (.cells (xs.toArray ++ news.toArray ++ Builtin.zeroCells z.cells (grownCap w (n + m) old e - (n + m))) e (0, 0)) := heap_alloc_new w.drew _
    refine ⟨⟨⟨hlen, .inr ⟨w.heap.size, _, _, rfl, hbase, hnew, hge, hcm, ?_, ?_⟩⟩, fun g hg cs T z' h' => ?_⟩, ⟨rfl, rfl, rfl, by simp, fun k hk _ => Below.heap_alloc w.drew _ k hk⟩⟩
    · simp only [Array.size_append, List.size_toArray, size_zeroCells, hzs, hown.1, hl]
      omega
    · simp only [Array.toList_append, List.append_assoc]
      rw [← List.append_assoc, ← hlen]
      exact List.take_left
    · obtain rfl : w.heap.size = g := by injection hg
      rw [hnew] at h'
      injection h' with h'
      injection h' with h' _ _
      subst h'
      exact ((NoI.list hxn).append (NoI.list hnn)).append (NoI.zero hzn (by omega) _)
  rcases hown.2 with ⟨rfl, rfl⟩ | ⟨g, cap, cur, rfl, hbg, hg, hnc, hcm, hcs, htake⟩
  · have hx : xs = [] := List.eq_nil_of_length_eq_zero (by simpa using hown.1)
    subst hx
    have hoff := Off.of (n0 := n0) ((Below.refl w.heap.size w).grown (grown 0 (by omega) none).2 (Nat.le_refl _) (fun k hk => by cases hk))
    have hr := run_append_nil (P := P) w t ty e i z ht hi hz a m c news (by rw [hl, hsize, Nat.mul_one]) hnews (by omega) (by omega) (by have hb := hbytes; simp only [Nat.zero_add] at hb; omega)
    have hgr := grown 0 (by omega) (Value.ownBlock (.slice none 0 0))
    simp only [Nat.zero_add, List.nil_append, Array.empty_append] at hgr hoff ⊢
    exact ⟨_, _, hr, hgr.1, hgr.2, hoff⟩
  · by_cases hroom : n + m ≤ cap
    · have hfit : n * i.size + news.length ≤ cur.size := by rw [hl, hcs, hsize]; omega
      have hr := run_append_room (P := P) w t ty e i ht hi g n cap cur hg a m c news (by rw [hl, hsize, Nat.mul_one]) hnews h1 hroom hfit
      refine ⟨_, _, hr, room_fin h hT rfl rfl ⟨⟨hlen, .inr ⟨g, cap, _, rfl, hbg, setRow_heap w g cur _ e _ hg, hroom, hcm, ?_, ?_⟩⟩, fun g' hg' cs T z' h' => ?_⟩ ⟨rfl, rfl, rfl, by simp, fun k _ hk => setRow_other w g k _ (fun e => hk (by simp [e]))⟩⟩
      · simp only [List.size_toArray, List.length_append, List.length_take, List.length_drop, Array.length_toList]
        rw [hsize]
        omega
      · rw [hsize, htake, ← hlen]
        exact List.take_left
      · obtain rfl : g = g' := by injection hg'
        rw [setRow_heap w g cur _ e _ hg] at h'
        injection h' with h'
        injection h' with h' _ _
        subst h'
        have hc := h.2 g rfl _ _ _ hg
        refine NoI.list fun x hx => ?_
        rcases List.mem_append.1 hx with e | e
        · rcases List.mem_append.1 e with e | e
          · exact hc x (Array.mem_toList_iff.1 (List.mem_of_mem_take e))
          · exact hnn x e
        · exact hc x (Array.mem_toList_iff.1 (List.mem_of_mem_drop e))
    · have holds : ∀ j u, xs[j]? = some u → w.cell? ((⟨g, 0, none⟩ : Addr).add j) = some u := hown.cells (g := g) rfl
      have hr := run_append_grow (P := P) w t ty e i z ht hi hz ⟨g, 0, none⟩ n cap xs (by rw [hown.1, hsize]) holds a m c news (by rw [hl, hsize, Nat.mul_one]) hnews (by omega) (by omega) (growslice_fits (by omega) hbytes)
      have hgr := grown cap (by omega) (Value.ownBlock (.slice (some ⟨g, 0, none⟩) n cap))
      exact ⟨_, _, hr, hgr.1, hgr.2, .of ((Below.refl w.heap.size w).grown (grown cap (by omega) none).2 (Nat.le_refl _) (fun k hk => by cases hk))⟩
/-- as an operation -/
theorem Rws.wpList {P : Program} {n0 : Nat} {w : World} {ops : Array Oper} {rest : List Oper} {o : Oper} {a : Act} {Q : Exit → Act → World → Prop} (hgd : o.guard = none) (s x : Operand) (t : TypeId)
    (ho : o.op = .call { callee := .builtin .append, args := #[s, x], argTypes := #[t, t] })
    (e : TypeId) (i : TypeInfo) (z : Value) (bytes : Nat) (ht : P.underlying t = some (.slice e)) (hi : P.info? e = some i) (hz : i.zero = some z)
    (hsize : i.size = 1) (hby : i.bytes = bytes) (hzs : z.cells.size = 1) (hzn : NoI z.cells)
    (hT : e = 54 ∨ e = 57 ∨ e = 60 ∨ e = 22) {v : Value} {n : Nat} {xs : List Value} (hs : a.eval s = v) (h : Rws n0 w e v n xs)
    (ad : Addr) (m c : Nat) (news : List Value) (hx : a.eval x = .slice (some ad) m c) (hl : news.length = m) (hm0 : 0 < m) (hnews : ∀ j u, news[j]? = some u → w.cell? (ad.add j) = some u) (h1 : ∀ u ∈ news, u.oneCell' = true) (hnn : ∀ x ∈ news, ∀ q y, x ≠ .int q y)
    (h63 : n + m ≤ maxLen) (hbytes : (n + m) * bytes ≤ 140737488355328) (hbase : n0 ≤ w.heap.size)
    (hK : ∀ v' w', Rws n0 w' e v' (n + m) (xs ++ news) → w.grownBy w' v.ownBlock → Off n0 w w' → wpList P ops Q rest (a.put o.dst v') w') : wpList P ops Q (o :: rest) a w := by
  refine wpList_plain hgd fun K hK' => ?_
  obtain ⟨v', w', hr, h2, h3, h5⟩ := h.app (P := P) w t o.type e i z bytes ht hi hz hsize hby hzs hzn hT ad m c news hl hm0 hnews h1 hnn h63 hbytes hbase
  unfold Oper.wp execOp
  simp only [ho, resolve, invoke, builtin, Sem.run_bind, Sem.run_pure, Result.andThen_ok, List.map_toArray, List.map_cons, List.map_nil, hs, hx, hr]
  exact hK' _ _ (hK v' w' h2 h3 h5)
end Go.Proofs.Ytncbbjodianmoaa
