/- Rows of expressions, of statements and of functions that a call makes and appends to, each with what hangs from it. Conditions: those in each theorem. -/
import Derived.Test.YtfcpabhkconjmaaGreatDoorZb
import Derived.Test.YtfcpabhkconjmaaGreatDoorZr
namespace Go.Proofs.YtfcpabhkconjmaaGreatDoor
open Go.RowKit
set_option maxRecDepth 100000
set_option linter.unusedSimpArgs false
set_option linter.unusedVariables false

theorem own_keep {w w' : World} {base : Nat} {e : TypeId} {size : Nat} {v : Value} {n : Nat} {xs : List Value} (h : w.ownsRow base e size v n xs) (hs : ∀ b, v.ownBlock = some b → w'.heap[b]? = w.heap[b]?) : w'.ownsRow base e size v n xs := by
  refine ⟨h.1, ?_⟩
  rcases h.2 with h' | ⟨g, cap, cur, rfl, h1, hg, rest⟩
  · exact .inl h'
  · exact .inr ⟨g, cap, cur, rfl, h1, (hs g rfl).trans hg, rest⟩
/-- where a row's parts lie: behind lo, and not in the row itself -/
def Dz (lo : Nat) (V : Value) (w : World) : Nat → Prop := fun b => (lo ≤ b ∧ some b ≠ V.ownBlock) ∧ b < w.heap.size
theorem Dz.grow {lo : Nat} {V V' : Value} {w w' : World} {b : Nat} (h : Dz lo V w b) (hz : w.heap.size ≤ w'.heap.size) (hv : V'.ownBlock = V.ownBlock ∨ ∃ g, V'.ownBlock = some g ∧ w.heap.size ≤ g) : Dz lo V' w' b := by
  refine ⟨⟨h.1.1, ?_⟩, Nat.lt_of_lt_of_le h.2 hz⟩
  rcases hv with e | ⟨g, e, hg⟩
  · rw [e]; exact h.1.2
  · rw [e]
    intro e2
    injection e2 with e2
    have := h.2
    omega
def OwX (lo : Nat) (w : World) (l : List Xe) (V : Value) : Prop :=
  ∃ ks : List Value, ks.length = l.length ∧ w.ownsRow lo 46 5 V l.length (xesC l ks) ∧ (∀ e ∈ l, Byn e.text) ∧ ∀ (i : Nat) (e : Xe) (k : Value), l[i]? = some e → ks[i]? = some k → XesC w (Dz lo V w) e.kids k
def OwS (lo : Nat) (w : World) (l : List Xs) (V : Value) : Prop :=
  ∃ ks : List Three, ks.length = l.length ∧ w.ownsRow lo 48 6 V l.length (xssC l ks) ∧ (∀ s ∈ l, Byn s.text) ∧ ∀ (i : Nat) (s : Xs) (k : Three), l[i]? = some s → ks[i]? = some k → XesC w (Dz lo V w) s.exprs k.e ∧ XssC w (Dz lo V w) s.body k.b ∧ XssC w (Dz lo V w) s.els k.f
theorem OwX.start (lo : Nat) (w : World) : OwX lo w [] (.slice none 0 0) := ⟨[], rfl, ⟨rfl, .inl ⟨rfl, rfl⟩⟩, (fun e h => by cases h), fun i e k h => by simp at h⟩
theorem OwS.start (lo : Nat) (w : World) : OwS lo w [] (.slice none 0 0) := ⟨[], rfl, ⟨rfl, .inl ⟨rfl, rfl⟩⟩, (fun e h => by cases h), fun i e k h => by simp at h⟩
theorem OwX.keep {lo : Nat} {w w' : World} {l : List Xe} {V : Value} (h : OwX lo w l V) (hs : ∀ b, lo ≤ b → b < w.heap.size → w'.heap[b]? = w.heap[b]?) (hz : w.heap.size ≤ w'.heap.size) : OwX lo w' l V := by
  obtain ⟨ks, h1, h2, h3, h4⟩ := h
  exact ⟨ks, h1, own_keep h2 fun b hb => hs b (h2.lt b hb).1 (h2.lt b hb).2, h3, fun i e k a b => ((h4 i e k a b).same fun q hq => hs q hq.1.1 hq.2).morez fun q hq => hq.grow hz (.inl rfl)⟩
theorem OwS.keep {lo : Nat} {w w' : World} {l : List Xs} {V : Value} (h : OwS lo w l V) (hs : ∀ b, lo ≤ b → b < w.heap.size → w'.heap[b]? = w.heap[b]?) (hz : w.heap.size ≤ w'.heap.size) : OwS lo w' l V := by
  obtain ⟨ks, h1, h2, h3, h4⟩ := h
  have hS : Same (Dz lo V w) w w' := fun q hq => hs q hq.1.1 hq.2
  have hm : ∀ q, Dz lo V w q → Dz lo V w' q := fun q hq => hq.grow hz (.inl rfl)
  exact ⟨ks, h1, own_keep h2 fun b hb => hs b (h2.lt b hb).1 (h2.lt b hb).2, h3, fun i e k a b => ⟨((h4 i e k a b).1.same hS).morez hm, ((h4 i e k a b).2.1.same hS).morez hm, ((h4 i e k a b).2.2.same hS).morez hm⟩⟩
theorem OwX.below {lo : Nat} {w w' : World} {l : List Xe} {V : Value} (h : OwX lo w l V) (hb : Below w.heap.size w w') : OwX lo w' l V := h.keep (fun b _ hb' => hb.block b hb') hb.size
theorem OwS.below {lo : Nat} {w w' : World} {l : List Xs} {V : Value} (h : OwS lo w l V) (hb : Below w.heap.size w w') : OwS lo w' l V := h.keep (fun b _ hb' => hb.block b hb') hb.size
theorem OwX.exs {lo : Nat} {w : World} {l : List Xe} {V : Value} (h : OwX lo w l V) : XesC w (Rng lo w.heap.size) l V := by
  obtain ⟨ks, h1, h2, h3, h4⟩ := h
  exact .mk l ks V h1 (RowF.own h2) h3 fun i e k he hk => (h4 i e k he hk).morez fun q hq => ⟨hq.1.1, hq.2⟩
theorem OwS.sts {lo : Nat} {w : World} {l : List Xs} {V : Value} (h : OwS lo w l V) : XssC w (Rng lo w.heap.size) l V := by
  obtain ⟨ks, h1, h2, h3, h4⟩ := h
  have hm : ∀ q, Dz lo V w q → Rng lo w.heap.size q := fun q hq => ⟨hq.1.1, hq.2⟩
  exact .mk l ks V h1 (RowF.own h2) h3 (fun i e k he hk => (h4 i e k he hk).1.morez hm) (fun i e k he hk => (h4 i e k he hk).2.1.morez hm) (fun i e k he hk => (h4 i e k he hk).2.2.morez hm)
theorem xesC_snocz (l : List Xe) (ks : List Value) (hk : ks.length = l.length) (e : Xe) (k : Value) : xesC (l ++ [e]) (ks ++ [k]) = xesC l ks ++ xeC e k := by
  unfold xesC
  rw [List.zipWith_append hk.symm]
  simp
theorem xssC_snocz (l : List Xs) (ks : List Three) (hk : ks.length = l.length) (s : Xs) (k : Three) : xssC (l ++ [s]) (ks ++ [k]) = xssC l ks ++ xsC s k.e k.b k.f := by
  unfold xssC
  rw [List.zipWith_append hk.symm]
  simp
theorem snoc_getz {α : Type} {l : List α} {a b : α} {i : Nat} (h : (l ++ [a])[i]? = some b) : l[i]? = some b ∨ (i = l.length ∧ b = a) := by
  by_cases hi : i < l.length
  · rw [List.getElem?_append_left hi] at h
    exact .inl h
  · rw [List.getElem?_append_right (by omega)] at h
    have h0 : i - l.length = 0 := by
      have := (List.getElem?_eq_some_iff.1 h).1
      simp at this
      omega
    rw [h0] at h
    simp at h
    exact .inr ⟨by omega, h.symm⟩
theorem OwX.push {lo : Nat} {w w' : World} {l : List Xe} {V V' : Value} {ks : List Value} {e : Xe} {k : Value} {news : List Value} {n : Nat} (hk : ks.length = l.length) (ho : w.ownsRow lo 46 5 V l.length (xesC l ks)) (ht : ∀ e ∈ l, Byn e.text) (h4 : ∀ (i : Nat) (e : Xe) (k : Value), l[i]? = some e → ks[i]? = some k → XesC w (Dz lo V w) e.kids k)
    (hn : n = l.length + 1) (ho' : w'.ownsRow lo 46 5 V' n (xesC l ks ++ news)) (hnews : news = xeC e k) (hg : w.grownBy w' V.ownBlock) (hv : V'.ownBlock = V.ownBlock ∨ ∃ g, V'.ownBlock = some g ∧ w.heap.size ≤ g) (he : Byn e.text) (hek : XesC w (Dz lo V w) e.kids k) : OwX lo w' (l ++ [e]) V' := by
  subst hn hnews
  have hS : Same (Dz lo V w) w w' := fun q hq => hg.block q hq.2 hq.1.2
  have hm : ∀ q, Dz lo V w q → Dz lo V' w' q := fun q hq => hq.grow hg.size hv
  refine ⟨ks ++ [k], by simp [hk], by rw [xesC_snocz l ks hk, List.length_append]; exact ho', ?_, ?_⟩
  · intro x hx
    rcases List.mem_append.1 hx with hx | hx
    · exact ht x hx
    · rw [List.mem_singleton.1 hx]; exact he
  · intro i x q hx hq
    rcases snoc_getz hx with hx | ⟨e1, rfl⟩ <;> rcases snoc_getz hq with hq | ⟨e2, rfl⟩
    · exact ((h4 i x q hx hq).same hS).morez hm
    · have := (List.getElem?_eq_some_iff.1 hx).1
      omega
    · have := (List.getElem?_eq_some_iff.1 hq).1
      omega
    · exact (hek.same hS).morez hm
theorem OwS.push {lo : Nat} {w w' : World} {l : List Xs} {V V' : Value} {ks : List Three} {s : Xs} {k : Three} {news : List Value} {n : Nat} (hk : ks.length = l.length) (ho : w.ownsRow lo 48 6 V l.length (xssC l ks)) (ht : ∀ s ∈ l, Byn s.text)
    (h4 : ∀ (i : Nat) (s : Xs) (k : Three), l[i]? = some s → ks[i]? = some k → XesC w (Dz lo V w) s.exprs k.e ∧ XssC w (Dz lo V w) s.body k.b ∧ XssC w (Dz lo V w) s.els k.f)
    (hn : n = l.length + 1) (ho' : w'.ownsRow lo 48 6 V' n (xssC l ks ++ news)) (hnews : news = xsC s k.e k.b k.f) (hg : w.grownBy w' V.ownBlock) (hv : V'.ownBlock = V.ownBlock ∨ ∃ g, V'.ownBlock = some g ∧ w.heap.size ≤ g) (hs : Byn s.text)
    (hek : XesC w (Dz lo V w) s.exprs k.e) (hbk : XssC w (Dz lo V w) s.body k.b) (hfk : XssC w (Dz lo V w) s.els k.f) : OwS lo w' (l ++ [s]) V' := by
  subst hn hnews
  have hS : Same (Dz lo V w) w w' := fun q hq => hg.block q hq.2 hq.1.2
  have hm : ∀ q, Dz lo V w q → Dz lo V' w' q := fun q hq => hq.grow hg.size hv
  refine ⟨ks ++ [k], by simp [hk], by rw [xssC_snocz l ks hk, List.length_append]; exact ho', ?_, ?_⟩
  · intro x hx
    rcases List.mem_append.1 hx with hx | hx
    · exact ht x hx
    · rw [List.mem_singleton.1 hx]; exact hs
  · intro i x q hx hq
    rcases snoc_getz hx with hx | ⟨e1, rfl⟩ <;> rcases snoc_getz hq with hq | ⟨e2, rfl⟩
    · obtain ⟨a, b, c⟩ := h4 i x q hx hq
      exact ⟨(a.same hS).morez hm, (b.same hS).morez hm, (c.same hS).morez hm⟩
    · have := (List.getElem?_eq_some_iff.1 hx).1
      omega
    · have := (List.getElem?_eq_some_iff.1 hq).1
      omega
    · exact ⟨(hek.same hS).morez hm, (hbk.same hS).morez hm, (hfk.same hS).morez hm⟩
mutual
/-- how many expressions there are in one, with itself -/
def szE : Xe → Nat
  | .mk _ _ _ kids _ => 1 + szEs kids
def szEs : List Xe → Nat
  | [] => 0
  | e :: l => szE e + szEs l
end
mutual
def szS : Xs → Nat
  | .mk _ _ _ body els _ => 1 + szSs body + szSs els
def szSs : List Xs → Nat
  | [] => 0
  | s :: l => szS s + szSs l
end
theorem szE_mem : ∀ {l : List Xe} {e : Xe}, e ∈ l → szE e ≤ szEs l
  | x :: l, e, h => by
    unfold szEs
    rcases List.mem_cons.1 h with rfl | h
    · omega
    · have := szE_mem h
      omega
theorem szS_mem : ∀ {l : List Xs} {s : Xs}, s ∈ l → szS s ≤ szSs l
  | x :: l, e, h => by
    unfold szSs
    rcases List.mem_cons.1 h with rfl | h
    · omega
    · have := szS_mem h
      omega
theorem szE_kids (e : Xe) : szEs e.kids < szE e := by
  cases e
  unfold szE
  show szEs _ < _
  simp [Xe.kids]
theorem szS_body (s : Xs) : szSs s.body < szS s ∧ szSs s.els < szS s := by
  cases s
  unfold szS
  simp [Xs.body, Xs.els]
  omega
end Go.Proofs.YtfcpabhkconjmaaGreatDoor
