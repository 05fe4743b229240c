/- What the document's parser reads of a text's tokens is well made: names are names, texts are texts, numbers fit, signs stand where they may; nothing of the program. Conditions: those in each theorem. Pieces of a text, and the tokens that they read as, one behind the other; nothing of the program. Conditions: those in each theorem. How the document's parser reads the tokens of what was shown of an expression: as it, but for places, or too deep; nothing of the program. Conditions: those in each theorem. What is shown of an expression that is well made reads as it; nothing of the program. Conditions: those in each theorem. What is shown of a statement that is well made reads as it; nothing of the program. Conditions: those in each theorem. What is shown of a program that was parsed is parsed as it, but for places, or is too long, or too deep; nothing of the program. Conditions: those in each theorem. What is shown of what was parsed is not much longer than the tokens that it was read of; nothing of the program. Conditions: those in each theorem. Every number that fits is written as its digits (strconv.FormatInt at base 10, by the library's own contract at this program's numbers); the table of powers of ten lies as the program's text lays it. Conditions: those in each theorem. What 'Show' writes of any program that was parsed, the empty one among them. Conditions: the program lies in memory; the powers of ten lie as the program's text lays them. The walk of SyntaxBack: it returns true, and nothing that was there has changed. Conditions: none beyond what its argument is; the tables lie as the program lays them. -/
import Derived.Test.YtoicncfpoklanaaDoorLq
import Derived.Test.YtoicncfpoklanaaDoorSh
import Derived.Test.YtoicncfpoklanaaDoorWo
import Derived.Shelf.LaysM
import Derived.Shelf.Strconv.Itoa4
import Derived.Lib.LaidTab
import Derived.Test.YtoicncfpoklanaaDoorBase
import Derived.Test.YtoicncfpoklanaaDoorWj
import Derived.Test.YtoicncfpoklanaaDoorSn
import Derived.Deep.DeepCutAuto
namespace Go.Proofs.YtoicncfpoklanaaDoor
section
set_option maxRecDepth 100000
set_option linter.unusedSimpArgs false
set_option linter.unusedVariables false

def IsName (s : List Nat) : Prop := (∀ b ∈ s, nameB b = true) ∧ s.length ≤ 16 ∧ isWord s = false ∧ ∃ b r, s = b :: r ∧ letterB b = true
def IsText (s : List Nat) : Prop := (∀ b ∈ s, textB b = true) ∧ s.length ≤ 64
def GoodT (t : Tok) : Prop := (t.kind = 1 → IsName t.text) ∧ (t.kind = 2 → t.num ≤ 9223372036854775807) ∧ (t.kind = 3 → IsText t.text)
theorem value_le : ∀ (ds : List Nat) (n v : Nat), (∀ d ∈ ds, d ≤ 57) → n ≤ 9223372036854775807 → value ds n = some v → v ≤ 9223372036854775807
  | [], n, v, _, hn, h => by simp [value] at h; omega
  | d :: r, n, v, hd, hn, h => by
    have h1 := hd d (by simp)
    unfold value at h
    split at h
    · cases h
    · exact value_le r _ v (fun x hx => hd x (by simp [hx])) (by omega) h
theorem readT_good {r : List Nat} (h : (readT r).err = 0) (p : Nat) : GoodT ⟨(readT r).kind, (readT r).text, (readT r).num, p⟩ := by
  cases r with
  | nil => simp [readT, bad] at h
  | cons b r =>
    rw [readT_cons] at h ⊢
    by_cases h1 : letterB b = true
    · simp only [h1, if_true] at h ⊢
      unfold nameT at h ⊢
      split at h
      · simp [bad] at h
      · rename_i hn
        rw [if_neg hn]
        have hr : run nameB (b :: r) = run nameB r + 1 := by simp [run, nameB, h1]
        refine ⟨fun hk => ?_, fun hk => ?_, fun hk => ?_⟩
        · dsimp only at hk ⊢
          cases hw : isWord ((b :: r).take (run nameB (b :: r))) with
          | true => rw [hw] at hk; simp at hk
          | false =>
            refine ⟨run_all nameB _, ?_, hw, b, r.take (run nameB r), ?_, h1⟩
            · have := List.length_take_le (run nameB (b :: r)) (b :: r); omega
            · rw [hr, List.take_succ_cons]
        · dsimp only at hk
          cases hw : isWord ((b :: r).take (run nameB (b :: r))) <;> rw [hw] at hk <;> simp at hk
        · dsimp only at hk
          cases hw : isWord ((b :: r).take (run nameB (b :: r))) <;> rw [hw] at hk <;> simp at hk
    · rw [if_neg h1] at h ⊢
      by_cases h2 : digitB b = true
      · simp only [h2, if_true] at h ⊢
        unfold numT at h ⊢
        cases hv : value ((b :: r).take (run digitB (b :: r))) 0 with
        | none => rw [hv] at h; simp [bad] at h
        | some v =>
          refine ⟨fun hk => by simp at hk, fun hk => ?_, fun hk => by simp at hk⟩
          exact value_le _ 0 v (fun d hd => by have := run_all digitB _ d hd; simp [digitB] at this; omega) (by omega) hv
      · rw [if_neg h2] at h ⊢
        by_cases h3 : b = 34
        · simp only [h3, if_true] at h ⊢
          unfold textT at h ⊢
          split at h
          · rename_i hq
            rw [if_pos hq]
            split at h
            · simp [bad] at h
            · rename_i hn
              rw [if_neg hn]
              refine ⟨fun hk => by simp at hk, fun hk => by simp at hk, fun hk => ⟨run_all textB _, ?_⟩⟩
              have := List.length_take_le (run textB (List.drop 1 (34 :: r))) (List.drop 1 (34 :: r))
              dsimp only
              omega
          · simp [bad] at h
        · rw [if_neg h3] at h ⊢
          unfold signT at h ⊢
          split at h
          · simp [bad] at h
          · rename_i hn
            rw [if_neg hn]
            exact ⟨fun hk => by simp at hk, fun hk => by simp at hk, fun hk => by simp at hk⟩
theorem lexed_good (l : List Nat) : ∀ t ∈ (lexed l).toks, GoodT t := lexed_all fun p hp he => readT_good he p

def binS : List (List Nat) := sOr ++ sAnd ++ sCmp ++ sSum ++ sProd
inductive WE : Ex → Prop
  | num (n p : Nat) (h : n ≤ 9223372036854775807) : WE (.mk 1 n [] [] p)
  | bool (n p : Nat) (h : n = 0 ∨ n = 1) : WE (.mk 2 n [] [] p)
  | text (s : List Nat) (p : Nat) (h : IsText s) : WE (.mk 3 0 s [] p)
  | name (s : List Nat) (p : Nat) (h : IsName s) : WE (.mk 4 0 s [] p)
  | call (s : List Nat) (l : List Ex) (p : Nat) (h : IsName s) (hl : ∀ x ∈ l, WE x) : WE (.mk 5 0 s l p)
  | two (s : List Nat) (x y : Ex) (p : Nat) (h : s ∈ binS) (hx : WE x) (hy : WE y) : WE (.mk 6 0 s [x, y] p)
  | one (s : List Nat) (x : Ex) (p : Nat) (h : s ∈ sOne) (hx : WE x) : WE (.mk 7 0 s [x] p)
  | word (k : Nat) (x : Ex) (p : Nat) (h : k = 8 ∨ k = 9 ∨ k = 10) (hx : WE x) : WE (.mk k 0 [] [x] p)
inductive WS : St → Prop
  | bind (s : List Nat) (x : Ex) (p : Nat) (h : IsName s) (hx : WE x) : WS (.mk 1 s [x] [] [] p)
  | set (s : List Nat) (x : Ex) (p : Nat) (h : IsName s) (hx : WE x) : WS (.mk 2 s [x] [] [] p)
  | choice (x : Ex) (l m : List St) (p : Nat) (hx : WE x) (hl : ∀ y ∈ l, WS y) (hm : ∀ y ∈ m, WS y) : WS (.mk 3 [] [x] l m p)
  | loop (s : List Nat) (x y : Ex) (l : List St) (p : Nat) (h : IsName s) (hx : WE x) (hy : WE y) (hl : ∀ y ∈ l, WS y) : WS (.mk 4 s [x, y] l [] p)
  | ret0 (p : Nat) : WS (.mk 5 [] [] [] [] p)
  | ret (x : Ex) (p : Nat) (hx : WE x) : WS (.mk 5 [] [x] [] [] p)
  | put (x y : Ex) (p : Nat) (hx : WE x) (hy : WE y) : WS (.mk 6 [] [x, y] [] [] p)
  | del (x : Ex) (p : Nat) (hx : WE x) : WS (.mk 7 [] [x] [] [] p)
  | expr (x : Ex) (p : Nat) (hx : WE x) : WS (.mk 8 [] [x] [] [] p)
def WF (f : Fu) : Prop := IsName f.name ∧ (∀ p ∈ f.params, IsName p.1 ∧ 1 ≤ p.2 ∧ p.2 ≤ 3) ∧ f.result ≤ 3 ∧ ∀ s ∈ f.body, WS s

/-- what a reader reads of good tokens is as Q says, and the rest are good -/
def Yd {α : Type} (Q : α → Prop) (p : Par α) : Prop := ∀ ts v r, (∀ t ∈ ts, GoodT t) → p ts = .ok v r → Q v ∧ ∀ t ∈ r, GoodT t
theorem good_tail {ts : List Tok} (h : ∀ t ∈ ts, GoodT t) : ∀ t ∈ ts.tail, GoodT t := fun t ht => h t (List.mem_of_mem_tail ht)
theorem good_peek {z : Nat} {ts : List Tok} (h : ∀ t ∈ ts, GoodT t) : GoodT (peekT z ts) := by
  cases ts with
  | nil => exact ⟨fun h => by simp [peekT, noTok] at h, fun h => by simp [peekT, noTok] at h, fun h => by simp [peekT, noTok] at h⟩
  | cons t r => exact h t (by simp)
theorem sees_mem {z : Nat} {ss : List (List Nat)} {ts : List Tok} (h : seesT z ss ts = true) : (peekT z ts).text ∈ ss := by
  unfold seesT isOne at h
  simp at h
  exact h.2
section
variable {α β : Type} {Q : α → Prop} {R : β → Prop}
theorem Yd.pure {v : α} (h : Q v) : Yd Q (fun ts => .ok v ts) := fun ts v r hg hr => by
  injection hr with h1 h2
  subst h1 h2
  exact ⟨h, hg⟩
theorem Yd.bind {p : Par α} {f : α → Par β} (hp : Yd Q p) (hf : ∀ v, Q v → Yd R (f v)) : Yd R (fun ts => (p ts).bind f) := fun ts v r hg hr => by
  obtain ⟨a, s, h1, h2⟩ := bind_inv hr
  obtain ⟨q, hg2⟩ := hp ts a s hg h1
  exact hf a q s v r hg2 h2
theorem Yd.ite {c : Prop} [Decidable c] {p q : Par α} (hp : c → Yd Q p) (hq : ¬c → Yd Q q) : Yd Q (fun ts => if c then p ts else q ts) := fun ts v r hg hr => by
  by_cases h : c
  · simp only [h, if_true] at hr; exact hp h ts v r hg hr
  · simp only [h, if_false] at hr; exact hq h ts v r hg hr
theorem Yd.look {z : Nat} {ss : List (List Nat)} {p q : Par α} (hp : Yd Q p) (hq : Yd Q q) : Yd Q (fun ts => if seesT z ss ts then p ts.tail else q ts) := fun ts v r hg hr => by
  dsimp only at hr
  split at hr
  · exact hp _ v r (good_tail hg) hr
  · exact hq ts v r hg hr
theorem Yd.weak {p : Par α} {Q' : α → Prop} (h : Yd Q p) (hw : ∀ v, Q v → Q' v) : Yd Q' p := fun ts v r hg hr => ⟨hw v (h ts v r hg hr).1, (h ts v r hg hr).2⟩
end
theorem yd_want (z : Nat) (s : List Nat) : Yd (fun _ => True) (wantT z s) := fun ts v r hg hr => by
  unfold wantT at hr
  split at hr
  · injection hr with _ h2
    subst h2
    exact ⟨trivial, good_tail hg⟩
  · cases hr
theorem yd_take (z k : Nat) : Yd (fun t => t.kind = k ∧ GoodT t) (takeT z k) := fun ts v r hg hr => by
  unfold takeT at hr
  split at hr
  · rename_i hk
    injection hr with h1 h2
    subst h1 h2
    exact ⟨⟨hk, good_peek hg⟩, good_tail hg⟩
  · cases hr
theorem yd_name (z : Nat) : Yd IsName (nameP z) := Yd.bind (yd_take z 1) fun t ht => Yd.pure (ht.2.1 ht.1)
theorem yd_moreG (z : Nat) (ss : List (List Nat)) (hs : ∀ s ∈ ss, s ∈ binS) (p : Par Ex) (hp : Yd WE p) : ∀ f x, WE x → Yd WE (moreG z ss p f x)
  | 0, x, hx => Yd.pure hx
  | f + 1, x, hx => fun ts v r hg hr => by
    unfold moreG at hr
    split at hr
    · rename_i hse
      obtain ⟨y, s, h1, h2⟩ := bind_inv hr
      obtain ⟨hy, hg2⟩ := hp _ _ _ (good_tail hg) h1
      exact yd_moreG z ss hs p hp f _ (.two _ x y _ (hs _ (sees_mem hse)) hx hy) s v r hg2 h2
    · exact Yd.pure hx ts v r hg hr
theorem yd_grouped (z : Nat) (ss : List (List Nat)) (hs : ∀ s ∈ ss, s ∈ binS) (p : Par Ex) (hp : Yd WE p) : Yd WE (groupedP z ss p) := fun ts v r hg hr => by
  unfold groupedP at hr
  obtain ⟨x, s, h1, h2⟩ := bind_inv hr
  obtain ⟨hx, hg2⟩ := hp _ _ _ hg h1
  exact yd_moreG z ss hs p hp _ x hx s v r hg2 h2
theorem inOr : ∀ s ∈ sOr, s ∈ binS := by intro s h; simp [binS, h]
theorem inAnd : ∀ s ∈ sAnd, s ∈ binS := by intro s h; simp [binS, h]
theorem inCmp : ∀ s ∈ sCmp, s ∈ binS := by intro s h; simp [binS, h]
theorem inSum : ∀ s ∈ sSum, s ∈ binS := by intro s h; simp [binS, h]
theorem inProd : ∀ s ∈ sProd, s ∈ binS := by intro s h; simp [binS, h]
theorem yd_sum (z : Nat) (one : Par Ex) (h : Yd WE one) : Yd WE (sumP z one) := yd_grouped z _ inSum _ (yd_grouped z _ inProd _ h)
theorem yd_compare (z : Nat) (one : Par Ex) (h : Yd WE one) : Yd WE (compareP z one) := fun ts v r hg hr => by
  unfold compareP at hr
  obtain ⟨x, s, h1, h2⟩ := bind_inv hr
  obtain ⟨hx, hg2⟩ := yd_sum z one h _ _ _ hg h1
  split at h2
  · rename_i hse
    unfold joinedP at h2
    obtain ⟨t, s2, h3, h4⟩ := bind_inv h2
    obtain ⟨y, s3, h5, h6⟩ := bind_inv h4
    obtain ⟨_, hg3⟩ := yd_take z 4 _ _ _ hg2 h3
    obtain ⟨hy, hg4⟩ := yd_sum z one h _ _ _ hg3 h5
    have ht : t = peekT z s := by
      unfold takeT at h3
      split at h3
      · injection h3 with h3; exact h3.symm
      · cases h3
    injection h6 with h6 h7
    subst h6 h7
    exact ⟨.two _ x y _ (inCmp _ (by rw [ht]; exact sees_mem hse)) hx hy, hg4⟩
  · injection h2 with h6 h7
    subst h6 h7
    exact ⟨hx, hg2⟩
theorem yd_levels (z : Nat) (one : Par Ex) (h : Yd WE one) : Yd WE (levelsP z one) := yd_grouped z _ inOr _ (yd_grouped z _ inAnd _ (yd_compare z one h))
def All {α : Type} (Q : α → Prop) (l : List α) : Prop := ∀ x ∈ l, Q x
theorem All.snoc {α : Type} {Q : α → Prop} {l : List α} {x : α} (h : All Q l) (hx : Q x) : All Q (l ++ [x]) := fun y hy => by
  rcases List.mem_append.1 hy with h1 | h1
  · exact h y h1
  · rw [List.mem_singleton.1 h1]; exact hx
theorem yd_moreL {α : Type} {Q : α → Prop} (z : Nat) (p : Par α) (hp : Yd Q p) : ∀ f l, All Q l → Yd (All Q) (moreL z p f l)
  | 0, l, hl => Yd.bind (yd_want z _) fun _ _ => Yd.pure hl
  | f + 1, l, hl => fun ts v r hg hr => by
    unfold moreL at hr
    split at hr
    · obtain ⟨y, s, h1, h2⟩ := bind_inv hr
      obtain ⟨hy, hg2⟩ := hp _ _ _ (good_tail hg) h1
      exact yd_moreL z p hp f _ (hl.snoc hy) s v r hg2 h2
    · exact Yd.bind (R := All Q) (yd_want z _) (fun _ _ => Yd.pure hl) ts v r hg hr
theorem yd_list {α : Type} {Q : α → Prop} (z : Nat) (p : Par α) (hp : Yd Q p) : Yd (All Q) (listP z p) := by
  refine Yd.bind (yd_want z [40]) fun _ _ => ?_
  refine Yd.look (Yd.pure (fun x hx => by cases hx)) fun ts v r hg hr => ?_
  obtain ⟨x, s, h1, h2⟩ := bind_inv hr
  obtain ⟨hx, hg2⟩ := hp _ _ _ hg h1
  exact yd_moreL z p hp _ [x] (fun y hy => by rw [List.mem_singleton.1 hy]; exact hx) s v r hg2 h2
theorem yd_enclosed (z : Nat) (e : Par Ex) (he : Yd WE e) : Yd (fun l => ∃ x, l = [x] ∧ WE x) (enclosedP z e) :=
  Yd.bind (yd_want z _) fun _ _ => Yd.bind he fun x hx => Yd.bind (yd_want z _) fun _ _ => Yd.pure ⟨x, rfl, hx⟩
theorem yd_pair (z : Nat) (e : Par Ex) (he : Yd WE e) : Yd (fun l => ∃ x y, l = [x, y] ∧ WE x ∧ WE y) (pairP z e) :=
  Yd.bind (yd_want z _) fun _ _ => Yd.bind he fun x hx => Yd.bind (yd_want z _) fun _ _ => Yd.bind he fun y hy => Yd.bind (yd_want z _) fun _ _ => Yd.pure ⟨x, y, rfl, hx, hy⟩
theorem yd_named (z : Nat) (e : Par Ex) (he : Yd WE e) : Yd WE (namedP z e) := by
  refine Yd.bind (yd_take z 1) fun t ht => fun ts v r hg hr => ?_
  split at hr
  · exact Yd.bind (R := WE) (yd_list z e he) (fun l hl => Yd.pure (.call t.text l t.place (ht.2.1 ht.1) hl)) ts v r hg hr
  · exact Yd.pure (.name t.text t.place (ht.2.1 ht.1)) ts v r hg hr
theorem WE.at' {e : Ex} (h : WE e) (q : Nat) : WE (e.at q) := by
  cases h with
  | num n p h => exact .num n q h
  | bool n p h => exact .bool n q h
  | text s p h => exact .text s q h
  | name s p h => exact .name s q h
  | call s l p h hl => exact .call s l q h hl
  | two s x y p h hx hy => exact .two s x y q h hx hy
  | one s x p h hx => exact .one s x q h hx
  | word k x p h hx => exact .word k x q h hx
theorem yd_worded (z : Nat) (e : Par Ex) (he : Yd WE e) : Yd WE (wordedP z e) := by
  have hE : ∀ k, (k = 8 ∨ k = 9 ∨ k = 10) → Yd WE (fun ts => (enclosedP z e ts).bind fun l r => .ok (.mk k 0 [] l 0) r) := fun k hk => Yd.bind (yd_enclosed z e he) fun l hl => by
    obtain ⟨x, rfl, hx⟩ := hl
    exact Yd.pure (.word k x 0 hk hx)
  exact Yd.look (Yd.pure (.bool 1 0 (.inr rfl))) (Yd.look (Yd.pure (.bool 0 0 (.inl rfl))) (Yd.look (hE 8 (.inl rfl)) (Yd.look (hE 9 (.inr (.inl rfl))) (Yd.bind (yd_want z _) fun _ _ => hE 10 (.inr (.inr rfl))))))
theorem yd_primary (z : Nat) (e : Par Ex) (he : Yd WE e) : Yd WE (primaryP z e) := fun ts v r hg hr => by
  have hp := good_peek (z := z) hg
  unfold primaryP at hr
  split at hr
  · rename_i hk
    injection hr with h1 h2
    subst h1 h2
    exact ⟨.num _ _ (hp.2.1 hk), good_tail hg⟩
  · split at hr
    · rename_i hk
      injection hr with h1 h2
      subst h1 h2
      exact ⟨.text _ _ (hp.2.2 hk), good_tail hg⟩
    · split at hr
      · exact yd_named z e he ts v r hg hr
      · split at hr
        · exact Yd.bind (R := WE) (yd_enclosed z e he) (fun l hl => by obtain ⟨x, rfl, hx⟩ := hl; exact Yd.pure hx) ts v r hg hr
        · exact Yd.bind (R := WE) (yd_worded z e he) (fun x hx => Yd.pure (hx.at' _)) ts v r hg hr
theorem yd_one (z : Nat) (e o : Par Ex) (he : Yd WE e) (ho : Yd WE o) : Yd WE (oneS z e o) := fun ts v r hg hr => by
  unfold oneS at hr
  split at hr
  · rename_i hs
    obtain ⟨x, s, h1, h2⟩ := bind_inv hr
    obtain ⟨hx, hg2⟩ := ho _ _ _ (good_tail hg) h1
    injection h2 with h3 h4
    subst h3 h4
    exact ⟨.one _ x _ (sees_mem hs) hx, hg2⟩
  · exact yd_primary z e he ts v r hg hr
theorem yd_both (z : Nat) : ∀ g, Yd WE (both z g).1 ∧ Yd WE (both z g).2
  | 0 => ⟨fun ts v r _ hr => by simp [both, failT] at hr, fun ts v r _ hr => by simp [both, failT] at hr⟩
  | g + 1 => by
    have ih := yd_both z g
    have h := yd_one z _ _ ih.1 ih.2
    exact ⟨yd_levels z _ h, h⟩
theorem yd_expr (z g : Nat) : Yd WE (exprP z g) := (yd_both z g).1
theorem yd_type (z : Nat) : Yd (fun t => 1 ≤ t ∧ t ≤ 3) (typeP z) :=
  Yd.look (Yd.pure (by omega)) (Yd.look (Yd.pure (by omega)) (Yd.bind (yd_want z _) fun _ _ => Yd.pure (by omega)))
theorem yd_set (z : Nat) (e : Par Ex) (he : Yd WE e) : Yd (fun x => IsName x.1 ∧ WE x.2) (setP z e) :=
  Yd.bind (yd_name z) fun s hs => Yd.bind (yd_want z _) fun _ _ => Yd.bind he fun x hx => Yd.pure ⟨hs, hx⟩
theorem WS.at' {s : St} (h : WS s) (q : Nat) : WS (s.at q) := by
  cases h with
  | bind s x p h hx => exact .bind s x q h hx
  | set s x p h hx => exact .set s x q h hx
  | choice x l m p hx hl hm => exact .choice x l m q hx hl hm
  | loop s x y l p h hx hy hl => exact .loop s x y l q h hx hy hl
  | ret0 p => exact .ret0 q
  | ret x p hx => exact .ret x q hx
  | put x y p hx hy => exact .put x y q hx hy
  | del x p hx => exact .del x q hx
  | expr x p hx => exact .expr x q hx
theorem yd_simple (z : Nat) (e : Par Ex) (he : Yd WE e) : Yd WS (simpleP z e) := by
  refine Yd.look (Yd.bind (yd_set z e he) fun x hx => Yd.pure (.bind _ _ 0 hx.1 hx.2)) ?_
  refine Yd.look (p := fun ts => if seesT z [[59]] ts then Res.ok (St.mk 5 [] [] [] [] 0) ts else (e ts).bind fun x r => Res.ok (St.mk 5 [] [x] [] [] 0) r) (fun ts v r hg hr => ?_) ?_
  · dsimp only at hr
    split at hr
    · injection hr with h1 h2
      subst h1 h2
      exact ⟨.ret0 0, hg⟩
    · exact Yd.bind (R := WS) he (fun x hx => Yd.pure (.ret x 0 hx)) ts v r hg hr
  refine Yd.look (Yd.bind (yd_pair z e he) fun l hl => ?_) ?_
  · obtain ⟨x, y, rfl, hx, hy⟩ := hl
    exact Yd.pure (.put x y 0 hx hy)
  refine Yd.look (Yd.bind (yd_enclosed z e he) fun l hl => ?_) ?_
  · obtain ⟨x, rfl, hx⟩ := hl
    exact Yd.pure (.del x 0 hx)
  intro ts v r hg hr
  dsimp only at hr
  split at hr
  · exact Yd.bind (R := WS) (yd_set z e he) (fun x hx => Yd.pure (.set _ _ 0 hx.1 hx.2)) ts v r hg hr
  · exact Yd.bind (R := WS) he (fun x hx => Yd.pure (.expr x 0 hx)) ts v r hg hr
theorem yd_choice (z : Nat) (e : Par Ex) (b : Par (List St)) (he : Yd WE e) (hb : Yd (All WS) b) : Yd WS (choiceP z e b) :=
  Yd.bind he fun x hx => Yd.bind hb fun l hl => Yd.look (Yd.bind hb fun m hm => Yd.pure (.choice x l m 0 hx hl hm)) (Yd.pure (.choice x l [] 0 hx hl (fun y hy => by cases hy)))
theorem yd_loop (z : Nat) (e : Par Ex) (b : Par (List St)) (he : Yd WE e) (hb : Yd (All WS) b) : Yd WS (loopP z e b) :=
  Yd.bind (yd_set z e he) fun x hx => Yd.bind (yd_want z _) fun _ _ => Yd.bind he fun y hy => Yd.bind hb fun l hl => Yd.pure (.loop _ _ y l 0 hx.1 hx.2 hy hl)
theorem yd_stmt (z : Nat) (e : Par Ex) (b : Par (List St)) (he : Yd WE e) (hb : Yd (All WS) b) : Yd WS (stmtP z e b) := fun ts v r hg hr => by
  unfold stmtP at hr
  obtain ⟨s, q, h1, h2⟩ := bind_inv hr
  have h3 : WS s ∧ ∀ t ∈ q, GoodT t := by
    refine (Yd.look (Q := WS) (yd_choice z e b he hb) (Yd.look (yd_loop z e b he hb) (Yd.bind (yd_simple z e he) fun s hs => Yd.bind (yd_want z _) fun _ _ => Yd.pure hs))) ts s q hg h1
  injection h2 with h4 h5
  subst h4 h5
  exact ⟨h3.1.at' _, h3.2⟩
theorem yd_moreS (z : Nat) (p : Par St) (hp : Yd WS p) : ∀ f l, All WS l → Yd (All WS) (moreS z p f l)
  | 0, l, hl => fun ts v r hg hr => by
    unfold moreS at hr
    split at hr
    · exact Yd.pure hl _ v r (good_tail hg) hr
    · obtain ⟨_, _, _, h2⟩ := bind_inv hr
      simp [failT] at h2
  | f + 1, l, hl => fun ts v r hg hr => by
    unfold moreS at hr
    split at hr
    · exact Yd.pure hl _ v r (good_tail hg) hr
    · obtain ⟨y, s, h1, h2⟩ := bind_inv hr
      obtain ⟨hy, hg2⟩ := hp _ _ _ hg h1
      exact yd_moreS z p hp f _ (hl.snoc hy) s v r hg2 h2
theorem yd_block (z : Nat) : ∀ g, Yd (All WS) (blockP z g)
  | 0 => fun ts v r _ hr => by simp [blockP, failT] at hr
  | g + 1 => Yd.bind (yd_want z _) fun _ _ => fun ts v r hg hr => yd_moreS z _ (yd_stmt z _ _ (yd_expr z g) (yd_block z g)) _ [] (fun x hx => by cases hx) ts v r hg hr
theorem yd_param (z : Nat) : Yd (fun p : List Nat × Nat => IsName p.1 ∧ 1 ≤ p.2 ∧ p.2 ≤ 3) (paramP z) :=
  Yd.bind (yd_name z) fun s hs => Yd.bind (yd_want z _) fun _ _ => Yd.bind (yd_type z) fun t ht => Yd.pure ⟨hs, ht⟩
theorem yd_func (z : Nat) : Yd WF (funcP z) := fun ts v r hg hr => by
  unfold funcP at hr
  obtain ⟨_, q0, h0, hr⟩ := bind_inv hr
  obtain ⟨_, g0⟩ := yd_want z _ _ _ _ hg h0
  obtain ⟨s, q1, h1, hr⟩ := bind_inv hr
  obtain ⟨hs, g1⟩ := yd_name z _ _ _ g0 h1
  obtain ⟨l, q2, h2, hr⟩ := bind_inv hr
  obtain ⟨hl, g2⟩ := yd_list z _ (yd_param z) _ _ _ g1 h2
  obtain ⟨t, q3, h3, hr⟩ := bind_inv hr
  obtain ⟨ht, g3⟩ := (Yd.look (Q := fun t => t ≤ 3) (p := typeP z) (q := fun ts => .ok 0 ts) ((yd_type z).weak fun t h => h.2) (Yd.pure (by omega))) _ _ _ g2 h3
  obtain ⟨b, q4, h4, hr⟩ := bind_inv hr
  obtain ⟨hb, g4⟩ := yd_block z 32 _ _ _ g3 h4
  injection hr with e1 e2
  subst e1 e2
  exact ⟨⟨hs, hl, ht, hb⟩, g4⟩
theorem yd_moreF (z : Nat) : ∀ f l, All WF l → Yd (All WF) (moreF z f l)
  | 0, l, hl => Yd.pure hl
  | f + 1, l, hl => fun ts v r hg hr => by
    unfold moreF at hr
    split at hr
    · injection hr with h1 h2
      subst h1 h2
      exact ⟨hl, fun t ht => by cases ht⟩
    · obtain ⟨y, s, h1, h2⟩ := bind_inv hr
      obtain ⟨hy, hg2⟩ := yd_func z _ _ _ hg h1
      exact yd_moreF z f _ (hl.snoc hy) s v r hg2 h2
/-- what a text is read as is well made -/
theorem parsed_well (l : List Nat) : All WF (parsed l).funcs := by
  unfold parsed
  split
  · rename_i he
    cases hp : programP l.length (lexed l).toks with
    | ok fs r => exact (yd_moreF l.length _ [] (fun x hx => by cases hx) _ fs r (lexed_good l) hp).1
    | bad c p => exact fun x hx => by cases hx
  · exact fun x hx => by cases hx
end

section
set_option maxRecDepth 100000
set_option linter.unusedSimpArgs false
set_option linter.unusedVariables false

/-- a text that reads as tokens, whatever their places -/
inductive Lex : List Nat → List Tok → Prop
  | nil : Lex [] []
  | blank {b : Nat} {s : List Nat} {ts : List Tok} (hb : blankB b = true) (h : Lex s ts) : Lex (b :: s) ts
  | tok {s a r : List Nat} {ts : List Tok} {k n : Nat} {t : List Nat} (hs : s = a ++ r) (hr : readT s = ⟨0, k, t, n, a.length⟩) (h : Lex r ts) : Lex s (⟨k, t, n, 0⟩ :: ts)
theorem whiteB {b : Nat} (h : blankB b = true) (s : List Nat) : white false (b :: s) = white false s + 1 := by
  have h1 : (b == 35) = false := by
    simp [blankB] at h ⊢
    omega
  conv => lhs; unfold white
  simp [h1, h]
theorem whiteN {b : Nat} (h : blankB b = false) (h2 : b ≠ 35) (s : List Nat) : white false (b :: s) = 0 := by
  have h1 : (b == 35) = false := by simpa using h2
  unfold white
  simp [h1, h]
theorem read_first {b : Nat} {r : List Nat} (h : (readT (b :: r)).err = 0) : blankB b = false ∧ b ≠ 35 := by
  by_cases hb : b = 9 ∨ b = 10 ∨ b = 13 ∨ b = 32 ∨ b = 35
  · exfalso
    rw [readT_cons] at h
    have h1 : letterB b = false := by simp [letterB]; omega
    have h2 : digitB b = false := by simp [digitB]; omega
    have h3 : ¬ b = 34 := by omega
    simp only [h1, h2, h3, if_false, Bool.false_eq_true] at h
    have h4 : signOf (b :: r) = [] := by
      unfold signOf
      have e1 : twos.contains ((b :: r).take 2) = false := by
        cases r with
        | nil => rcases hb with rfl | rfl | rfl | rfl | rfl <;> decide
        | cons c r => rcases hb with rfl | rfl | rfl | rfl | rfl <;> simp [twos]
      have e2 : ones.contains ((b :: r).take 1) = false := by rcases hb with rfl | rfl | rfl | rfl | rfl <;> simp [ones]
      rw [e1, e2]
      simp
    unfold signT at h
    rw [if_pos h4] at h
    simp [bad] at h
  · simp [blankB]
    omega
theorem skip_next {l : List Nat} {p b : Nat} {s : List Nat} (h : l.drop p = b :: s) (hb : blankB b = true) : skip l p = skip l (p + 1) ∧ l.drop (p + 1) = s := by
  have h1 : l.drop (p + 1) = s := by rw [← List.drop_drop, h]; rfl
  refine ⟨?_, h1⟩
  unfold skip
  rw [h, h1, whiteB hb]
  omega
theorem lex_rest {s : List Nat} {ts : List Tok} (h : Lex s ts) : ∀ (l : List Nat) (p : Nat) (acc : List Tok), l.drop p = s → p ≤ l.length →
    (∃ q, rest l (skip l p) acc = ⟨2, [], q⟩) ∨ ∃ us, rest l (skip l p) acc = ⟨0, acc ++ us, 0⟩ ∧ Alike ts us := by
  induction h with
  | nil =>
    intro l p acc hd hp
    have hl : l.length ≤ p := by simpa using hd
    have hs : skip l p = p := by unfold skip; rw [hd]; rfl
    refine .inr ⟨[], ?_, .nil⟩
    rw [hs, rest_end acc hl]
    simp
  | blank hb _ ih =>
    intro l p acc hd hp
    obtain ⟨h1, h2⟩ := skip_next hd hb
    rw [h1]
    refine ih l (p + 1) acc h2 ?_
    have : p < l.length := by
      rcases Nat.lt_or_ge p l.length with h | h
      · exact h
      · rw [List.drop_eq_nil_of_le h] at hd; cases hd
    omega
  | @tok s a r ts k n t hs hr _ ih =>
    intro l p acc hd hp
    have hne : s ≠ [] := by
      intro e
      rw [e] at hr
      simp [readT, bad] at hr
    have hlt : p < l.length := by
      rcases Nat.lt_or_ge p l.length with h | h
      · exact h
      · rw [List.drop_eq_nil_of_le h] at hd; exact absurd hd.symm hne
    have hsk : skip l p = p := by
      obtain ⟨b, s', rfl⟩ := List.exists_cons_of_ne_nil hne
      have h1 := read_first (b := b) (r := s') (by rw [hr])
      unfold skip
      rw [hd, whiteN h1.1 h1.2]
      rfl
    rw [hsk]
    have he : (readT (l.drop p)).err = 0 := by rw [hd, hr]
    by_cases hm : acc.length = 2048
    · exact .inl ⟨p, rest_many hlt he hm⟩
    · rw [rest_next hlt he hm, hd, hr]
      dsimp only
      have hd2 : l.drop (p + a.length) = r := by rw [← List.drop_drop, hd, hs]; simp
      have hp2 : p + a.length ≤ l.length := by
        have := congrArg List.length hd
        rw [hs] at this
        simp at this
        omega
      rcases ih l (p + a.length) (acc ++ [⟨k, t, n, p⟩]) hd2 hp2 with ⟨q, h⟩ | ⟨us, h, hal⟩
      · exact .inl ⟨q, h⟩
      · refine .inr ⟨⟨k, t, n, p⟩ :: us, by rw [h]; simp, .cons ⟨rfl, rfl, rfl⟩ hal⟩
theorem lexed_lex {s : List Nat} {ts : List Tok} (h : Lex s ts) : (lexed s).err = 2 ∨ ((lexed s).err = 0 ∧ Alike ts (lexed s).toks) := by
  by_cases hl : s.length ≤ 4096
  · rw [lexed_rest hl]
    rcases lex_rest h s 0 [] rfl (Nat.zero_le _) with ⟨q, h⟩ | ⟨us, h, hal⟩
    · rw [h]; exact .inl rfl
    · rw [h]; exact .inr ⟨rfl, by simpa using hal⟩
  · unfold lexed
    rw [if_pos (by omega)]
    exact .inl rfl

/-- nothing that would make a name or a number longer -/
def Brk (r : List Nat) : Prop := ∀ b, r.head? = some b → nameB b = false
theorem Brk.cons {b : Nat} (h : nameB b = false) (r : List Nat) : Brk (b :: r) := fun c hc => by simp at hc; subst hc; exact h
theorem Brk.nil : Brk [] := fun c hc => by simp at hc
/-- a piece that reads as tokens, whatever stands behind it -/
def Ps (s : List Nat) (ts : List Tok) : Prop := ∀ r us, Lex r us → Lex (s ++ r) (ts ++ us)
/-- a piece that reads as tokens, if nothing behind it makes it longer -/
def Pc (s : List Nat) (ts : List Tok) : Prop := ∀ r us, Brk r → Lex r us → Lex (s ++ r) (ts ++ us)
theorem Ps.pc {s : List Nat} {ts : List Tok} (h : Ps s ts) : Pc s ts := fun r us _ hr => h r us hr
theorem Ps.empty : Ps [] [] := fun r us h => h
theorem Ps.app {a b : List Nat} {ts us : List Tok} (h : Ps a ts) (k : Ps b us) : Ps (a ++ b) (ts ++ us) := fun r vs hr => by
  rw [List.append_assoc, List.append_assoc]; exact h _ _ (k r vs hr)
theorem Ps.appc {a b : List Nat} {ts us : List Tok} (h : Ps a ts) (k : Pc b us) : Pc (a ++ b) (ts ++ us) := fun r vs hb hr => by
  rw [List.append_assoc, List.append_assoc]; exact h _ _ (k r vs hb hr)
theorem Pc.app {a b : List Nat} {ts us : List Tok} (h : Pc a ts) (k : Ps b us) (hb : ∀ r, Brk (b ++ r)) : Ps (a ++ b) (ts ++ us) := fun r vs hr => by
  rw [List.append_assoc, List.append_assoc]; exact h _ _ (hb r) (k r vs hr)
theorem Pc.appc {a b : List Nat} {ts us : List Tok} (h : Pc a ts) (k : Pc b us) (hb : ∀ r, Brk (b ++ r)) : Pc (a ++ b) (ts ++ us) := fun r vs hr hl => by
  rw [List.append_assoc, List.append_assoc]; exact h _ _ (hb r) (k r vs hr hl)
theorem Ps.lex {s : List Nat} {ts : List Tok} (h : Ps s ts) : Lex s ts := by have := h [] [] .nil; simpa using this
abbrev sgn (s : List Nat) : Tok := ⟨4, s, 0, 0⟩
abbrev nm (s : List Nat) : Tok := ⟨1, s, 0, 0⟩
abbrev nmb (n : Nat) : Tok := ⟨2, [], n, 0⟩
abbrev txt (s : List Nat) : Tok := ⟨3, s, 0, 0⟩
theorem brkc {b : Nat} (h : nameB b = false) (s r : List Nat) : Brk ((b :: s) ++ r) := Brk.cons h _

theorem sp : Ps [32] [] := fun r us h => .blank (by decide) h
theorem nl : Ps [10] [] := fun r us h => .blank (by decide) h
theorem readT_sign {b : Nat} {r : List Nat} (h1 : letterB b = false) (h2 : digitB b = false) (h3 : b ≠ 34) : readT (b :: r) = signT (b :: r) := by
  rw [readT_cons, h1, h2]
  simp [h3]
/-- a sign of one byte that is no beginning of a longer one -/
theorem sign1 {b : Nat} (hb : b ∈ [40, 41, 123, 125, 44, 59, 58, 43, 45, 42, 47, 37]) : Ps [b] [sgn [b]] := fun r us h => by
  refine .tok (a := [b]) (r := r) rfl ?_ h
  have h0 : signOf ([b] ++ r) = [b] := by
    unfold signOf
    have e1 : twos.contains (([b] ++ r).take 2) = false := by
      simp only [List.mem_cons, List.not_mem_nil, or_false] at hb
      cases r with
      | nil => rcases hb with rfl | rfl | rfl | rfl | rfl | rfl | rfl | rfl | rfl | rfl | rfl | rfl <;> decide
      | cons c r => rcases hb with rfl | rfl | rfl | rfl | rfl | rfl | rfl | rfl | rfl | rfl | rfl | rfl <;> simp [twos]
    have e2 : ones.contains (([b] ++ r).take 1) = true := by
      simp only [List.mem_cons, List.not_mem_nil, or_false] at hb
      rcases hb with rfl | rfl | rfl | rfl | rfl | rfl | rfl | rfl | rfl | rfl | rfl | rfl <;> simp [ones]
    rw [e1, e2]
    simp
  have h1 : readT ([b] ++ r) = signT ([b] ++ r) := by
    simp only [List.mem_cons, List.not_mem_nil, or_false] at hb
    refine readT_sign ?_ ?_ ?_ <;> rcases hb with rfl | rfl | rfl | rfl | rfl | rfl | rfl | rfl | rfl | rfl | rfl | rfl <;> decide
  rw [h1]
  unfold signT
  rw [h0]
  simp
theorem sign_of {s r : List Nat} (hs : s ≠ []) (h0 : signOf (s ++ r) = s) (h1 : ∀ b q, s = b :: q → letterB b = false ∧ digitB b = false ∧ b ≠ 34) {us : List Tok} (h : Lex r us) : Lex (s ++ r) (sgn s :: us) := by
  obtain ⟨b, q, rfl⟩ := List.exists_cons_of_ne_nil hs
  obtain ⟨e1, e2, e3⟩ := h1 b q rfl
  refine .tok (a := b :: q) (r := r) rfl ?_ h
  rw [List.cons_append, readT_sign e1 e2 e3]
  unfold signT
  rw [← List.cons_append, h0]
  simp
/-- a sign between two, and the blank behind it -/
theorem sign2 {s : List Nat} (hs : s ∈ binS ∨ s = [61]) : Ps (s ++ [32]) [sgn s] := fun r us h => by
  have hl : Lex (32 :: r) us := .blank (by decide) h
  rw [List.append_assoc]
  have hs' : s ∈ ([61] :: binS) := by rcases hs with h | h <;> simp [h]
  have : s ≠ [] ∧ signOf (s ++ 32 :: r) = s ∧ (∀ b q, s = b :: q → letterB b = false ∧ digitB b = false ∧ b ≠ 34) := by
    simp only [binS, sOr, sAnd, sCmp, sSum, sProd, List.mem_cons, List.mem_append, List.not_mem_nil, or_false] at hs'
    rcases hs' with rfl | ((((rfl | rfl) | (rfl | rfl | rfl | rfl | rfl | rfl)) | (rfl | rfl)) | (rfl | rfl | rfl)) <;>
      refine ⟨by simp, ?_, ?_⟩ <;> first | (intro b q hq; injection hq with h1 h2; subst h1; decide) | (unfold signOf; simp [twos, ones])
  exact sign_of this.1 this.2.1 this.2.2 hl
/-- a sign ahead -/
theorem sign3 {s : List Nat} (hs : s ∈ sOne) {r : List Nat} {us : List Tok} (hr : r.head? ≠ some 61) (h : Lex r us) : Lex (s ++ r) (sgn s :: us) := by
  simp only [sOne, List.mem_cons, List.not_mem_nil, or_false] at hs
  rcases hs with rfl | rfl
  · exact sign1 (b := 45) (by decide) r us h
  · refine sign_of (by simp) ?_ (fun b q hq => by injection hq with h1 h2; subst h1; decide) h
    cases r with
    | nil => decide
    | cons c r =>
      have hc : c ≠ 61 := fun e => hr (by rw [e]; rfl)
      unfold signOf
      simp [twos, ones, hc]
theorem run_brk {p : Nat → Bool} {s r : List Nat} (hs : ∀ b ∈ s, p b = true) (hr : ∀ b, r.head? = some b → p b = false) : run p (s ++ r) = s.length := by
  cases r with
  | nil => rw [List.append_nil]; exact run_every p s hs
  | cons b r => rw [run_append p b (hr b rfl)]; exact run_every p s hs
/-- a name or a word -/
theorem name_read {s : List Nat} (hs : ∀ b ∈ s, nameB b = true) (h16 : s.length ≤ 16) (hl : ∃ b q, s = b :: q ∧ letterB b = true) {r : List Nat} (hr : Brk r) : readT (s ++ r) = ⟨0, bif isWord s then 4 else 1, s, 0, s.length⟩ := by
  obtain ⟨b, q, rfl, hb⟩ := hl
  rw [List.cons_append, readT_cons, if_pos hb, ← List.cons_append]
  have hn := run_brk hs hr
  unfold nameT
  rw [hn, if_neg (by omega)]
  simp
theorem name_pc {s : List Nat} (h : IsName s) : Pc s [nm s] := fun r us hr hl => by
  have e := name_read h.1 h.2.1 h.2.2.2 hr
  rw [h.2.2.1] at e
  exact .tok (a := s) (r := r) rfl e hl
theorem word_pc {s : List Nat} (h : s ∈ wordsN) : Pc s [sgn s] := fun r us hr hl => by
  have hp : (∀ b ∈ s, nameB b = true) ∧ s.length ≤ 16 ∧ (∃ b q, s = b :: q ∧ letterB b = true) ∧ isWord s = true := by
    simp only [wordsN, List.mem_cons, List.not_mem_nil, or_false] at h
    rcases h with rfl | rfl | rfl | rfl | rfl | rfl | rfl | rfl | rfl | rfl | rfl | rfl | rfl | rfl | rfl | rfl | rfl <;> exact ⟨by decide, by decide, ⟨_, _, rfl, by decide⟩, by decide⟩
  have e := name_read hp.1 hp.2.1 hp.2.2.1 hr
  rw [hp.2.2.2] at e
  exact .tok (a := s) (r := r) rfl e hl
theorem text_ps {s : List Nat} (h : IsText s) : Ps ([34] ++ s ++ [34]) [txt s] := fun r us hl => by
  have hn : run textB (s ++ 34 :: r) = s.length := run_brk h.1 (fun b hb => by simp at hb; subst hb; decide)
  refine .tok (a := [34] ++ s ++ [34]) (r := r) rfl ?_ hl
  have e : [34] ++ s ++ [34] ++ r = 34 :: (s ++ 34 :: r) := by simp
  rw [e, readT_cons]
  have h1 : letterB 34 = false := by decide
  have h2 : digitB 34 = false := by decide
  simp only [h1, h2, Bool.false_eq_true, if_false, if_true]
  unfold textT
  simp only [List.drop_succ_cons, List.drop_zero, hn]
  rw [if_pos (by simp), if_neg (by have := h.2; omega)]
  simp

theorem decN_eq (n : Nat) : decN n = if n < 10 then [48 + n] else decN (n / 10) ++ [48 + n % 10] := by
  unfold decN
  rw [Lib.decDigits]
  split
  · rename_i h
    simp
    omega
  · rename_i h
    rw [List.map_append]
    simp
    omega
theorem decN_dig : ∀ n, (∀ b ∈ decN n, digitB b = true) ∧ decN n ≠ [] := by
  intro n
  induction n using Nat.strongRecOn with
  | ind n ih =>
    rw [decN_eq]
    split
    · rename_i h
      refine ⟨fun b hb => ?_, by simp⟩
      rw [List.mem_singleton.1 hb]
      simp [digitB]
      omega
    · rename_i h
      refine ⟨fun b hb => ?_, by simp⟩
      rcases List.mem_append.1 hb with h1 | h1
      · exact (ih (n / 10) (by omega)).1 b h1
      · rw [List.mem_singleton.1 h1]
        simp [digitB]
        omega
theorem value_snoc : ∀ (a : List Nat) (d n v : Nat), value a n = some v → ¬ (v > (9223372036854775807 - (d - 48)) / 10) → value (a ++ [d]) n = some (v * 10 + (d - 48))
  | [], d, n, v, h, hv => by
    simp [value] at h
    subst h
    simp only [List.nil_append]
    unfold value
    rw [if_neg hv]
    simp [value]
  | c :: a, d, n, v, h, hv => by
    unfold value at h
    rw [List.cons_append]
    unfold value
    split at h
    · cases h
    · rename_i hc
      rw [if_neg hc]
      exact value_snoc a d _ v h hv
theorem value_dec : ∀ n, n ≤ 9223372036854775807 → value (decN n) 0 = some n := by
  intro n
  induction n using Nat.strongRecOn with
  | ind n ih =>
    intro hn
    rw [decN_eq]
    split
    · rename_i h
      have := value_snoc [] (48 + n) 0 0 rfl (by omega)
      simp at this
      exact this
    · rename_i h
      have h1 := ih (n / 10) (by omega) (by omega)
      have := value_snoc (decN (n / 10)) (48 + n % 10) 0 (n / 10) h1 (by omega)
      rw [this]
      congr 1
      omega
theorem num_pc {n : Nat} (h : n ≤ 9223372036854775807) : Pc (decN n) [nmb n] := fun r us hr hl => by
  obtain ⟨hd, hne⟩ := decN_dig n
  have hrun : run digitB (decN n ++ r) = (decN n).length := run_brk hd (fun b hb => by have := hr b hb; simp [nameB] at this; exact this.1.2)
  refine .tok (a := decN n) (r := r) rfl ?_ hl
  obtain ⟨b, q, hq⟩ := List.exists_cons_of_ne_nil hne
  have hb : digitB b = true := hd b (by rw [hq]; simp)
  have h1 : letterB b = false := by simp [digitB] at hb; simp [letterB]; omega
  have e : readT (decN n ++ r) = numT (decN n ++ r) := by rw [hq, List.cons_append, readT_cons, h1, hb]; simp
  rw [e]
  unfold numT
  rw [hrun, List.take_left, value_dec n h]
end

section
set_option maxRecDepth 100000
set_option linter.unusedSimpArgs false
set_option linter.unusedVariables false

/-- it is too deep, or it is read so, and this is left -/
def Rd {α : Type} (ρ : α → Prop) (x : Res α) (r : List Tok) : Prop := (∃ q, x = .bad 42 q) ∨ ∃ v, x = .ok v r ∧ ρ v
theorem Rd.bind {α β : Type} {ρ : α → Prop} {σ : β → Prop} {x : Res α} {r r' : List Tok} {f : α → List Tok → Res β} (h : Rd ρ x r) (hf : ∀ v, ρ v → Rd σ (f v r) r') : Rd σ (x.bind f) r' := by
  rcases h with ⟨q, rfl⟩ | ⟨v, rfl, hv⟩
  · exact .inl ⟨q, rfl⟩
  · exact hf v hv
theorem Rd.ok {α : Type} {ρ : α → Prop} {v : α} {r : List Tok} (h : ρ v) : Rd ρ (.ok v r) r := .inr ⟨v, rfl, h⟩
theorem alike_one {t : Tok} {l : List Tok} (h : Alike [t] l) : ∃ t', l = [t'] ∧ likeT t t' := by
  cases h with
  | cons h1 h2 => cases h2; exact ⟨_, rfl, h1⟩
theorem alike_cons {t : Tok} {a l : List Tok} (h : Alike (t :: a) l) : ∃ t' l', l = t' :: l' ∧ likeT t t' ∧ Alike a l' := by
  cases h with
  | cons h1 h2 => exact ⟨_, _, rfl, h1, h2⟩
theorem alike_nil {l : List Tok} (h : Alike [] l) : l = [] := by cases h; rfl
theorem like_sgn {s : List Nat} {t : Tok} (h : likeT (sgn s) t) : t.kind = 4 ∧ t.text = s := ⟨h.1.symm, h.2.1.symm⟩
theorem isOne_of {t : Tok} (hk : t.kind = 4) (ss : List (List Nat)) : isOne ss t = ss.contains t.text := by unfold isOne; simp [hk]
theorem want_ok {z : Nat} {s : List Nat} {t : Tok} {r : List Tok} (hk : t.kind = 4) (ht : t.text = s) : wantT z s (t :: r) = .ok () r := by
  unfold wantT
  rw [if_pos (by rw [sees_cons', isOne_of hk, ht]; simp)]
  rfl
/-- nothing behind it goes on with an expression -/
def Stops (z : Nat) (r : List Tok) : Prop := seesT z [[40]] r = false ∧ seesT z sOr r = false ∧ seesT z sAnd r = false ∧ seesT z sCmp r = false ∧ seesT z sSum r = false ∧ seesT z sProd r = false
theorem stops_sgn {z : Nat} {t : Tok} {r : List Tok} {s : List Nat} (h : likeT (sgn s) t) (hs : s ∈ [[41], [44], [59], [123], [116, 111]]) : Stops z (t :: r) := by
  obtain ⟨hk, ht⟩ := like_sgn h
  unfold Stops
  simp only [sees_cons', isOne_of hk, ht]
  simp only [List.mem_cons, List.not_mem_nil, or_false] at hs
  rcases hs with rfl | rfl | rfl | rfl | rfl <;> decide

section
variable {z : Nat} {ss : List (List Nat)} {p one : Par Ex} {ts r r1 r2 : List Tok} {x y : Ex} {t : Tok} {c q : Nat}
theorem grouped_bad (h : p ts = .bad c q) : groupedP z ss p ts = .bad c q := by unfold groupedP; rw [h]; rfl
theorem grouped_stop (h : p ts = .ok x r) (hs : seesT z ss r = false) : groupedP z ss p ts = .ok x r := by unfold groupedP; rw [h]; exact moreG_no hs _
theorem grouped_two (h : p ts = .ok x (t :: r1)) (hs : isOne ss t = true) (h2 : p r1 = .ok y r2) (h3 : seesT z ss r2 = false) : groupedP z ss p ts = .ok (.mk 6 0 t.text [x, y] t.place) r2 := by
  unfold groupedP
  rw [h]
  show moreG z ss p (r1.length + 1) x (t :: r1) = _
  unfold moreG
  rw [if_pos (by rw [sees_cons']; exact hs)]
  show (p r1).bind _ = _
  rw [h2]
  exact moreG_no h3 _
theorem grouped_two_bad (h : p ts = .ok x (t :: r1)) (hs : isOne ss t = true) (h2 : p r1 = .bad c q) : groupedP z ss p ts = .bad c q := by
  unfold groupedP
  rw [h]
  show moreG z ss p (r1.length + 1) x (t :: r1) = _
  unfold moreG
  rw [if_pos (by rw [sees_cons']; exact hs)]
  show (p r1).bind _ = _
  rw [h2]
  rfl
theorem compare_bad (h : sumP z one ts = .bad c q) : compareP z one ts = .bad c q := by unfold compareP; rw [h]; rfl
theorem compare_stop (h : sumP z one ts = .ok x r) (hs : seesT z sCmp r = false) : compareP z one ts = .ok x r := by
  unfold compareP
  rw [h]
  show (if seesT z sCmp r = true then _ else _) = _
  rw [if_neg (by rw [hs]; decide)]
theorem compare_two (h : sumP z one ts = .ok x (t :: r1)) (hk : t.kind = 4) (hs : isOne sCmp t = true) (h2 : sumP z one r1 = .ok y r2) : compareP z one ts = .ok (.mk 6 0 t.text [x, y] t.place) r2 := by
  unfold compareP
  rw [h]
  show (if seesT z sCmp (t :: r1) = true then _ else _) = _
  rw [if_pos (by rw [sees_cons']; exact hs)]
  unfold joinedP takeT
  simp only [peekT, hk, if_true, List.tail_cons, Res.bind_ok, h2]
theorem compare_two_bad (h : sumP z one ts = .ok x (t :: r1)) (hk : t.kind = 4) (hs : isOne sCmp t = true) (h2 : sumP z one r1 = .bad c q) : compareP z one ts = .bad c q := by
  unfold compareP
  rw [h]
  show (if seesT z sCmp (t :: r1) = true then _ else _) = _
  rw [if_pos (by rw [sees_cons']; exact hs)]
  unfold joinedP takeT
  simp only [peekT, hk, if_true, List.tail_cons, Res.bind_ok, h2, Res.bind_bad]
theorem levels_bad (h : one ts = .bad c q) : levelsP z one ts = .bad c q := grouped_bad (grouped_bad (compare_bad (grouped_bad (grouped_bad h))))
theorem levels_stop (h : one ts = .ok x r) (hs : Stops z r) : levelsP z one ts = .ok x r := by
  obtain ⟨_, h1, h2, h3, h4, h5⟩ := hs
  exact grouped_stop (grouped_stop (compare_stop (grouped_stop (grouped_stop h h5) h4) h3) h2) h1
/-- which rank a sign has -/
theorem ranks {s : List Nat} (h : s ∈ binS) :
    (sProd.contains s = true) ∨ (sProd.contains s = false ∧ sSum.contains s = true) ∨ (sProd.contains s = false ∧ sSum.contains s = false ∧ sCmp.contains s = true) ∨
    (sProd.contains s = false ∧ sSum.contains s = false ∧ sCmp.contains s = false ∧ sAnd.contains s = true) ∨ (sProd.contains s = false ∧ sSum.contains s = false ∧ sCmp.contains s = false ∧ sAnd.contains s = false ∧ sOr.contains s = true) := by
  simp only [binS, sOr, sAnd, sCmp, sSum, sProd, List.mem_cons, List.mem_append, List.not_mem_nil, or_false] at h
  rcases h with (((rfl | rfl) | (rfl | rfl | rfl | rfl | rfl | rfl)) | (rfl | rfl)) | (rfl | rfl | rfl) <;> decide
theorem levels_two (hx : one ts = .ok x (t :: r1)) (hy : one r1 = .ok y r2) (hk : t.kind = 4) (hb : t.text ∈ binS) (hs : Stops z r2) : levelsP z one ts = .ok (.mk 6 0 t.text [x, y] t.place) r2 := by
  obtain ⟨_, s1, s2, s3, s4, s5⟩ := hs
  have see : ∀ ss, seesT z ss (t :: r1) = ss.contains t.text := fun ss => by rw [sees_cons', isOne_of hk]
  have iso : ∀ ss, isOne ss t = ss.contains t.text := fun ss => isOne_of hk ss
  rcases ranks hb with h | ⟨h5, h⟩ | ⟨h5, h4, h⟩ | ⟨h5, h4, h3, h⟩ | ⟨h5, h4, h3, h2, h⟩
  · exact grouped_stop (grouped_stop (compare_stop (grouped_stop (grouped_two hx (by rw [iso]; exact h) hy s5) s4) s3) s2) s1
  · exact grouped_stop (grouped_stop (compare_stop (grouped_two (grouped_stop hx (by rw [see]; exact h5)) (by rw [iso]; exact h) (grouped_stop hy s5) s4) s3) s2) s1
  · exact grouped_stop (grouped_stop (compare_two (grouped_stop (grouped_stop hx (by rw [see]; exact h5)) (by rw [see]; exact h4)) hk (by rw [iso]; exact h) (grouped_stop (grouped_stop hy s5) s4)) s2) s1
  · exact grouped_stop (grouped_two (compare_stop (grouped_stop (grouped_stop hx (by rw [see]; exact h5)) (by rw [see]; exact h4)) (by rw [see]; exact h3)) (by rw [iso]; exact h) (compare_stop (grouped_stop (grouped_stop hy s5) s4) s3) s2) s1
  · exact grouped_two (grouped_stop (compare_stop (grouped_stop (grouped_stop hx (by rw [see]; exact h5)) (by rw [see]; exact h4)) (by rw [see]; exact h3)) (by rw [see]; exact h2)) (by rw [iso]; exact h) (grouped_stop (compare_stop (grouped_stop (grouped_stop hy s5) s4) s3) s2) s1
theorem levels_two_bad (hx : one ts = .ok x (t :: r1)) (hy : one r1 = .bad c q) (hk : t.kind = 4) (hb : t.text ∈ binS) : levelsP z one ts = .bad c q := by
  have see : ∀ ss, seesT z ss (t :: r1) = ss.contains t.text := fun ss => by rw [sees_cons', isOne_of hk]
  have iso : ∀ ss, isOne ss t = ss.contains t.text := fun ss => isOne_of hk ss
  rcases ranks hb with h | ⟨h5, h⟩ | ⟨h5, h4, h⟩ | ⟨h5, h4, h3, h⟩ | ⟨h5, h4, h3, h2, h⟩
  · exact grouped_bad (grouped_bad (compare_bad (grouped_bad (grouped_two_bad hx (by rw [iso]; exact h) hy))))
  · exact grouped_bad (grouped_bad (compare_bad (grouped_two_bad (grouped_stop hx (by rw [see]; exact h5)) (by rw [iso]; exact h) (grouped_bad hy))))
  · exact grouped_bad (grouped_bad (compare_two_bad (grouped_stop (grouped_stop hx (by rw [see]; exact h5)) (by rw [see]; exact h4)) hk (by rw [iso]; exact h) (grouped_bad (grouped_bad hy))))
  · exact grouped_bad (grouped_two_bad (compare_stop (grouped_stop (grouped_stop hx (by rw [see]; exact h5)) (by rw [see]; exact h4)) (by rw [see]; exact h3)) (by rw [iso]; exact h) (compare_bad (grouped_bad (grouped_bad hy))))
  · exact grouped_two_bad (grouped_stop (compare_stop (grouped_stop (grouped_stop hx (by rw [see]; exact h5)) (by rw [see]; exact h4)) (by rw [see]; exact h3)) (by rw [see]; exact h2)) (by rw [iso]; exact h) (grouped_bad (compare_bad (grouped_bad (grouped_bad hy))))
end

/-- tokens that are read as an expression behind signs, and as an expression -/
def PeO (e : Ex) (ts : List Tok) : Prop := ∀ (z g : Nat) (ts' r : List Tok), Alike ts ts' → seesT z [[40]] r = false → Rd (SimE e) ((both z g).2 (ts' ++ r)) r
def PeX (e : Ex) (ts : List Tok) : Prop := ∀ (z g : Nat) (ts' r : List Tok), Alike ts ts' → Stops z r → Rd (SimE e) (exprP z g (ts' ++ r)) r
theorem PeO.expr {e : Ex} {ts : List Tok} (h : PeO e ts) : PeX e ts := fun z g ts' r hal hs => by
  cases g with
  | zero => exact .inl ⟨_, rfl⟩
  | succ g =>
    rcases h z (g + 1) ts' r hal hs.1 with ⟨q, h1⟩ | ⟨v, h1, hv⟩
    · exact .inl ⟨q, levels_bad h1⟩
    · exact .inr ⟨v, levels_stop h1 hs, hv⟩
/-- what stands at its beginning -/
def firstS : List (List Nat) := [[40], [45], [33], [116, 114, 117, 101], [102, 97, 108, 115, 101], [103, 101, 116], [104, 97, 115], [108, 101, 110]]
def Fst (ts : List Tok) : Prop := ∃ t u, ts = t :: u ∧ (t.kind = 1 ∨ t.kind = 2 ∨ t.kind = 3 ∨ (t.kind = 4 ∧ t.text ∈ firstS))
/-- they are no assignment's beginning -/
def NoSet (ts : List Tok) : Prop := ∀ (z : Nat) (ts' r : List Tok), Alike ts ts' → seesT z [[61]] r = false → setsT (ts' ++ r) = false
theorem noset_cons {t t2 : Tok} {u : List Tok} (h : t.kind ≠ 1 ∨ isOne [[61]] t2 = false) : NoSet (t :: t2 :: u) := fun z ts' r hal hr => by
  obtain ⟨a, l, rfl, ha, hal⟩ := alike_cons hal
  obtain ⟨b, l2, rfl, hb, hal⟩ := alike_cons hal
  simp only [List.cons_append, setsT]
  rcases h with h | h
  · have : ¬ a.kind = 1 := by rw [← ha.1]; exact h
    simp [this]
  · rw [← isOne_like hb, h]
    simp
theorem noset_first {t : Tok} {u : List Tok} (h : t.kind ≠ 1) : NoSet (t :: u) := fun z ts' r hal hr => by
  obtain ⟨a, l, rfl, ha, hal⟩ := alike_cons hal
  have : ¬ a.kind = 1 := by rw [← ha.1]; exact h
  cases hl : l ++ r with
  | nil => rw [List.cons_append, hl]; rfl
  | cons b q => rw [List.cons_append, hl]; simp [setsT, this]
theorem noset_one {t : Tok} : NoSet [t] := fun z ts' r hal hr => by
  obtain ⟨a, rfl, ha⟩ := alike_one hal
  cases r with
  | nil => rfl
  | cons b q =>
    rw [sees_cons'] at hr
    simp [setsT, hr]

theorem one_step (z g : Nat) (t : Tok) (r : List Tok) (h : isOne sOne t = false) : (both z (g + 1)).2 (t :: r) = primaryP z (both z g).1 (t :: r) := by
  show oneS z (both z g).1 (both z g).2 (t :: r) = _
  unfold oneS
  rw [if_neg (by rw [sees_cons', h]; decide)]
theorem not_one {t : Tok} (h : t.kind ≠ 4) (ss : List (List Nat)) : isOne ss t = false := by unfold isOne; simp [h]
theorem pe_num (n p : Nat) : PeO (.mk 1 n [] [] p) [nmb n] := fun z g ts' r hal hr => by
  obtain ⟨t, rfl, hk, ht, hn⟩ := alike_one hal
  cases g with
  | zero => exact .inl ⟨_, rfl⟩
  | succ g =>
    have hk' : t.kind = 2 := hk.symm
    rw [List.cons_append, one_step z g t _ (not_one (by omega) _)]
    unfold primaryP
    simp only [peekT, hk', if_true, List.tail_cons, List.nil_append]
    exact .ok ⟨rfl, hn, rfl, .nil⟩
theorem pe_text (s : List Nat) (p : Nat) : PeO (.mk 3 0 s [] p) [txt s] := fun z g ts' r hal hr => by
  obtain ⟨t, rfl, hk, ht, hn⟩ := alike_one hal
  cases g with
  | zero => exact .inl ⟨_, rfl⟩
  | succ g =>
    have hk' : t.kind = 3 := hk.symm
    rw [List.cons_append, one_step z g t _ (not_one (by omega) _)]
    unfold primaryP
    simp only [peekT, hk', List.tail_cons, List.nil_append]
    simp
    exact .ok ⟨rfl, rfl, ht, .nil⟩
theorem pe_name (s : List Nat) (p : Nat) : PeO (.mk 4 0 s [] p) [nm s] := fun z g ts' r hal hr => by
  obtain ⟨t, rfl, hk, ht, hn⟩ := alike_one hal
  cases g with
  | zero => exact .inl ⟨_, rfl⟩
  | succ g =>
    have hk' : t.kind = 1 := hk.symm
    rw [List.cons_append, one_step z g t _ (not_one (by omega) _)]
    unfold primaryP namedP takeT
    simp only [peekT, hk', List.tail_cons, List.nil_append]
    simp [hr]
    exact .ok ⟨rfl, rfl, ht, .nil⟩
/-- one that begins with a sign other than - and ! and ( -/
theorem prim_word (z : Nat) (e : Par Ex) (t : Tok) (r : List Tok) (hk : t.kind = 4) (h : isOne [[40]] t = false) : primaryP z e (t :: r) = (wordedP z e (t :: r)).bind fun x r => .ok (x.at t.place) r := by
  unfold primaryP
  simp only [peekT, hk]
  simp [sees_cons', h]
theorem pe_bool (n p : Nat) (hn : n = 0 ∨ n = 1) : PeO (.mk 2 n [] [] p) [sgn (boolT n)] := fun z g ts' r hal hr => by
  obtain ⟨t, rfl, hl⟩ := alike_one hal
  obtain ⟨hk, ht⟩ := like_sgn hl
  cases g with
  | zero => exact .inl ⟨_, rfl⟩
  | succ g =>
    have h1 : isOne sOne t = false := by rw [isOne_of hk, ht]; rcases hn with rfl | rfl <;> decide
    have h2 : isOne [[40]] t = false := by rw [isOne_of hk, ht]; rcases hn with rfl | rfl <;> decide
    rw [List.cons_append, one_step z g t _ h1, prim_word z _ t _ hk h2]
    unfold wordedP
    simp only [sees_cons', isOne_of hk, ht, List.tail_cons, List.nil_append]
    rcases hn with rfl | rfl
    · rw [if_neg (by decide), if_pos (by decide)]
      exact .ok ⟨rfl, rfl, rfl, .nil⟩
    · rw [if_pos (by decide)]
      exact .ok ⟨rfl, rfl, rfl, .nil⟩
theorem pe_one {s : List Nat} {x : Ex} {xs : List Tok} (p : Nat) (hs : s ∈ sOne) (hx : PeO x xs) : PeO (.mk 7 0 s [x] p) (sgn s :: xs) := fun z g ts' r hal hr => by
  obtain ⟨t, l, rfl, hl, hal⟩ := alike_cons hal
  obtain ⟨hk, ht⟩ := like_sgn hl
  cases g with
  | zero => exact .inl ⟨_, rfl⟩
  | succ g =>
    show Rd _ (oneS z (both z g).1 (both z g).2 (t :: (l ++ r))) r
    unfold oneS
    rw [if_pos (by rw [sees_cons', isOne_of hk, ht]; simpa using hs)]
    refine (hx z g l r hal hr).bind fun v hv => .ok ?_
    exact ⟨rfl, rfl, ht.symm, .one hv⟩
/-- an expression between brackets -/
theorem enclosed_rd {x : Ex} {xs : List Tok} (hx : PeX x xs) (z g : Nat) {ts' r : List Tok} (hal : Alike ([sgn [40]] ++ xs ++ [sgn [41]]) ts') : Rd (fun l => ∃ v, l = [v] ∧ SimE x v) (enclosedP z (exprP z g) (ts' ++ r)) r := by
  obtain ⟨a, b, rfl, ha, hb⟩ := Alike.split hal
  obtain ⟨a1, a2, rfl, h1, h2⟩ := Alike.split ha
  obtain ⟨o, rfl, ho⟩ := alike_one h1
  obtain ⟨c, rfl, hc⟩ := alike_one hb
  obtain ⟨ok, ot⟩ := like_sgn ho
  obtain ⟨ck, ct⟩ := like_sgn hc
  unfold enclosedP
  have e : ([o] ++ a2 ++ [c]) ++ r = o :: (a2 ++ (c :: r)) := by simp
  rw [e, want_ok ok ot]
  refine (hx z g a2 (c :: r) h2 (stops_sgn hc (by decide))).bind fun v hv => ?_
  rw [want_ok ck ct]
  exact .ok ⟨v, rfl, hv⟩
theorem pe_word {k : Nat} {x : Ex} {xs : List Tok} (p : Nat) (w : List Nat) (hk : (k = 8 ∧ w = [103, 101, 116]) ∨ (k = 9 ∧ w = [104, 97, 115]) ∨ (k = 10 ∧ w = [108, 101, 110])) (hx : PeX x xs) : PeO (.mk k 0 [] [x] p) (sgn w :: ([sgn [40]] ++ xs ++ [sgn [41]])) := fun z g ts' r hal hr => by
  obtain ⟨t, l, rfl, hl, hal⟩ := alike_cons hal
  obtain ⟨tk, ht⟩ := like_sgn hl
  cases g with
  | zero => exact .inl ⟨_, rfl⟩
  | succ g =>
    have h1 : isOne sOne t = false := by rw [isOne_of tk, ht]; rcases hk with ⟨_, rfl⟩ | ⟨_, rfl⟩ | ⟨_, rfl⟩ <;> decide
    have h2 : isOne [[40]] t = false := by rw [isOne_of tk, ht]; rcases hk with ⟨_, rfl⟩ | ⟨_, rfl⟩ | ⟨_, rfl⟩ <;> decide
    rw [List.cons_append, one_step z g t _ h1, prim_word z _ t _ tk h2]
    have hin := enclosed_rd hx z g (r := r) hal
    have hw : wordedP z (both z g).1 (t :: (l ++ r)) = (enclosedP z (exprP z g) (l ++ r)).bind fun l r => .ok (.mk k 0 [] l 0) r := by
      unfold wordedP
      simp only [sees_cons', isOne_of tk, ht, List.tail_cons]
      rcases hk with ⟨rfl, rfl⟩ | ⟨rfl, rfl⟩ | ⟨rfl, rfl⟩
      · rw [if_neg (by decide), if_neg (by decide), if_pos (by decide)]; rfl
      · rw [if_neg (by decide), if_neg (by decide), if_neg (by decide), if_pos (by decide)]; rfl
      · rw [if_neg (by decide), if_neg (by decide), if_neg (by decide), if_neg (by decide), want_ok tk ht]; rfl
    rw [hw]
    refine Rd.bind (ρ := SimE (.mk k 0 [] [x] p)) (hin.bind fun l hl => ?_) fun v hv => .ok ⟨hv.1, hv.2.1, hv.2.2.1, hv.2.2.2⟩
    obtain ⟨v, rfl, hv⟩ := hl
    exact .ok ⟨rfl, rfl, rfl, .one hv⟩
theorem pe_two {s : List Nat} {x y : Ex} {xs ys : List Tok} (p : Nat) (hs : s ∈ binS) (hx : PeO x xs) (hy : PeO y ys) : PeO (.mk 6 0 s [x, y] p) ([sgn [40]] ++ (xs ++ ([sgn s] ++ ys)) ++ [sgn [41]]) := fun z g ts' r hal hr => by
  obtain ⟨a, b, rfl, ha, hb⟩ := Alike.split hal
  obtain ⟨a1, a2, rfl, h1, h2⟩ := Alike.split ha
  obtain ⟨o, rfl, ho⟩ := alike_one h1
  obtain ⟨c, rfl, hc⟩ := alike_one hb
  obtain ⟨u1, u2, rfl, hu1, hu2⟩ := Alike.split h2
  obtain ⟨v1, v2, rfl, hv1, hv2⟩ := Alike.split hu2
  obtain ⟨t, rfl, ht⟩ := alike_one hv1
  obtain ⟨ok, ot⟩ := like_sgn ho
  obtain ⟨ck, ct⟩ := like_sgn hc
  obtain ⟨tk, tt⟩ := like_sgn ht
  cases g with
  | zero => exact .inl ⟨_, rfl⟩
  | succ g =>
    have e : ([o] ++ (u1 ++ ([t] ++ v2)) ++ [c]) ++ r = o :: (u1 ++ (t :: (v2 ++ (c :: r)))) := by simp
    rw [e, one_step z g o _ (by rw [isOne_of ok, ot]; decide)]
    have hprim : primaryP z (both z g).1 (o :: (u1 ++ (t :: (v2 ++ (c :: r))))) = ((both z g).1 (u1 ++ (t :: (v2 ++ (c :: r))))).bind fun x r' => (wantT z [41] r').bind fun _ r'' => .ok x r'' := by
      unfold primaryP
      simp only [peekT, ok]
      rw [if_neg (by decide), if_neg (by decide), if_neg (by decide), if_pos (by rw [sees_cons', isOne_of ok, ot]; decide)]
      unfold enclosedP
      rw [want_ok ok ot]
      simp only [Res.bind_ok]
      cases (both z g).1 (u1 ++ (t :: (v2 ++ (c :: r)))) with
      | bad => rfl
      | ok v q =>
        simp only [Res.bind_ok]
        cases wantT z [41] q with
        | bad => rfl
        | ok v2 q2 => rfl
    rw [hprim]
    cases g with
    | zero => exact .inl ⟨_, rfl⟩
    | succ g =>
      have hnp : seesT z [[40]] (t :: (v2 ++ (c :: r))) = false := by
        rw [sees_cons', isOne_of tk, tt]
        simp only [binS, sOr, sAnd, sCmp, sSum, sProd, List.mem_cons, List.mem_append, List.not_mem_nil, or_false] at hs
        rcases hs with (((rfl | rfl) | (rfl | rfl | rfl | rfl | rfl | rfl)) | (rfl | rfl)) | (rfl | rfl | rfl) <;> decide
      have hst : Stops z (c :: r) := stops_sgn hc (by decide)
      show Rd _ ((levelsP z (both z (g + 1)).2 (u1 ++ (t :: (v2 ++ (c :: r))))).bind _) r
      rcases hx z (g + 1) u1 (t :: (v2 ++ (c :: r))) hu1 hnp with ⟨q, k1⟩ | ⟨x', k1, sx⟩
      · rw [levels_bad k1]; exact .inl ⟨q, rfl⟩
      · rcases hy z (g + 1) v2 (c :: r) hv2 hst.1 with ⟨q, k2⟩ | ⟨y', k2, sy⟩
        · rw [levels_two_bad k1 k2 tk (by rw [tt]; exact hs)]; exact .inl ⟨q, rfl⟩
        · rw [levels_two k1 k2 tk (by rw [tt]; exact hs) hst]
          simp only [Res.bind_ok]
          rw [want_ok ck ct]
          exact .ok (sim_two tt.symm sx sy)
/-- two lists, part by part -/
inductive F2 {α β : Type} (R : α → β → Prop) : List α → List β → Prop
  | nil : F2 R [] []
  | cons {a : α} {b : β} {l : List α} {m : List β} (h : R a b) (hl : F2 R l m) : F2 R (a :: l) (b :: m)
theorem f2_of {α β : Type} {R : α → β → Prop} : ∀ {l : List α}, (∀ a ∈ l, ∃ b, R a b) → ∃ m, F2 R l m
  | [], _ => ⟨[], .nil⟩
  | a :: l, h => by
    obtain ⟨b, hb⟩ := h a (by simp)
    obtain ⟨m, hm⟩ := f2_of (l := l) fun x hx => h x (by simp [hx])
    exact ⟨b :: m, .cons hb hm⟩
def commaK : List (List Tok) → List Tok
  | [] => []
  | t :: r => sgn [44] :: (t ++ commaK r)
def joinK : List (List Tok) → List Tok
  | [] => []
  | t :: r => t ++ commaK r
theorem stops_comma {z : Nat} {tss : List (List Tok)} {ts' r : List Tok} (h : Alike (commaK tss ++ [sgn [41]]) ts') : Stops z (ts' ++ r) := by
  cases tss with
  | nil =>
    obtain ⟨t, rfl, ht⟩ := alike_one h
    exact stops_sgn ht (by decide)
  | cons a b =>
    obtain ⟨t, l, rfl, ht, _⟩ := alike_cons h
    exact stops_sgn ht (by decide)
section
variable {α : Type} {ρ : α → α → Prop} {L : List α → List α → Prop} (hLa : ∀ l l' v v', L l l' → ρ v v' → L (l ++ [v]) (l' ++ [v']))
/-- tokens that a reader reads as a part -/
def Prt (z : Nat) (p : Par α) (ρ : α → α → Prop) (x : α) (ts : List Tok) : Prop := ∀ ts' r, Alike ts ts' → Stops z r → Rd (ρ x) (p (ts' ++ r)) r
include hLa in
theorem moreL_rd {z : Nat} {p : Par α} {l : List α} {tss : List (List Tok)} (h : F2 (Prt z p ρ) l tss) : ∀ (f : Nat) (acc acc' : List α) (ts' r : List Tok), Alike (commaK tss ++ [sgn [41]]) ts' → l.length ≤ f → L acc acc' → Rd (L (acc ++ l)) (moreL z p f acc' (ts' ++ r)) r := by
  induction h with
  | nil =>
    intro f acc acc' ts' r hal hf hL
    obtain ⟨t, rfl, ht⟩ := alike_one hal
    obtain ⟨tk, tt⟩ := like_sgn ht
    have hn : seesT z [[44]] (t :: r) = false := by rw [sees_cons', isOne_of tk, tt]; decide
    have e : moreL z p f acc' ([t] ++ r) = .ok acc' r := by
      cases f with
      | zero => unfold moreL; rw [List.cons_append, want_ok tk tt]; rfl
      | succ f => unfold moreL; rw [List.cons_append, List.nil_append, if_neg (by rw [hn]; decide), want_ok tk tt]; rfl
    rw [e, List.append_nil]
    exact .ok hL
  | @cons a b l m h _ ih =>
    intro f acc acc' ts' r hal hf hL
    obtain ⟨t, l1, rfl, ht, hal⟩ := alike_cons hal
    replace hal : Alike (b ++ (commaK m ++ [sgn [41]])) l1 := by rw [← List.append_assoc]; exact hal
    obtain ⟨q1, q2, rfl, hq1, hq2⟩ := Alike.split hal
    obtain ⟨tk, tt⟩ := like_sgn ht
    cases f with
    | zero => simp at hf
    | succ f =>
      unfold moreL
      rw [List.cons_append, if_pos (by rw [sees_cons', isOne_of tk, tt]; decide), List.tail_cons, List.append_assoc]
      refine (h q1 (q2 ++ r) hq1 (stops_comma hq2)).bind fun v hv => ?_
      have := ih f (acc ++ [a]) (acc' ++ [v]) q2 r hq2 (by simp at hf; omega) (hLa _ _ _ _ hL hv)
      rw [List.append_assoc] at this
      exact this
theorem commaK_len : ∀ m : List (List Tok), m.length ≤ (commaK m).length
  | [] => Nat.le_refl _
  | t :: m => by
    have := commaK_len m
    simp [commaK]
    omega
theorem F2.len {α β : Type} {R : α → β → Prop} {l : List α} {m : List β} (h : F2 R l m) : l.length = m.length := by
  induction h with
  | nil => rfl
  | cons _ _ ih => simp [ih]
include hLa in
theorem list_rd (hL0 : L [] []) {z : Nat} {p : Par α} {l : List α} {tss : List (List Tok)} (h : F2 (Prt z p ρ) l tss) (hne : ∀ b ∈ tss, ∃ t u, b = t :: u ∧ isOne [[41]] t = false) {ts' r : List Tok} (hal : Alike ([sgn [40]] ++ joinK tss ++ [sgn [41]]) ts') : Rd (L l) (listP z p (ts' ++ r)) r := by
  obtain ⟨a, b, rfl, ha, hb⟩ := Alike.split hal
  obtain ⟨a1, a2, rfl, h1, h2⟩ := Alike.split ha
  obtain ⟨o, rfl, ho⟩ := alike_one h1
  obtain ⟨c, rfl, hc⟩ := alike_one hb
  obtain ⟨ok, ot⟩ := like_sgn ho
  obtain ⟨ck, ct⟩ := like_sgn hc
  have e : ([o] ++ a2 ++ [c]) ++ r = o :: (a2 ++ (c :: r)) := by simp
  unfold listP
  rw [e, want_ok ok ot]
  cases h with
  | nil =>
    have := alike_nil h2
    subst this
    show Rd _ (if seesT z [[41]] (c :: r) = true then _ else _) r
    rw [if_pos (by rw [sees_cons', isOne_of ck, ct]; decide)]
    exact .ok hL0
  | @cons x t l m hx hl =>
    obtain ⟨q1, q2, rfl, k1, k2⟩ := Alike.split h2
    obtain ⟨t0, u, rfl, ht0⟩ := hne t (by simp)
    obtain ⟨y, q, rfl, hy, hq⟩ := alike_cons k1
    have hns : seesT z [[41]] ((y :: q ++ q2) ++ (c :: r)) = false := by
      show isOne [[41]] y = false
      rw [← isOne_like hy]
      exact ht0
    have hcm : Alike (commaK m ++ [sgn [41]]) (q2 ++ [c]) := k2.append hb
    show Rd _ (if seesT z [[41]] ((y :: q ++ q2) ++ (c :: r)) = true then _ else _) r
    rw [if_neg (by rw [hns]; decide)]
    have e2 : (y :: q ++ q2) ++ (c :: r) = (y :: q) ++ ((q2 ++ [c]) ++ r) := by simp
    rw [e2]
    refine (hx _ _ k1 (stops_comma hcm)).bind fun v hv => ?_
    have := moreL_rd hLa hl ((q2 ++ [c]) ++ r).length [x] [v] (q2 ++ [c]) r hcm (by
      have h3 := commaK_len m
      have h4 := hl.len
      have h5 := k2.length
      simp
      omega) (hLa [] [] x v hL0 hv)
    exact this
end
end

section
set_option maxRecDepth 100000
set_option linter.unusedSimpArgs false
set_option linter.unusedVariables false

def commaT : List (List Nat) → List Nat
  | [] => []
  | t :: r => [44, 32] ++ t ++ commaT r
def joinT : List (List Nat) → List Nat
  | [] => []
  | t :: r => t ++ commaT r
theorem commaT_snoc : ∀ (l : List (List Nat)) (x : List Nat), commaT (l ++ [x]) = commaT l ++ [44, 32] ++ x
  | [], x => by simp [commaT]
  | t :: l, x => by simp [commaT, commaT_snoc l x]
theorem joinT_snoc (l : List (List Nat)) (x : List Nat) : joinT (l ++ [x]) = joinT l ++ (if l.length = 0 then [] else [44, 32]) ++ x := by
  cases l with
  | nil => simp [joinT, commaT]
  | cons t l => simp [joinT, commaT_snoc]
theorem listed_join (ks : List (List Nat)) : ∀ n, n ≤ ks.length → listed (atK ks) n = joinT (ks.take n)
  | 0, _ => by simp [listed, joinT]
  | n + 1, h => by
    have hk : ks[n]? = some ks[n] := List.getElem?_eq_getElem (by omega)
    rw [List.take_add_one, hk]
    show listed (atK ks) n ++ (if n = 0 then [] else [44, 32]) ++ atK ks n = joinT (ks.take n ++ [ks[n]])
    rw [joinT_snoc, listed_join ks n (by omega)]
    have hl : (ks.take n).length = n := by simp; omega
    rw [hl]
    simp [atK, hk]
theorem listT_join (ks : List (List Nat)) : listT (atK ks) ks.length = [40] ++ joinT ks ++ [41] := by
  unfold listT
  rw [listed_join ks _ (Nat.le_refl _), List.take_length]
/-- a list's text reads as its tokens -/
theorem comma_ps {ks : List (List Nat)} {tss : List (List Tok)} (h : F2 Pc ks tss) : Ps (commaT ks ++ [41]) (commaK tss ++ [sgn [41]]) ∧ ∀ r, Brk (commaT ks ++ [41] ++ r) := by
  induction h with
  | nil => exact ⟨sign1 (by decide), fun r => brkc (by decide) _ _⟩
  | @cons a b l m h _ ih =>
    refine ⟨?_, fun r => brkc (by decide) _ _⟩
    have h1 : Ps ([44] ++ [32]) ([sgn [44]] ++ []) := (sign1 (by decide)).app sp
    have h2 := h1.app (h.app ih.1 ih.2)
    simpa [commaT, commaK] using h2
theorem list_ps {ks : List (List Nat)} {tss : List (List Tok)} (h : F2 Pc ks tss) : Ps (listT (atK ks) ks.length) ([sgn [40]] ++ joinK tss ++ [sgn [41]]) := by
  rw [listT_join]
  cases h with
  | nil => exact ((sign1 (b := 40) (by decide)).app Ps.empty).app (sign1 (b := 41) (by decide))
  | @cons a b l m h hl =>
    have h2 := (sign1 (b := 40) (by decide)).app (h.app (comma_ps hl).1 (comma_ps hl).2)
    simpa [joinT, joinK] using h2
theorem brk_list (f : Nat → List Nat) (n : Nat) (r : List Nat) : Brk (listT f n ++ r) := by
  unfold listT
  exact brkc (b := 40) (by decide) _ _

/-- all that is true of the text of an expression and its tokens -/
structure Good (e : Ex) (ts : List Tok) : Prop where
  pc : Pc (showE e) ts
  pe : PeO e ts
  fst : Fst ts
  ns : NoSet ts
  hd : ∃ b s, showE e = b :: s ∧ b ≠ 61
  by_ : Byn (showE e)
theorem byn_app {a b : List Nat} (h : Byn a) (k : Byn b) : Byn (a ++ b) := fun x hx => by
  rcases List.mem_append.1 hx with h1 | h1
  · exact h x h1
  · exact k x h1
theorem byn_name {s : List Nat} (h : IsName s) : Byn s := fun b hb => by
  have := h.1 b hb
  simp [nameB, letterB, digitB] at this
  omega
theorem byn_text {s : List Nat} (h : IsText s) : Byn s := fun b hb => by
  have := h.1 b hb
  simp [textB] at this
  omega
theorem byn_comma : ∀ {ks : List (List Nat)}, (∀ k ∈ ks, Byn k) → Byn (commaT ks)
  | [], _ => fun b hb => by cases hb
  | t :: r, h => byn_app (byn_app (fun b hb => by simp at hb; omega) (h t (by simp))) (byn_comma fun k hk => h k (by simp [hk]))
theorem byn_list {ks : List (List Nat)} (h : ∀ k ∈ ks, Byn k) : Byn (listT (atK ks) ks.length) := by
  rw [listT_join]
  refine byn_app (byn_app (fun b hb => by simp at hb; omega) ?_) (fun b hb => by simp at hb; omega)
  cases ks with
  | nil => exact fun b hb => by cases hb
  | cons t r => exact byn_app (h t (by simp)) (byn_comma fun k hk => h k (by simp [hk]))
theorem showL_f2 {l : List Ex} {tss : List (List Tok)} (h : F2 Good l tss) : F2 Pc (showL l) tss ∧ (∀ k ∈ showL l, Byn k) ∧ (∀ z g, F2 (Prt z (exprP z g) SimE) l tss) ∧ ∀ b ∈ tss, ∃ t u, b = t :: u ∧ isOne [[41]] t = false := by
  induction h with
  | nil => exact ⟨.nil, fun k hk => by simp [showL] at hk, fun _ _ => .nil, fun b hb => by cases hb⟩
  | @cons a b l m h _ ih =>
    refine ⟨?_, fun k hk => ?_, fun z g => .cons (fun ts' r hal hs => h.pe.expr z g ts' r hal hs) (ih.2.2.1 z g), fun c hc => ?_⟩
    · simp only [showL]; exact .cons h.pc ih.1
    · simp only [showL] at hk
      rcases List.mem_cons.1 hk with rfl | hk
      · exact h.by_
      · exact ih.2.1 k hk
    · rcases List.mem_cons.1 hc with rfl | hc
      · obtain ⟨t, u, rfl, ht⟩ := h.fst
        refine ⟨t, u, rfl, ?_⟩
        rcases ht with ht | ht | ht | ⟨ht, hm⟩
        · exact not_one (by omega) _
        · exact not_one (by omega) _
        · exact not_one (by omega) _
        · rw [isOne_of ht]
          simp only [firstS, List.mem_cons, List.not_mem_nil, or_false] at hm
          rcases hm with h | h | h | h | h | h | h | h <;> rw [h] <;> decide
      · exact ih.2.2.2 c hc
theorem hLaE' : ∀ (l l' : List Ex) (v v' : Ex), SimL l l' → SimE v v' → SimL (l ++ [v]) (l' ++ [v']) := fun _ _ _ _ h k => h.append (SimL.one k)
theorem pe_call {s : List Nat} {l : List Ex} {tss : List (List Tok)} (p : Nat) (h : F2 Good l tss) : PeO (.mk 5 0 s l p) (nm s :: ([sgn [40]] ++ joinK tss ++ [sgn [41]])) := fun z g ts' r hal hr => by
  obtain ⟨t, q, rfl, ⟨hk, ht, hn⟩, hal⟩ := alike_cons hal
  cases g with
  | zero => exact .inl ⟨_, rfl⟩
  | succ g =>
    have hk' : t.kind = 1 := hk.symm
    rw [List.cons_append, one_step z g t _ (not_one (by omega) _)]
    have hl := list_rd hLaE' SimL.nil ((showL_f2 h).2.2.1 z g) (showL_f2 h).2.2.2 (r := r) hal
    have hsee : seesT z [[40]] (q ++ r) = true := by
      obtain ⟨o, q', rfl, ho, _⟩ := alike_cons hal
      obtain ⟨ok, ot⟩ := like_sgn ho
      show isOne [[40]] o = true
      rw [isOne_of ok, ot]; decide
    unfold primaryP namedP takeT
    simp only [peekT, hk', List.tail_cons]
    simp [hsee]
    exact hl.bind fun v hv => .ok ⟨rfl, rfl, ht, hv⟩
theorem we_good {e : Ex} (h : WE e) : ∃ ts, Good e ts := by
  induction h with
  | num n p h =>
    refine ⟨[nmb n], ⟨?_, pe_num n p, ⟨_, _, rfl, .inr (.inl rfl)⟩, noset_one, ?_, ?_⟩⟩
    · simpa [showE_eq, showOp, Ex.op, Ex.num] using num_pc h
    · obtain ⟨hd, hne⟩ := decN_dig n
      obtain ⟨b, s, hb⟩ := List.exists_cons_of_ne_nil hne
      refine ⟨b, s, by simpa [showE_eq, showOp, Ex.op, Ex.num] using hb, ?_⟩
      have := hd b (by rw [hb]; simp)
      simp [digitB] at this
      omega
    · intro b hb
      have : b ∈ decN n := by simpa [showE_eq, showOp, Ex.op, Ex.num] using hb
      have := (decN_dig n).1 b this
      simp [digitB] at this
      omega
  | bool n p h =>
    refine ⟨[sgn (boolT n)], ⟨?_, pe_bool n p h, ?_, noset_one, ?_, ?_⟩⟩
    · have : Pc (boolT n) [sgn (boolT n)] := by rcases h with rfl | rfl <;> exact word_pc (by decide)
      simpa [showE_eq, showOp, Ex.op, Ex.num] using this
    · exact ⟨_, _, rfl, .inr (.inr (.inr ⟨rfl, by rcases h with rfl | rfl <;> decide⟩))⟩
    · rcases h with rfl | rfl
      · exact ⟨102, [97, 108, 115, 101], by simp [showE_eq, showOp, Ex.op, Ex.num, boolT], by decide⟩
      · exact ⟨116, [114, 117, 101], by simp [showE_eq, showOp, Ex.op, Ex.num, boolT], by decide⟩
    · have : Byn (boolT n) := by rcases h with rfl | rfl <;> (intro b hb; simp [boolT] at hb; omega)
      simpa [showE_eq, showOp, Ex.op, Ex.num] using this
  | text s p h =>
    refine ⟨[txt s], ⟨?_, pe_text s p, ⟨_, _, rfl, .inr (.inr (.inl rfl))⟩, noset_one, ⟨34, s ++ [34], by simp [showE_eq, showOp, Ex.op, Ex.num, Ex.text], by decide⟩, ?_⟩⟩
    · simpa [showE_eq, showOp, Ex.op, Ex.num, Ex.text] using (text_ps h).pc
    · have : Byn ([34] ++ s ++ [34]) := byn_app (byn_app (fun b hb => by simp at hb; omega) (byn_text h)) (fun b hb => by simp at hb; omega)
      simpa [showE_eq, showOp, Ex.op, Ex.num, Ex.text] using this
  | name s p h =>
    refine ⟨[nm s], ⟨?_, pe_name s p, ⟨_, _, rfl, .inl rfl⟩, noset_one, ?_, ?_⟩⟩
    · simpa [showE_eq, showOp, Ex.op, Ex.num, Ex.text] using name_pc h
    · obtain ⟨b, r, hb, hl⟩ := h.2.2.2
      refine ⟨b, r, by simpa [showE_eq, showOp, Ex.op, Ex.num, Ex.text] using hb, ?_⟩
      simp [letterB] at hl
      omega
    · simpa [showE_eq, showOp, Ex.op, Ex.num, Ex.text] using byn_name h
  | call s l p h hl ih =>
    obtain ⟨tss, hf⟩ := f2_of ih
    have hsh : showE (.mk 5 0 s l p) = s ++ listT (atK (showL l)) (showL l).length := by simp [showE_eq, showOp, Ex.op, Ex.num, Ex.text, Ex.kids, opT]
    refine ⟨nm s :: ([sgn [40]] ++ joinK tss ++ [sgn [41]]), ⟨?_, pe_call p hf, ⟨_, _, rfl, .inl rfl⟩, noset_cons (.inr (by decide)), ?_, ?_⟩⟩
    · rw [hsh]
      exact ((name_pc h).app (list_ps (showL_f2 hf).1) (brk_list _ _)).pc
    · obtain ⟨b, r, hb, hl⟩ := h.2.2.2
      refine ⟨b, r ++ listT (atK (showL l)) (showL l).length, by rw [hsh, hb]; rfl, ?_⟩
      simp [letterB] at hl
      omega
    · rw [hsh]
      exact byn_app (byn_name h) (byn_list (showL_f2 hf).2.1)
  | two s x y p h hx hy ihx ihy =>
    obtain ⟨xs, gx⟩ := ihx
    obtain ⟨ys, gy⟩ := ihy
    have hsh : showE (.mk 6 0 s [x, y] p) = [40] ++ (showE x ++ ([32] ++ ((s ++ [32]) ++ showE y))) ++ [41] := by simp [showE_eq (.mk 6 0 s [x, y] p), showOp, Ex.op, Ex.num, Ex.text, Ex.kids, showL, atK]
    refine ⟨[sgn [40]] ++ (xs ++ ([sgn s] ++ ys)) ++ [sgn [41]], ⟨?_, pe_two p h gx.pe gy.pe, ⟨_, _, rfl, .inr (.inr (.inr ⟨rfl, by decide⟩))⟩, noset_first (by decide), ⟨40, _, by rw [hsh]; rfl, by decide⟩, ?_⟩⟩
    · rw [hsh]
      have h1 : Pc ([32] ++ ((s ++ [32]) ++ showE y)) ([] ++ ([sgn s] ++ ys)) := sp.appc ((sign2 (.inl h)).appc gy.pc)
      have h2 : Pc (showE x ++ ([32] ++ ((s ++ [32]) ++ showE y))) (xs ++ ([] ++ ([sgn s] ++ ys))) := gx.pc.appc h1 (fun r => brkc (b := 32) (by decide) _ _)
      have h3 := ((sign1 (b := 40) (by decide)).appc h2).app (sign1 (b := 41) (by decide)) (fun r => brkc (b := 41) (by decide) _ _)
      simpa using h3.pc
    · rw [hsh]
      have hs : Byn s := by
        simp only [binS, sOr, sAnd, sCmp, sSum, sProd, List.mem_cons, List.mem_append, List.not_mem_nil, or_false] at h
        rcases h with (((rfl | rfl) | (rfl | rfl | rfl | rfl | rfl | rfl)) | (rfl | rfl)) | (rfl | rfl | rfl) <;> (intro b hb; simp at hb; omega)
      exact byn_app (byn_app (fun b hb => by simp at hb; omega) (byn_app gx.by_ (byn_app (fun b hb => by simp at hb; omega) (byn_app (byn_app hs (fun b hb => by simp at hb; omega)) gy.by_)))) (fun b hb => by simp at hb; omega)
  | one s x p h hx ih =>
    obtain ⟨xs, gx⟩ := ih
    have hsh : showE (.mk 7 0 s [x] p) = s ++ showE x := by simp [showE_eq (.mk 7 0 s [x] p), showOp, Ex.op, Ex.num, Ex.text, Ex.kids, showL, atK]
    have hs : s = [45] ∨ s = [33] := by simpa [sOne] using h
    refine ⟨sgn s :: xs, ⟨?_, pe_one p h gx.pe, ⟨_, _, rfl, .inr (.inr (.inr ⟨rfl, by rcases hs with rfl | rfl <;> decide⟩))⟩, noset_first (by show (4 : Nat) ≠ 1; decide), ?_, ?_⟩⟩
    · rw [hsh]
      intro r us hb hl
      obtain ⟨b, q, hq, hne⟩ := gx.hd
      rw [List.append_assoc]
      refine sign3 h ?_ (gx.pc r us hb hl)
      rw [hq]
      simp [hne]
    · rw [hsh]
      rcases hs with rfl | rfl
      · exact ⟨45, _, rfl, by decide⟩
      · exact ⟨33, _, rfl, by decide⟩
    · rw [hsh]
      exact byn_app (by rcases hs with rfl | rfl <;> (intro b hb; simp at hb; omega)) gx.by_
  | word k x p h hx ih =>
    obtain ⟨xs, gx⟩ := ih
    obtain ⟨w, hw, hwm⟩ : ∃ w, ((k = 8 ∧ w = [103, 101, 116]) ∨ (k = 9 ∧ w = [104, 97, 115]) ∨ (k = 10 ∧ w = [108, 101, 110])) ∧ w ∈ wordsN := by
      rcases h with rfl | rfl | rfl
      · exact ⟨_, .inl ⟨rfl, rfl⟩, by decide⟩
      · exact ⟨_, .inr (.inl ⟨rfl, rfl⟩), by decide⟩
      · exact ⟨_, .inr (.inr ⟨rfl, rfl⟩), by decide⟩
    have hsh : showE (.mk k 0 [] [x] p) = w ++ ([40] ++ (showE x ++ [41])) := by
      rcases hw with ⟨rfl, rfl⟩ | ⟨rfl, rfl⟩ | ⟨rfl, rfl⟩ <;> simp [showE_eq (.mk _ 0 [] [x] p), showOp, Ex.op, Ex.num, Ex.text, Ex.kids, showL, atK, opT, listT, listed]
    refine ⟨sgn w :: ([sgn [40]] ++ xs ++ [sgn [41]]), ⟨?_, pe_word p w hw gx.pe.expr, ⟨_, _, rfl, .inr (.inr (.inr ⟨rfl, by rcases hw with ⟨_, rfl⟩ | ⟨_, rfl⟩ | ⟨_, rfl⟩ <;> decide⟩))⟩, noset_first (by show (4 : Nat) ≠ 1; decide), ?_, ?_⟩⟩
    · rw [hsh]
      have h1 : Ps ([40] ++ (showE x ++ [41])) ([sgn [40]] ++ (xs ++ [sgn [41]])) := (sign1 (b := 40) (by decide)).app (gx.pc.app (sign1 (b := 41) (by decide)) (fun r => brkc (b := 41) (by decide) _ _))
      have h2 := (word_pc hwm).app h1 (fun r => brkc (b := 40) (by decide) _ _)
      simpa using h2.pc
    · rw [hsh]
      rcases hw with ⟨_, rfl⟩ | ⟨_, rfl⟩ | ⟨_, rfl⟩ <;> exact ⟨_, _, rfl, by decide⟩
    · rw [hsh]
      exact byn_app (by rcases hw with ⟨_, rfl⟩ | ⟨_, rfl⟩ | ⟨_, rfl⟩ <;> (intro b hb; simp at hb; omega)) (byn_app (fun b hb => by simp at hb; omega) (byn_app gx.by_ (fun b hb => by simp at hb; omega)))
end

section
set_option maxRecDepth 100000
set_option linter.unusedSimpArgs false
set_option linter.unusedVariables false

abbrev wElse : List Nat := [101, 108, 115, 101]
/-- tokens that are read as a statement, and as a block -/
def PsS (s : St) (ts : List Tok) : Prop := ∀ (z g : Nat) (ts' r : List Tok), Alike ts ts' → seesT z [wElse] r = false → Rd (SimS s) (stmtP z (exprP z g) (blockP z g) (ts' ++ r)) r
def PsB (l : List St) (ts : List Tok) : Prop := ∀ (z g : Nat) (ts' r : List Tok), Alike ts ts' → Rd (SimB l) (blockP z g (ts' ++ r)) r
def FstS (ts : List Tok) : Prop := ∃ t u, ts = t :: u ∧ isOne [[125]] t = false ∧ isOne [wElse] t = false
structure GoodS (s : St) (ts : List Tok) : Prop where
  ps : Ps (showS s) ts
  pp : PsS s ts
  fst : FstS ts
  by_ : Byn (showS s)
theorem fstS_sgn {s : List Nat} (u : List Tok) (h1 : ([[125]] : List (List Nat)).contains s = false) (h2 : ([wElse] : List (List Nat)).contains s = false) : FstS (sgn s :: u) := ⟨_, _, rfl, by rw [isOne_of rfl]; exact h1, by rw [isOne_of rfl]; exact h2⟩
theorem fstS_of {ts : List Tok} (h : Fst ts) (u : List Tok) : FstS (ts ++ u) := by
  obtain ⟨t, v, rfl, ht⟩ := h
  refine ⟨t, v ++ u, rfl, ?_, ?_⟩
  all_goals
    rcases ht with ht | ht | ht | ⟨ht, hm⟩
    · exact not_one (by omega) _
    · exact not_one (by omega) _
    · exact not_one (by omega) _
    · rw [isOne_of ht]
      simp only [firstS, List.mem_cons, List.not_mem_nil, or_false] at hm
      rcases hm with h | h | h | h | h | h | h | h <;> rw [h] <;> decide
/-- it begins with none of these -/
theorem fst_not {ts ts' r : List Tok} (h : Fst ts) (hal : Alike ts ts') (z : Nat) (ss : List (List Nat)) (hs : ∀ s ∈ firstS, ss.contains s = false) : seesT z ss (ts' ++ r) = false := by
  obtain ⟨t, v, rfl, ht⟩ := h
  obtain ⟨a, l, rfl, ha, _⟩ := alike_cons hal
  rw [List.cons_append, sees_cons', ← isOne_like ha]
  rcases ht with ht | ht | ht | ⟨ht, hm⟩
  · exact not_one (by omega) _
  · exact not_one (by omega) _
  · exact not_one (by omega) _
  · rw [isOne_of ht]; exact hs _ hm
theorem name_not {t : Tok} {s : List Nat} (h : likeT (nm s) t) (z : Nat) (ss : List (List Nat)) (r : List Tok) : seesT z ss (t :: r) = false := by
  rw [sees_cons']
  exact not_one (by have := h.1; simp at this; omega) ss
theorem simB_snoc {l l' : List St} {s s' : St} (h : SimB l l') (k : SimS s s') : SimB (l ++ [s]) (l' ++ [s']) := h.append (SimB.one k)
theorem moreS_rd {z : Nat} {p : Par St} {l : List St} {tss : List (List Tok)} (h : F2 (fun s ts => FstS ts ∧ ∀ ts' r, Alike ts ts' → seesT z [wElse] r = false → Rd (SimS s) (p (ts' ++ r)) r) l tss) :
    ∀ (f : Nat) (acc acc' : List St) (ts' r : List Tok), Alike (tss.flatten ++ [sgn [125]]) ts' → l.length ≤ f → SimB acc acc' → Rd (SimB (acc ++ l)) (moreS z p f acc' (ts' ++ r)) r := by
  induction h with
  | nil =>
    intro f acc acc' ts' r hal hf hL
    obtain ⟨t, rfl, ht⟩ := alike_one hal
    obtain ⟨tk, tt⟩ := like_sgn ht
    have hn : seesT z [[125]] (t :: r) = true := by rw [sees_cons', isOne_of tk, tt]; decide
    have e : moreS z p f acc' ([t] ++ r) = .ok acc' r := by
      cases f with
      | zero => unfold moreS; rw [List.cons_append, List.nil_append, if_pos hn]; rfl
      | succ f => unfold moreS; rw [List.cons_append, List.nil_append, if_pos hn]; rfl
    rw [e, List.append_nil]
    exact .ok hL
  | @cons a b l m h hm ih =>
    intro f acc acc' ts' r hal hf hL
    replace hal : Alike (b ++ (m.flatten ++ [sgn [125]])) ts' := by rw [← List.append_assoc]; simpa using hal
    obtain ⟨q1, q2, rfl, hq1, hq2⟩ := Alike.split hal
    obtain ⟨⟨t, u, rfl, ht1, ht2⟩, hp⟩ := h
    obtain ⟨y, q, rfl, hy, hq⟩ := alike_cons hq1
    have hns : seesT z [[125]] ((y :: q ++ q2) ++ r) = false := by
      show isOne [[125]] y = false
      rw [← isOne_like hy]; exact ht1
    have hel : seesT z [wElse] (q2 ++ r) = false := by
      cases hm with
      | nil =>
        obtain ⟨c, rfl, hc⟩ := alike_one hq2
        obtain ⟨ck, ct⟩ := like_sgn hc
        show isOne [wElse] c = false
        rw [isOne_of ck, ct]; decide
      | cons h2 _ =>
        obtain ⟨⟨t2, u2, rfl, _, h4⟩, _⟩ := h2
        obtain ⟨c, q', rfl, hc, _⟩ := alike_cons hq2
        show isOne [wElse] c = false
        rw [← isOne_like hc]; exact h4
    cases f with
    | zero => simp at hf
    | succ f =>
      unfold moreS
      rw [if_neg (by rw [hns]; decide), List.append_assoc]
      refine (hp _ _ hq1 hel).bind fun v hv => ?_
      have := ih f (acc ++ [a]) (acc' ++ [v]) q2 r hq2 (by simp at hf; omega) (simB_snoc hL hv)
      rw [List.append_assoc] at this
      exact this
theorem flat_len {α : Type} : ∀ (m : List (List α)), (∀ b ∈ m, b ≠ []) → m.length ≤ m.flatten.length
  | [], _ => Nat.le_refl _
  | b :: m, h => by
    have h1 := flat_len m fun c hc => h c (by simp [hc])
    have h2 := List.length_pos_iff.2 (h b (by simp))
    simp only [List.flatten_cons, List.length_append, List.length_cons]
    omega
theorem block_rd {l : List St} {tss : List (List Tok)} (h : F2 GoodS l tss) : PsB l ([sgn [123]] ++ tss.flatten ++ [sgn [125]]) := fun z g ts' r hal => by
  cases g with
  | zero => exact .inl ⟨_, rfl⟩
  | succ g =>
    rw [List.append_assoc] at hal
    obtain ⟨a, b, rfl, ha, hb⟩ := Alike.split hal
    obtain ⟨o, rfl, ho⟩ := alike_one ha
    obtain ⟨ok, ot⟩ := like_sgn ho
    have h2 : F2 (fun s ts => FstS ts ∧ ∀ ts' r, Alike ts ts' → seesT z [wElse] r = false → Rd (SimS s) (stmtP z (exprP z g) (blockP z g) (ts' ++ r)) r) l tss := by
      clear hb hal
      induction h with
      | nil => exact .nil
      | cons h _ ih => exact .cons ⟨h.fst, fun ts' r h1 h3 => h.pp z g ts' r h1 h3⟩ ih
    have hne : ∀ b ∈ tss, b ≠ [] := by
      clear h2 hb hal
      induction h with
      | nil => exact fun b hb => by cases hb
      | cons h _ ih =>
        intro b hb
        rcases List.mem_cons.1 hb with rfl | hb
        · obtain ⟨t, u, e, _⟩ := h.fst
          rw [e]; simp
        · exact ih b hb
    unfold blockP
    show Rd _ ((wantT z [123] (([o] ++ b) ++ r)).bind _) r
    rw [List.append_assoc, List.cons_append, List.nil_append, want_ok ok ot]
    have hlen := hb.length
    have := moreS_rd h2 (b ++ r).length [] [] b r hb (by
      have h3 := flat_len tss hne
      have h4 := h.len
      rw [List.length_append] at hlen ⊢
      omega) .nil
    simpa using this
/-- a block's text -/
theorem block_ps {l : List St} {tss : List (List Tok)} (h : F2 GoodS l tss) : Ps (blockT (showB l)) ([sgn [123]] ++ tss.flatten ++ [sgn [125]]) ∧ Byn (blockT (showB l)) := by
  have h1 : Ps (showB l ++ [32, 125]) (tss.flatten ++ [sgn [125]]) ∧ Byn (showB l) := by
    induction h with
    | nil =>
      refine ⟨?_, fun b hb => by simp [showB] at hb⟩
      have := sp.app (sign1 (b := 125) (by decide))
      simpa [showB] using this
    | @cons a b l m h _ ih =>
      refine ⟨?_, ?_⟩
      · have := (sp.app h.ps).app ih.1
        simpa [showB] using this
      · simp only [showB]
        exact byn_app (byn_app (fun b hb => by simp at hb; omega) h.by_) ih.2
  refine ⟨?_, ?_⟩
  · have := (sign1 (b := 123) (by decide)).app h1.1
    simpa [blockT] using this
  · unfold blockT
    exact byn_app (byn_app (fun b hb => by simp at hb; omega) h1.2) (fun b hb => by simp at hb; omega)
theorem brk_block (x r : List Nat) : Brk (blockT x ++ r) := by unfold blockT; exact brkc (b := 123) (by decide) _ _

section
variable {x y : Ex} {xs ys : List Tok}
theorem set_rd (s : List Nat) (hx : PeX x xs) (z g : Nat) {ts' r : List Tok} (hal : Alike (nm s :: sgn [61] :: xs) ts') (hs : Stops z r) : Rd (fun v => v.1 = s ∧ SimE x v.2) (setP z (exprP z g) (ts' ++ r)) r := by
  obtain ⟨a, l, rfl, ha, hal⟩ := alike_cons hal
  obtain ⟨b, q, rfl, hb, hal⟩ := alike_cons hal
  obtain ⟨bk, bt⟩ := like_sgn hb
  have hk : a.kind = 1 := ha.1.symm
  unfold setP nameP takeT
  simp only [List.cons_append, peekT, hk, if_true, List.tail_cons, Res.bind_ok]
  rw [want_ok bk bt]
  refine (hx z g q r hal hs).bind fun v hv => .ok ⟨ha.2.1.symm, hv⟩
theorem pair_rd (hx : PeX x xs) (hy : PeX y ys) (z g : Nat) {ts' r : List Tok} (hal : Alike ([sgn [40]] ++ (xs ++ ([sgn [44]] ++ ys)) ++ [sgn [41]]) ts') : Rd (fun l => ∃ v u, l = [v, u] ∧ SimE x v ∧ SimE y u) (pairP z (exprP z g) (ts' ++ r)) r := by
  obtain ⟨a, b, rfl, ha, hb⟩ := Alike.split hal
  obtain ⟨a1, a2, rfl, h1, h2⟩ := Alike.split ha
  obtain ⟨o, rfl, ho⟩ := alike_one h1
  obtain ⟨c, rfl, hc⟩ := alike_one hb
  obtain ⟨u1, u2, rfl, hu1, hu2⟩ := Alike.split h2
  obtain ⟨v1, v2, rfl, hv1, hv2⟩ := Alike.split hu2
  obtain ⟨t, rfl, ht⟩ := alike_one hv1
  obtain ⟨ok, ot⟩ := like_sgn ho
  obtain ⟨ck, ct⟩ := like_sgn hc
  obtain ⟨tk, tt⟩ := like_sgn ht
  have e : ([o] ++ (u1 ++ ([t] ++ v2)) ++ [c]) ++ r = o :: (u1 ++ (t :: (v2 ++ (c :: r)))) := by simp
  unfold pairP
  rw [e, want_ok ok ot]
  refine (hx z g u1 _ hu1 (stops_sgn ht (by decide))).bind fun v hv => ?_
  rw [want_ok tk tt]
  refine (hy z g v2 _ hv2 (stops_sgn hc (by decide))).bind fun u hu => ?_
  rw [want_ok ck ct]
  exact .ok ⟨v, u, rfl, hv, hu⟩
/-- a statement that ends with a semicolon -/
theorem simple_stmt {s : St} {us : List Tok} (hif : ∀ z r us', Alike us us' → seesT z [[105, 102]] (us' ++ r) = false ∧ seesT z [[102, 111, 114]] (us' ++ r) = false)
    (h : ∀ z g us' t r, Alike us us' → likeT (sgn [59]) t → Rd (SimS s) (simpleP z (exprP z g) (us' ++ (t :: r))) (t :: r)) : PsS s (us ++ [sgn [59]]) := fun z g ts' r hal hr => by
  obtain ⟨a, b, rfl, ha, hb⟩ := Alike.split hal
  obtain ⟨t, rfl, ht⟩ := alike_one hb
  obtain ⟨tk, tt⟩ := like_sgn ht
  have e : (a ++ [t]) ++ r = a ++ (t :: r) := by simp
  rw [e]
  obtain ⟨h1, h2⟩ := hif z (t :: r) a ha
  unfold stmtP
  rw [if_neg (by rw [h1]; decide), if_neg (by rw [h2]; decide)]
  refine Rd.bind (ρ := SimS s) ((h z g a t r ha ht).bind fun v hv => ?_) fun v hv => .ok ⟨hv.1, hv.2.1, hv.2.2.1, hv.2.2.2.1, hv.2.2.2.2⟩
  rw [want_ok tk tt]
  exact .ok hv
theorem sgn_sees {s : List Nat} {t : Tok} {l : List Tok} (h : likeT (sgn s) t) (z : Nat) (ss : List (List Nat)) (r : List Tok) : seesT z ss (t :: l ++ r) = ss.contains s := by
  obtain ⟨tk, tt⟩ := like_sgn h
  rw [List.cons_append, sees_cons', isOne_of tk, tt]
end

theorem ws_good {s : St} (h : WS s) : ∃ ts, GoodS s ts := by
  induction h with
  | bind s x p h hx =>
    obtain ⟨xs, gx⟩ := we_good hx
    have hsh : showS (.mk 1 s [x] [] [] p) = ([108, 101, 116] ++ ([32] ++ (s ++ ([32] ++ (([61] ++ [32]) ++ showE x))))) ++ [59] := by simp [showS_eq, showSt, St.op, St.text, St.exprs, St.body, St.els, showL, setT, atK]
    refine ⟨(sgn [108, 101, 116] :: nm s :: sgn [61] :: xs) ++ [sgn [59]], ⟨?_, ?_, fstS_sgn _ (by decide) (by decide), ?_⟩⟩
    · rw [hsh]
      have h1 : Pc ([32] ++ (([61] ++ [32]) ++ showE x)) ([] ++ ([sgn [61]] ++ xs)) := sp.appc ((sign2 (.inr rfl)).appc gx.pc)
      have h2 := (name_pc h).appc h1 (fun r => brkc (b := 32) (by decide) _ _)
      have h3 := ((word_pc (s := [108, 101, 116]) (by decide)).appc (sp.appc h2) (fun r => brkc (b := 32) (by decide) _ _)).app (sign1 (b := 59) (by decide)) (fun r => brkc (b := 59) (by decide) _ _)
      simpa using h3
    · refine simple_stmt (fun z r us' hal => ?_) fun z g us' t r hal ht => ?_
      · obtain ⟨a, l, rfl, ha, _⟩ := alike_cons hal
        exact ⟨by rw [sgn_sees ha]; decide, by rw [sgn_sees ha]; decide⟩
      · obtain ⟨a, l, rfl, ha, hal⟩ := alike_cons hal
        unfold simpleP
        rw [if_pos (by rw [sgn_sees ha]; decide)]
        exact (set_rd s gx.pe.expr z g hal (stops_sgn ht (by decide))).bind fun v hv => .ok ⟨rfl, hv.1.symm, .one hv.2, .nil, .nil⟩
    · rw [hsh]
      exact byn_app (byn_app (fun b hb => by simp at hb; omega) (byn_app (fun b hb => by simp at hb; omega) (byn_app (byn_name h) (byn_app (fun b hb => by simp at hb; omega) (byn_app (fun b hb => by simp at hb; omega) gx.by_))))) (fun b hb => by simp at hb; omega)
  | set s x p h hx =>
    obtain ⟨xs, gx⟩ := we_good hx
    have hsh : showS (.mk 2 s [x] [] [] p) = (s ++ ([32] ++ (([61] ++ [32]) ++ showE x))) ++ [59] := by simp [showS_eq, showSt, St.op, St.text, St.exprs, St.body, St.els, showL, setT, atK]
    refine ⟨(nm s :: sgn [61] :: xs) ++ [sgn [59]], ⟨?_, ?_, ⟨_, _, rfl, not_one (by show (1 : Nat) ≠ 4; decide) _, not_one (by show (1 : Nat) ≠ 4; decide) _⟩, ?_⟩⟩
    · rw [hsh]
      have h1 : Pc ([32] ++ (([61] ++ [32]) ++ showE x)) ([] ++ ([sgn [61]] ++ xs)) := sp.appc ((sign2 (.inr rfl)).appc gx.pc)
      have h2 := ((name_pc h).appc h1 (fun r => brkc (b := 32) (by decide) _ _)).app (sign1 (b := 59) (by decide)) (fun r => brkc (b := 59) (by decide) _ _)
      simpa using h2
    · refine simple_stmt (fun z r us' hal => ?_) fun z g us' t r hal ht => ?_
      · obtain ⟨a, l, rfl, ha, _⟩ := alike_cons hal
        exact ⟨name_not ha z _ _, name_not ha z _ _⟩
      · have hal0 := hal
        obtain ⟨a, l, rfl, ha, hal⟩ := alike_cons hal
        obtain ⟨b, q, rfl, hb, hal⟩ := alike_cons hal
        obtain ⟨bk, bt⟩ := like_sgn hb
        have hk : a.kind = 1 := ha.1.symm
        unfold simpleP
        rw [if_neg (by rw [List.cons_append, name_not ha]; decide), if_neg (by rw [List.cons_append, name_not ha]; decide), if_neg (by rw [List.cons_append, name_not ha]; decide), if_neg (by rw [List.cons_append, name_not ha]; decide), if_pos (by simp [setsT, hk, isOne_of bk, bt])]
        exact (set_rd s gx.pe.expr z g hal0 (stops_sgn ht (by decide))).bind fun v hv => .ok ⟨rfl, hv.1.symm, .one hv.2, .nil, .nil⟩
    · rw [hsh]
      exact byn_app (byn_app (byn_name h) (byn_app (fun b hb => by simp at hb; omega) (byn_app (fun b hb => by simp at hb; omega) gx.by_))) (fun b hb => by simp at hb; omega)
  | ret0 p =>
    have hsh : showS (.mk 5 [] [] [] [] p) = [114, 101, 116, 117, 114, 110] ++ [59] := by simp [showS_eq, showSt, St.op, St.text, St.exprs, St.body, St.els, showL, setT, atK]
    refine ⟨[sgn [114, 101, 116, 117, 114, 110]] ++ [sgn [59]], ⟨?_, ?_, fstS_sgn _ (by decide) (by decide), ?_⟩⟩
    · rw [hsh]
      exact (word_pc (by decide)).app (sign1 (b := 59) (by decide)) (fun r => brkc (b := 59) (by decide) _ _)
    · refine simple_stmt (fun z r us' hal => ?_) fun z g us' t r hal ht => ?_
      · obtain ⟨a, l, rfl, ha, _⟩ := alike_cons hal
        exact ⟨by rw [sgn_sees ha]; decide, by rw [sgn_sees ha]; decide⟩
      · obtain ⟨a, rfl, ha⟩ := alike_one hal
        obtain ⟨tk, tt⟩ := like_sgn ht
        unfold simpleP
        rw [if_neg (by rw [sgn_sees ha]; decide), if_pos (by rw [sgn_sees ha]; decide)]
        show Rd _ (if seesT z [[59]] (t :: r) = true then _ else _) _
        rw [if_pos (by rw [sees_cons', isOne_of tk, tt]; decide)]
        exact .ok ⟨rfl, rfl, .nil, .nil, .nil⟩
    · rw [hsh]
      exact fun b hb => by simp at hb; omega
  | ret x p hx =>
    obtain ⟨xs, gx⟩ := we_good hx
    have hsh : showS (.mk 5 [] [x] [] [] p) = ([114, 101, 116, 117, 114, 110] ++ ([32] ++ showE x)) ++ [59] := by simp [showS_eq, showSt, St.op, St.text, St.exprs, St.body, St.els, showL, setT, atK]
    refine ⟨(sgn [114, 101, 116, 117, 114, 110] :: xs) ++ [sgn [59]], ⟨?_, ?_, fstS_sgn _ (by decide) (by decide), ?_⟩⟩
    · rw [hsh]
      have h2 := ((word_pc (s := [114, 101, 116, 117, 114, 110]) (by decide)).appc (sp.appc gx.pc) (fun r => brkc (b := 32) (by decide) _ _)).app (sign1 (b := 59) (by decide)) (fun r => brkc (b := 59) (by decide) _ _)
      simpa using h2
    · refine simple_stmt (fun z r us' hal => ?_) fun z g us' t r hal ht => ?_
      · obtain ⟨a, l, rfl, ha, _⟩ := alike_cons hal
        exact ⟨by rw [sgn_sees ha]; decide, by rw [sgn_sees ha]; decide⟩
      · obtain ⟨a, l, rfl, ha, hal⟩ := alike_cons hal
        unfold simpleP
        rw [if_neg (by rw [sgn_sees ha]; decide), if_pos (by rw [sgn_sees ha]; decide)]
        show Rd _ (if seesT z [[59]] (l ++ (t :: r)) = true then _ else (exprP z g (l ++ (t :: r))).bind _) _
        rw [if_neg (by rw [fst_not gx.fst hal z [[59]] (by decide)]; decide)]
        exact (gx.pe.expr z g l _ hal (stops_sgn ht (by decide))).bind fun v hv => .ok ⟨rfl, rfl, .one hv, .nil, .nil⟩
    · rw [hsh]
      exact byn_app (byn_app (fun b hb => by simp at hb; omega) (byn_app (fun b hb => by simp at hb; omega) gx.by_)) (fun b hb => by simp at hb; omega)
  | put x y p hx hy =>
    obtain ⟨xs, gx⟩ := we_good hx
    obtain ⟨ys, gy⟩ := we_good hy
    have hsh : showS (.mk 6 [] [x, y] [] [] p) = ([112, 117, 116] ++ ([40] ++ (showE x ++ ([44] ++ ([32] ++ showE y))) ++ [41])) ++ [59] := by simp [showS_eq, showSt, St.op, St.text, St.exprs, St.body, St.els, showL, opT, listT, listed, atK]
    refine ⟨(sgn [112, 117, 116] :: ([sgn [40]] ++ (xs ++ ([sgn [44]] ++ ys)) ++ [sgn [41]])) ++ [sgn [59]], ⟨?_, ?_, fstS_sgn _ (by decide) (by decide), ?_⟩⟩
    · rw [hsh]
      have h1 : Pc ([44] ++ ([32] ++ showE y)) ([sgn [44]] ++ ([] ++ ys)) := (sign1 (b := 44) (by decide)).appc (sp.appc gy.pc)
      have h2 := ((sign1 (b := 40) (by decide)).appc (gx.pc.appc h1 (fun r => brkc (b := 44) (by decide) _ _))).app (sign1 (b := 41) (by decide)) (fun r => brkc (b := 41) (by decide) _ _)
      have h3 := ((word_pc (s := [112, 117, 116]) (by decide)).app h2 (fun r => brkc (b := 40) (by decide) _ _)).app (sign1 (b := 59) (by decide))
      simpa using h3
    · refine simple_stmt (fun z r us' hal => ?_) fun z g us' t r hal ht => ?_
      · obtain ⟨a, l, rfl, ha, _⟩ := alike_cons hal
        exact ⟨by rw [sgn_sees ha]; decide, by rw [sgn_sees ha]; decide⟩
      · obtain ⟨a, l, rfl, ha, hal⟩ := alike_cons hal
        unfold simpleP
        rw [if_neg (by rw [sgn_sees ha]; decide), if_neg (by rw [sgn_sees ha]; decide), if_pos (by rw [sgn_sees ha]; decide)]
        refine (pair_rd gx.pe.expr gy.pe.expr z g hal).bind fun v hv => ?_
        obtain ⟨v1, v2, rfl, s1, s2⟩ := hv
        exact .ok ⟨rfl, rfl, .cons s1.1 s1.2.1 s1.2.2.1 s1.2.2.2 (.one s2), .nil, .nil⟩
    · rw [hsh]
      exact byn_app (byn_app (fun b hb => by simp at hb; omega) (byn_app (byn_app (fun b hb => by simp at hb; omega) (byn_app gx.by_ (byn_app (fun b hb => by simp at hb; omega) (byn_app (fun b hb => by simp at hb; omega) gy.by_)))) (fun b hb => by simp at hb; omega))) (fun b hb => by simp at hb; omega)
  | del x p hx =>
    obtain ⟨xs, gx⟩ := we_good hx
    have hsh : showS (.mk 7 [] [x] [] [] p) = ([100, 101, 108] ++ ([40] ++ (showE x ++ [41]))) ++ [59] := by simp [showS_eq, showSt, St.op, St.text, St.exprs, St.body, St.els, showL, opT, listT, listed, atK]
    refine ⟨(sgn [100, 101, 108] :: ([sgn [40]] ++ xs ++ [sgn [41]])) ++ [sgn [59]], ⟨?_, ?_, fstS_sgn _ (by decide) (by decide), ?_⟩⟩
    · rw [hsh]
      have h2 := (sign1 (b := 40) (by decide)).app (gx.pc.app (sign1 (b := 41) (by decide)) (fun r => brkc (b := 41) (by decide) _ _))
      have h3 := ((word_pc (s := [100, 101, 108]) (by decide)).app h2 (fun r => brkc (b := 40) (by decide) _ _)).app (sign1 (b := 59) (by decide))
      simpa using h3
    · refine simple_stmt (fun z r us' hal => ?_) fun z g us' t r hal ht => ?_
      · obtain ⟨a, l, rfl, ha, _⟩ := alike_cons hal
        exact ⟨by rw [sgn_sees ha]; decide, by rw [sgn_sees ha]; decide⟩
      · obtain ⟨a, l, rfl, ha, hal⟩ := alike_cons hal
        unfold simpleP
        rw [if_neg (by rw [sgn_sees ha]; decide), if_neg (by rw [sgn_sees ha]; decide), if_neg (by rw [sgn_sees ha]; decide), if_pos (by rw [sgn_sees ha]; decide)]
        refine (enclosed_rd gx.pe.expr z g hal).bind fun v hv => ?_
        obtain ⟨v1, rfl, s1⟩ := hv
        exact .ok ⟨rfl, rfl, .one s1, .nil, .nil⟩
    · rw [hsh]
      exact byn_app (byn_app (fun b hb => by simp at hb; omega) (byn_app (fun b hb => by simp at hb; omega) (byn_app gx.by_ (fun b hb => by simp at hb; omega)))) (fun b hb => by simp at hb; omega)
  | expr x p hx =>
    obtain ⟨xs, gx⟩ := we_good hx
    have hsh : showS (.mk 8 [] [x] [] [] p) = showE x ++ [59] := by simp [showS_eq, showSt, St.op, St.text, St.exprs, St.body, St.els, showL, atK]
    refine ⟨xs ++ [sgn [59]], ⟨?_, ?_, fstS_of gx.fst _, ?_⟩⟩
    · rw [hsh]
      exact gx.pc.app (sign1 (b := 59) (by decide)) (fun r => brkc (b := 59) (by decide) _ _)
    · refine simple_stmt (fun z r us' hal => ?_) fun z g us' t r hal ht => ?_
      · exact ⟨fst_not gx.fst hal z _ (by decide), fst_not gx.fst hal z _ (by decide)⟩
      · obtain ⟨tk, tt⟩ := like_sgn ht
        unfold simpleP
        rw [if_neg (by rw [fst_not gx.fst hal z _ (by decide)]; decide), if_neg (by rw [fst_not gx.fst hal z _ (by decide)]; decide), if_neg (by rw [fst_not gx.fst hal z _ (by decide)]; decide), if_neg (by rw [fst_not gx.fst hal z _ (by decide)]; decide), if_neg (by rw [gx.ns z us' (t :: r) hal (by rw [sees_cons', isOne_of tk, tt]; decide)]; decide)]
        exact (gx.pe.expr z g us' _ hal (stops_sgn ht (by decide))).bind fun v hv => .ok ⟨rfl, rfl, .one hv, .nil, .nil⟩
    · rw [hsh]
      exact byn_app gx.by_ (fun b hb => by simp at hb; omega)
  | choice x l m p hx hl hm ihl ihm =>
    obtain ⟨xs, gx⟩ := we_good hx
    obtain ⟨ls, fl⟩ := f2_of ihl
    obtain ⟨ms, fm⟩ := f2_of ihm
    obtain ⟨pl, bl⟩ := block_ps fl
    obtain ⟨pm, bm⟩ := block_ps fm
    cases hme : m with
    | nil =>
      have hsh : showS (.mk 3 [] [x] l [] p) = [105, 102] ++ ([32] ++ (showE x ++ ([32] ++ blockT (showB l)))) := by simp [showS_eq, showSt, St.op, St.text, St.exprs, St.body, St.els, showL, atK]
      refine ⟨sgn [105, 102] :: (xs ++ ([sgn [123]] ++ ls.flatten ++ [sgn [125]])), ⟨?_, ?_, fstS_sgn _ (by decide) (by decide), ?_⟩⟩
      · rw [hsh]
        have h1 := gx.pc.app (sp.app pl) (fun r => brkc (b := 32) (by decide) _ _)
        have h2 := (word_pc (s := [105, 102]) (by decide)).app (sp.app h1) (fun r => brkc (b := 32) (by decide) _ _)
        simpa using h2
      · intro z g ts' r hal hr
        obtain ⟨a, q, rfl, ha, hal⟩ := alike_cons hal
        obtain ⟨q1, q2, rfl, h1, h2⟩ := Alike.split hal
        obtain ⟨o, q3, rfl, ho, _⟩ := alike_cons h2
        unfold stmtP
        rw [if_pos (by rw [sgn_sees ha]; decide)]
        refine Rd.bind (ρ := SimS (.mk 3 [] [x] l [] p)) ?_ fun v hv => .ok ⟨hv.1, hv.2.1, hv.2.2.1, hv.2.2.2.1, hv.2.2.2.2⟩
        show Rd _ (choiceP z (exprP z g) (blockP z g) ((q1 ++ (o :: q3)) ++ r)) r
        rw [List.append_assoc]
        unfold choiceP
        refine (gx.pe.expr z g q1 _ h1 (stops_sgn ho (by decide))).bind fun v hv => ?_
        refine (block_rd fl z g _ r h2).bind fun u hu => ?_
        rw [if_neg (by rw [hr]; decide)]
        exact .ok ⟨rfl, rfl, .one hv, hu, .nil⟩
      · rw [hsh]
        exact byn_app (fun b hb => by simp at hb; omega) (byn_app (fun b hb => by simp at hb; omega) (byn_app gx.by_ (byn_app (fun b hb => by simp at hb; omega) bl)))
    | cons m0 mr =>
      rw [hme] at fm pm bm
      have hsh : showS (.mk 3 [] [x] l (m0 :: mr) p) = [105, 102] ++ ([32] ++ (showE x ++ ([32] ++ (blockT (showB l) ++ ([32] ++ (wElse ++ ([32] ++ blockT (showB (m0 :: mr))))))))) := by simp [showS_eq, showSt, St.op, St.text, St.exprs, St.body, St.els, showL, atK]
      refine ⟨sgn [105, 102] :: (xs ++ (([sgn [123]] ++ ls.flatten ++ [sgn [125]]) ++ (sgn wElse :: ([sgn [123]] ++ ms.flatten ++ [sgn [125]])))), ⟨?_, ?_, fstS_sgn _ (by decide) (by decide), ?_⟩⟩
      · rw [hsh]
        have h0 := (word_pc (s := wElse) (by decide)).app (sp.app pm) (fun r => brkc (b := 32) (by decide) _ _)
        have h1 := gx.pc.app (sp.app (pl.app (sp.app h0))) (fun r => brkc (b := 32) (by decide) _ _)
        have h2 := (word_pc (s := [105, 102]) (by decide)).app (sp.app h1) (fun r => brkc (b := 32) (by decide) _ _)
        simpa using h2
      · intro z g ts' r hal hr
        obtain ⟨a, q, rfl, ha, hal⟩ := alike_cons hal
        obtain ⟨q1, q2, rfl, h1, h2⟩ := Alike.split hal
        obtain ⟨q4, q5, rfl, h3, h4⟩ := Alike.split h2
        obtain ⟨o, q3, e3, ho, _⟩ := alike_cons h3
        obtain ⟨w, q6, rfl, hw, h5⟩ := alike_cons h4
        obtain ⟨wk, wt⟩ := like_sgn hw
        unfold stmtP
        rw [if_pos (by rw [sgn_sees ha]; decide)]
        refine Rd.bind (ρ := SimS (.mk 3 [] [x] l (m0 :: mr) p)) ?_ fun v hv => .ok ⟨hv.1, hv.2.1, hv.2.2.1, hv.2.2.2.1, hv.2.2.2.2⟩
        show Rd _ (choiceP z (exprP z g) (blockP z g) ((q1 ++ (q4 ++ (w :: q6))) ++ r)) r
        have e : (q1 ++ (q4 ++ (w :: q6))) ++ r = q1 ++ (q4 ++ (w :: (q6 ++ r))) := by simp
        rw [e]
        unfold choiceP
        refine (gx.pe.expr z g q1 _ h1 (by rw [e3]; exact stops_sgn ho (by decide))).bind fun v hv => ?_
        refine (block_rd fl z g q4 _ h3).bind fun u hu => ?_
        rw [if_pos (by rw [sees_cons', isOne_of wk, wt]; decide)]
        refine (block_rd fm z g q6 r h5).bind fun u2 hu2 => ?_
        exact .ok ⟨rfl, rfl, .one hv, hu, hu2⟩
      · rw [hsh]
        exact byn_app (fun b hb => by simp at hb; omega) (byn_app (fun b hb => by simp at hb; omega) (byn_app gx.by_ (byn_app (fun b hb => by simp at hb; omega) (byn_app bl (byn_app (fun b hb => by simp at hb; omega) (byn_app (fun b hb => by simp at hb; omega) (byn_app (fun b hb => by simp at hb; omega) bm)))))))
  | loop s x y l p h hx hy hl ihl =>
    obtain ⟨xs, gx⟩ := we_good hx
    obtain ⟨ys, gy⟩ := we_good hy
    obtain ⟨ls, fl⟩ := f2_of ihl
    obtain ⟨pl, bl⟩ := block_ps fl
    have hsh : showS (.mk 4 s [x, y] l [] p) = [102, 111, 114] ++ ([32] ++ (s ++ ([32] ++ (([61] ++ [32]) ++ (showE x ++ ([32] ++ ([116, 111] ++ ([32] ++ (showE y ++ ([32] ++ blockT (showB l))))))))))) := by simp [showS_eq, showSt, St.op, St.text, St.exprs, St.body, St.els, showL, setT, atK]
    refine ⟨sgn [102, 111, 114] :: ((nm s :: sgn [61] :: xs) ++ (sgn [116, 111] :: (ys ++ ([sgn [123]] ++ ls.flatten ++ [sgn [125]])))), ⟨?_, ?_, fstS_sgn _ (by decide) (by decide), ?_⟩⟩
    · rw [hsh]
      have h1 := gy.pc.app (sp.app pl) (fun r => brkc (b := 32) (by decide) _ _)
      have h2 := (word_pc (s := [116, 111]) (by decide)).app (sp.app h1) (fun r => brkc (b := 32) (by decide) _ _)
      have h3 := (sign2 (s := [61]) (.inr rfl)).app (gx.pc.app (sp.app h2) (fun r => brkc (b := 32) (by decide) _ _))
      have h4 := (name_pc h).app (sp.app h3) (fun r => brkc (b := 32) (by decide) _ _)
      have h5 := (word_pc (s := [102, 111, 114]) (by decide)).app (sp.app h4) (fun r => brkc (b := 32) (by decide) _ _)
      simpa using h5
    · intro z g ts' r hal hr
      obtain ⟨a, q, rfl, ha, hal⟩ := alike_cons hal
      obtain ⟨q1, q2, rfl, h1, h2⟩ := Alike.split hal
      obtain ⟨w, q3, rfl, hw, h3⟩ := alike_cons h2
      obtain ⟨q4, q5, rfl, h4, h5⟩ := Alike.split h3
      obtain ⟨o, q6, e6, ho, _⟩ := alike_cons h5
      obtain ⟨wk, wt⟩ := like_sgn hw
      unfold stmtP
      rw [if_neg (by rw [sgn_sees ha]; decide), if_pos (by rw [sgn_sees ha]; decide)]
      refine Rd.bind (ρ := SimS (.mk 4 s [x, y] l [] p)) ?_ fun v hv => .ok ⟨hv.1, hv.2.1, hv.2.2.1, hv.2.2.2.1, hv.2.2.2.2⟩
      show Rd _ (loopP z (exprP z g) (blockP z g) ((q1 ++ (w :: (q4 ++ q5))) ++ r)) r
      have e : (q1 ++ (w :: (q4 ++ q5))) ++ r = q1 ++ (w :: (q4 ++ (q5 ++ r))) := by simp
      rw [e]
      unfold loopP
      refine (set_rd s gx.pe.expr z g h1 (stops_sgn hw (by decide))).bind fun v hv => ?_
      rw [want_ok wk wt]
      refine (gy.pe.expr z g q4 _ h4 (by rw [e6]; exact stops_sgn ho (by decide))).bind fun u hu => ?_
      refine (block_rd fl z g q5 r h5).bind fun b hb => ?_
      exact .ok ⟨rfl, hv.1.symm, .cons hv.2.1 hv.2.2.1 hv.2.2.2.1 hv.2.2.2.2 (.one hu), hb, .nil⟩
    · rw [hsh]
      exact byn_app (fun b hb => by simp at hb; omega) (byn_app (fun b hb => by simp at hb; omega) (byn_app (byn_name h) (byn_app (fun b hb => by simp at hb; omega) (byn_app (fun b hb => by simp at hb; omega) (byn_app gx.by_ (byn_app (fun b hb => by simp at hb; omega) (byn_app (fun b hb => by simp at hb; omega) (byn_app (fun b hb => by simp at hb; omega) (byn_app gy.by_ (byn_app (fun b hb => by simp at hb; omega) bl))))))))))
end

section
set_option maxRecDepth 100000
set_option linter.unusedSimpArgs false
set_option linter.unusedVariables false

def parT (p : List Nat × Nat) : List Nat := p.1 ++ ([58] ++ ([32] ++ typeT p.2))
theorem paramT_map (l : List (List Nat × Nat)) : paramT l = atK (l.map parT) := by
  funext i
  unfold paramT atK
  rw [List.getElem?_map]
  cases l[i]? with
  | none => rfl
  | some p => simp [parT]
theorem type_pc {t : Nat} (h : 1 ≤ t ∧ t ≤ 3) : Pc (typeT t) [sgn (typeT t)] ∧ Byn (typeT t) := by
  have : t = 1 ∨ t = 2 ∨ t = 3 := by omega
  rcases this with rfl | rfl | rfl <;> exact ⟨word_pc (by decide), fun b hb => by simp [typeT] at hb; omega⟩
theorem type_rd {t : Nat} (h : 1 ≤ t ∧ t ≤ 3) {a : Tok} (ha : likeT (sgn (typeT t)) a) (z : Nat) (r : List Tok) : typeP z (a :: r) = .ok t r := by
  obtain ⟨ak, at_⟩ := like_sgn ha
  have : t = 1 ∨ t = 2 ∨ t = 3 := by omega
  unfold typeP
  simp only [sees_cons', isOne_of ak, at_, List.tail_cons]
  rcases this with rfl | rfl | rfl
  · rw [if_pos (by decide)]
  · rw [if_neg (by decide), if_pos (by decide)]
  · rw [if_neg (by decide), if_neg (by decide), want_ok (s := [98, 121, 116, 101, 115]) ak at_]
    rfl
def parK (p : List Nat × Nat) : List Tok := [nm p.1] ++ ([sgn [58]] ++ [sgn (typeT p.2)])
theorem params_f2 : ∀ {l : List (List Nat × Nat)}, (∀ p ∈ l, IsName p.1 ∧ 1 ≤ p.2 ∧ p.2 ≤ 3) → F2 Pc (l.map parT) (l.map parK) ∧ (∀ k ∈ l.map parT, Byn k) ∧ (∀ z, F2 (Prt z (paramP z) (· = ·)) l (l.map parK)) ∧ ∀ b ∈ l.map parK, ∃ t u, b = t :: u ∧ isOne [[41]] t = false
  | [], _ => ⟨.nil, (fun k hk => by cases hk), (fun _ => .nil), (fun b hb => by cases hb)⟩
  | p :: l, h => by
    obtain ⟨i1, i2, i3, i4⟩ := params_f2 (l := l) fun q hq => h q (by simp [hq])
    obtain ⟨h1, h2⟩ := h p (by simp)
    refine ⟨.cons ?_ i1, ?_, fun z => .cons (fun ts' r hal hs => ?_) (i3 z), ?_⟩
    · have := (name_pc h1).appc ((sign1 (b := 58) (by decide)).appc (sp.appc (type_pc h2).1)) (fun r => brkc (b := 58) (by decide) _ _)
      simpa [parT, parK] using this
    · intro k hk
      rcases List.mem_cons.1 hk with rfl | hk
      · exact byn_app (byn_name h1) (byn_app (fun b hb => by simp at hb; omega) (byn_app (fun b hb => by simp at hb; omega) (type_pc h2).2))
      · exact i2 k hk
    · obtain ⟨a, q, rfl, ha, hal⟩ := alike_cons (t := nm p.1) (a := [sgn [58]] ++ [sgn (typeT p.2)]) hal
      obtain ⟨b, q2, rfl, hb, hal⟩ := alike_cons hal
      obtain ⟨c, rfl, hc⟩ := alike_one hal
      obtain ⟨bk, bt⟩ := like_sgn hb
      have hk : a.kind = 1 := ha.1.symm
      unfold paramP nameP takeT
      simp only [List.cons_append, List.nil_append, peekT, hk, if_true, List.tail_cons, Res.bind_ok]
      rw [want_ok bk bt]
      simp only [Res.bind_ok]
      rw [type_rd h2 hc]
      refine .ok ?_
      have := ha.2.1
      cases p
      simp at this
      simp [this]
    · intro b hb
      rcases List.mem_cons.1 hb with rfl | hb
      · exact ⟨_, _, rfl, not_one (by show (1 : Nat) ≠ 4; decide) _⟩
      · exact i4 b hb
structure GoodF (f : Fu) (ts : List Tok) : Prop where
  ps : Ps (showF f) ts
  pp : ∀ (z : Nat) (ts' r : List Tok), Alike ts ts' → Rd (SimF f) (funcP z (ts' ++ r)) r
  ne : ts ≠ []
  by_ : Byn (showF f)
theorem body_f2 {l : List St} (h : ∀ s ∈ l, WS s) : ∃ tss, F2 GoodS l tss := f2_of fun s hs => ws_good (h s hs)
theorem wf_good {f : Fu} (h : WF f) : ∃ ts, GoodF f ts := by
  obtain ⟨h1, h2, h3, h4⟩ := h
  obtain ⟨tss, hb⟩ := body_f2 h4
  obtain ⟨pb, bb⟩ := block_ps hb
  obtain ⟨i1, i2, i3, i4⟩ := params_f2 h2
  have hlen : f.params.length = (f.params.map parT).length := by simp
  have pl := list_ps i1
  rw [← hlen, ← paramT_map] at pl
  have bl := byn_list i2
  rw [← hlen, ← paramT_map] at bl
  have brl : ∀ r, Brk (listT (paramT f.params) f.params.length ++ r) := fun r => brk_list _ _ r
  by_cases hr : f.result = 0
  · have hsh : showF f = [102, 110] ++ ([32] ++ (f.name ++ (listT (paramT f.params) f.params.length ++ ([32] ++ (blockT (showB f.body) ++ [10]))))) := by simp [showF, hr]
    refine ⟨sgn [102, 110] :: nm f.name :: (([sgn [40]] ++ joinK (f.params.map parK) ++ [sgn [41]]) ++ ([sgn [123]] ++ tss.flatten ++ [sgn [125]])), ⟨?_, ?_, by simp, ?_⟩⟩
    · rw [hsh]
      have k1 := (name_pc h1).app (pl.app (sp.app (pb.app nl))) (fun r => by rw [List.append_assoc]; exact brl _)
      have k2 := (word_pc (s := [102, 110]) (by decide)).app (sp.app k1) (fun r => brkc (b := 32) (by decide) _ _)
      simpa using k2
    · intro z ts' r hal
      obtain ⟨a, q, rfl, ha, hal⟩ := alike_cons hal
      obtain ⟨b, q, rfl, hbn, hal⟩ := alike_cons hal
      obtain ⟨q1, q2, rfl, k1, k2⟩ := Alike.split hal
      obtain ⟨o, q3, e3, ho, _⟩ := alike_cons k2
      obtain ⟨ak, at_⟩ := like_sgn ha
      obtain ⟨ok, ot⟩ := like_sgn ho
      have hk : b.kind = 1 := hbn.1.symm
      have e : (a :: b :: (q1 ++ q2)) ++ r = a :: b :: (q1 ++ (q2 ++ r)) := by simp
      rw [e]
      unfold funcP nameP takeT
      rw [want_ok ak at_]
      simp only [peekT, hk, if_true, List.tail_cons, Res.bind_ok]
      refine Rd.bind (list_rd (L := (· = ·)) (fun _ _ _ _ h k => by rw [h, k]) rfl (i3 z) i4 (r := q2 ++ r) k1) fun l hl => ?_
      subst hl
      have hns : seesT z [[58]] (q2 ++ r) = false := by rw [e3, List.cons_append, sees_cons', isOne_of ok, ot]; decide
      rw [if_neg (by rw [hns]; decide)]
      simp only [Res.bind_ok]
      refine (block_rd hb z 32 q2 r k2).bind fun bd hbd => ?_
      exact .ok ⟨hbn.2.1, rfl, hr, hbd⟩
    · rw [hsh]
      exact byn_app (fun b hb => by simp at hb; omega) (byn_app (fun b hb => by simp at hb; omega) (byn_app (byn_name h1) (byn_app bl (byn_app (fun b hb => by simp at hb; omega) (byn_app bb (fun b hb => by simp at hb; omega))))))
  · have ht : 1 ≤ f.result ∧ f.result ≤ 3 := by omega
    have hsh : showF f = [102, 110] ++ ([32] ++ (f.name ++ (listT (paramT f.params) f.params.length ++ ([58] ++ ([32] ++ (typeT f.result ++ ([32] ++ (blockT (showB f.body) ++ [10])))))))) := by simp [showF, hr]
    refine ⟨sgn [102, 110] :: nm f.name :: (([sgn [40]] ++ joinK (f.params.map parK) ++ [sgn [41]]) ++ (sgn [58] :: sgn (typeT f.result) :: ([sgn [123]] ++ tss.flatten ++ [sgn [125]]))), ⟨?_, ?_, by simp, ?_⟩⟩
    · rw [hsh]
      have k0 := (sign1 (b := 58) (by decide)).app (sp.app ((type_pc ht).1.app (sp.app (pb.app nl)) (fun r => brkc (b := 32) (by decide) _ _)))
      have k1 := (name_pc h1).app (pl.app k0) (fun r => by rw [List.append_assoc]; exact brl _)
      have k2 := (word_pc (s := [102, 110]) (by decide)).app (sp.app k1) (fun r => brkc (b := 32) (by decide) _ _)
      simpa using k2
    · intro z ts' r hal
      obtain ⟨a, q, rfl, ha, hal⟩ := alike_cons hal
      obtain ⟨b, q, rfl, hbn, hal⟩ := alike_cons hal
      obtain ⟨q1, q2, rfl, k1, k2⟩ := Alike.split hal
      obtain ⟨o, q3, rfl, ho, k3⟩ := alike_cons k2
      obtain ⟨y, q4, rfl, hy, k4⟩ := alike_cons k3
      obtain ⟨ak, at_⟩ := like_sgn ha
      obtain ⟨ok, ot⟩ := like_sgn ho
      have hk : b.kind = 1 := hbn.1.symm
      have e : (a :: b :: (q1 ++ (o :: y :: q4))) ++ r = a :: b :: (q1 ++ (o :: y :: (q4 ++ r))) := by simp
      rw [e]
      unfold funcP nameP takeT
      rw [want_ok ak at_]
      simp only [peekT, hk, if_true, List.tail_cons, Res.bind_ok]
      refine Rd.bind (list_rd (L := (· = ·)) (fun _ _ _ _ h k => by rw [h, k]) rfl (i3 z) i4 (r := o :: y :: (q4 ++ r)) k1) fun l hl => ?_
      subst hl
      rw [if_pos (by rw [sees_cons', isOne_of ok, ot]; decide), List.tail_cons, type_rd ht hy]
      simp only [Res.bind_ok]
      refine (block_rd hb z 32 q4 r k4).bind fun bd hbd => ?_
      exact .ok ⟨hbn.2.1, rfl, rfl, hbd⟩
    · rw [hsh]
      exact byn_app (fun b hb => by simp at hb; omega) (byn_app (fun b hb => by simp at hb; omega) (byn_app (byn_name h1) (byn_app bl (byn_app (fun b hb => by simp at hb; omega) (byn_app (fun b hb => by simp at hb; omega) (byn_app (type_pc ht).2 (byn_app (fun b hb => by simp at hb; omega) (byn_app bb (fun b hb => by simp at hb; omega)))))))))
theorem simF_snoc {l l' : List Fu} {s s' : Fu} (h : SimFs l l') (k : SimF s s') : SimFs (l ++ [s]) (l' ++ [s']) := h.append (.cons k .nil)
theorem moreF_rd {z : Nat} {l : List Fu} {tss : List (List Tok)} (h : F2 GoodF l tss) :
    ∀ (f : Nat) (acc acc' : List Fu) (ts' : List Tok), Alike tss.flatten ts' → l.length ≤ f → SimFs acc acc' → Rd (SimFs (acc ++ l)) (moreF z f acc' ts') [] := by
  induction h with
  | nil =>
    intro f acc acc' ts' hal hf hL
    have := alike_nil hal
    subst this
    have e : moreF z f acc' [] = .ok acc' [] := by
      cases f with
      | zero => rfl
      | succ f => unfold moreF; simp
    rw [e, List.append_nil]
    exact .ok hL
  | @cons a b l m h _ ih =>
    intro f acc acc' ts' hal hf hL
    obtain ⟨q1, q2, rfl, hq1, hq2⟩ := Alike.split (a := b) (b := m.flatten) hal
    have hne : (q1 ++ q2).isEmpty = false := by
      obtain ⟨t, u, rfl⟩ := List.exists_cons_of_ne_nil h.ne
      obtain ⟨y, q, rfl, _, _⟩ := alike_cons hq1
      rfl
    cases f with
    | zero => simp at hf
    | succ f =>
      unfold moreF
      rw [if_neg (by rw [hne]; decide)]
      refine (h.pp z q1 q2 hq1).bind fun v hv => ?_
      have := ih f (acc ++ [a]) (acc' ++ [v]) q2 hq2 (by simp at hf; omega) (simF_snoc hL hv)
      rw [List.append_assoc] at this
      exact this
theorem shown_f2 {l : List Fu} {tss : List (List Tok)} (h : F2 GoodF l tss) : Ps (shown l) tss.flatten ∧ Byn (shown l) ∧ ∀ b ∈ tss, b ≠ [] := by
  induction h with
  | nil => exact ⟨Ps.empty, (fun b hb => by cases hb), (fun b hb => by cases hb)⟩
  | @cons a b l m h _ ih =>
    refine ⟨?_, ?_, ?_⟩
    · have := h.ps.app ih.1
      simpa [shown] using this
    · have := byn_app h.by_ ih.2.1
      simpa [shown] using this
    · intro c hc
      rcases List.mem_cons.1 hc with rfl | hc
      · exact h.ne
      · exact ih.2.2 c hc
/-- what is shown of a program that is well made reads as it, but for places, or is too long, or too deep -/
theorem back_plain {fs : List Fu} (h : All WF fs) : Byn (shown fs) ∧ ((parsed (shown fs)).err = 2 ∨ (parsed (shown fs)).err = 42 ∨ ((parsed (shown fs)).err = 0 ∧ SimFs fs (parsed (shown fs)).funcs)) := by
  obtain ⟨tss, hf⟩ := f2_of (R := GoodF) (l := fs) fun f hm => wf_good (h f hm)
  obtain ⟨h1, h2, h3⟩ := shown_f2 hf
  refine ⟨h2, ?_⟩
  unfold parsed
  rcases lexed_lex h1.lex with he | ⟨he, hal⟩
  · rw [if_neg (by rw [he]; decide)]
    exact .inl he
  · rw [if_pos he]
    have hlen := hal.length
    have := moreF_rd (z := (shown fs).length) hf (lexed (shown fs)).toks.length [] [] _ hal (by
      have h4 := flat_len tss h3
      have h5 := hf.len
      omega) .nil
    rcases this with ⟨q, e⟩ | ⟨v, e, hv⟩
    · have e' : programP (shown fs).length (lexed (shown fs)).toks = .bad 42 q := e
      rw [e']
      exact .inr (.inl rfl)
    · have e' : programP (shown fs).length (lexed (shown fs)).toks = .ok v [] := e
      rw [e']
      exact .inr (.inr ⟨rfl, by simpa using hv⟩)
/-- places are not shown -/
theorem showL_sim {l l' : List Ex} (h : SimL l l') : showL l = showL l' := by
  induction h with
  | nil => rfl
  | cons ho hn ht _ _ ihk ihl => simp only [showL]; rw [ihl, showE_eq, showE_eq, ho, hn, ht, ihk]
theorem showB_sim {l l' : List St} (h : SimB l l') : showB l = showB l' ∧ l.isEmpty = l'.isEmpty := by
  induction h with
  | nil => exact ⟨rfl, rfl⟩
  | cons ho ht he _ _ _ ihb ihf ihl => exact ⟨by simp only [showB]; rw [ihl.1, showS_eq, showS_eq, ho, ht, showL_sim he, ihb.1, ihf.1, ihf.2], rfl⟩
theorem shown_sim {l l' : List Fu} (h : SimFs l l') : shown l = shown l' := by
  induction h with
  | nil => rfl
  | cons hf _ ih =>
    simp only [shown, List.flatMap_cons] at ih ⊢
    rw [ih]
    unfold showF
    rw [hf.1, hf.2.1, hf.2.2.1, (showB_sim hf.2.2.2).1]
theorem SimFs.len {l l' : List Fu} (h : SimFs l l') : l.length = l'.length := by
  induction h with
  | nil => rfl
  | cons _ _ ih => simp [ih]
end

section
set_option maxRecDepth 100000
set_option linter.unusedSimpArgs false
set_option linter.unusedVariables false

/-- what is read of good tokens has at most 200 for each of them, and k -/
def Sz {α : Type} (k : Int) (m : α → Nat) (p : Par α) : Prop := ∀ ts v r, (∀ t ∈ ts, GoodT t) → p ts = .ok v r → (m v : Int) + 200 * (r.length : Int) ≤ 200 * (ts.length : Int) + k
section
variable {α β : Type} {Q : α → Prop} {m m' : α → Nat} {n : β → Nat} {k j : Int}
theorem Sz.pure {v : α} : Sz (m v) m (fun ts => .ok v ts) := fun ts v r hg hr => by
  injection hr with h1 h2
  subst h1 h2
  omega
theorem Sz.bind {p : Par α} {f : α → Par β} (hy : Yd Q p) (hp : Sz k m p) (hf : ∀ v, Q v → Sz (m v + j) n (f v)) : Sz (k + j) n (fun ts => (p ts).bind f) := fun ts v r hg hr => by
  obtain ⟨a, s, h1, h2⟩ := bind_inv hr
  obtain ⟨q, hg2⟩ := hy ts a s hg h1
  have e1 := hp ts a s hg h1
  have e2 := hf a q s v r hg2 h2
  omega
theorem Sz.weak {p : Par α} {k' : Int} (h : Sz k m p) (hk : k ≤ k') (hm : ∀ v, m' v ≤ m v) : Sz k' m' p := fun ts v r hg hr => by
  have := h ts v r hg hr
  have := hm v
  omega
theorem Sz.look {z : Nat} {ss : List (List Nat)} {p q : Par α} (hp : Sz (k + 200) m p) (hq : Sz k m q) : Sz k m (fun ts => if seesT z ss ts then p ts.tail else q ts) := fun ts v r hg hr => by
  dsimp only at hr
  split at hr
  · rename_i hs
    have h1 := hp _ v r (good_tail hg) hr
    have h2 := sees_tail hs
    omega
  · exact hq ts v r hg hr
end
theorem sz_want (z : Nat) (s : List Nat) : Sz (-200) (fun _ => 0) (wantT z s) := fun ts v r hg hr => by
  have := takes_want z s ts v r hr
  dsimp only
  omega
theorem sz_take (z k : Nat) (hk : k ≠ 0) : Sz (-200) (fun _ => 0) (takeT z k) := fun ts v r hg hr => by
  have := takes_take z k hk ts v r hr
  dsimp only
  omega
theorem sz_name (z : Nat) : Sz (-184) List.length (nameP z) := fun ts v r hg hr => by
  have h1 := takes_name z ts v r hr
  have h2 := (yd_name z ts v r hg hr).1.2.1
  omega
abbrev lenE (e : Ex) : Nat := (showE e).length
theorem len_two (s : List Nat) (x y : Ex) (p : Nat) : lenE (.mk 6 0 s [x, y] p) = lenE x + lenE y + s.length + 4 := by
  simp [lenE, showE_eq (.mk 6 0 s [x, y] p), showOp, Ex.op, Ex.num, Ex.text, Ex.kids, showL, atK]
  omega
theorem len_bin {s : List Nat} (h : s ∈ binS) : s.length ≤ 2 := by
  simp only [binS, sOr, sAnd, sCmp, sSum, sProd, List.mem_cons, List.mem_append, List.not_mem_nil, or_false] at h
  rcases h with (((rfl | rfl) | (rfl | rfl | rfl | rfl | rfl | rfl)) | (rfl | rfl)) | (rfl | rfl | rfl) <;> decide
theorem sz_moreG (z : Nat) (ss : List (List Nat)) (hs : ∀ s ∈ ss, s ∈ binS) (p : Par Ex) (hy : Yd WE p) (hp : Sz 0 lenE p) : ∀ f x, Sz (lenE x) lenE (moreG z ss p f x)
  | 0, x => Sz.pure
  | f + 1, x => fun ts v r hg hr => by
    unfold moreG at hr
    split at hr
    · rename_i hse
      obtain ⟨y, s, h1, h2⟩ := bind_inv hr
      obtain ⟨_, hg2⟩ := hy _ _ _ (good_tail hg) h1
      have e1 := hp _ _ _ (good_tail hg) h1
      have e2 := sz_moreG z ss hs p hy hp f _ s v r hg2 h2
      have e3 := sees_tail hse
      have e4 := len_two (peekT z ts).text x y (peekT z ts).place
      have e5 := len_bin (hs _ (sees_mem hse))
      omega
    · exact Sz.pure (m := lenE) ts v r hg hr
theorem sz_grouped (z : Nat) (ss : List (List Nat)) (hs : ∀ s ∈ ss, s ∈ binS) (p : Par Ex) (hy : Yd WE p) (hp : Sz 0 lenE p) : Sz 0 lenE (groupedP z ss p) := fun ts v r hg hr => by
  unfold groupedP at hr
  obtain ⟨x, s, h1, h2⟩ := bind_inv hr
  obtain ⟨_, hg2⟩ := hy _ _ _ hg h1
  have e1 := hp _ _ _ hg h1
  have e2 := sz_moreG z ss hs p hy hp _ x s v r hg2 h2
  omega
theorem sz_sum (z : Nat) (one : Par Ex) (hy : Yd WE one) (h : Sz 0 lenE one) : Sz 0 lenE (sumP z one) := sz_grouped z _ inSum _ (yd_grouped z _ inProd _ hy) (sz_grouped z _ inProd _ hy h)
theorem sz_compare (z : Nat) (one : Par Ex) (hy : Yd WE one) (h : Sz 0 lenE one) : Sz 0 lenE (compareP z one) := fun ts v r hg hr => by
  unfold compareP at hr
  obtain ⟨x, s, h1, h2⟩ := bind_inv hr
  obtain ⟨_, hg2⟩ := yd_sum z one hy _ _ _ hg h1
  have e1 := sz_sum z one hy h _ _ _ hg h1
  split at h2
  · rename_i hse
    unfold joinedP at h2
    obtain ⟨t, s2, h3, h4⟩ := bind_inv h2
    obtain ⟨y, s3, h5, h6⟩ := bind_inv h4
    obtain ⟨_, hg3⟩ := yd_take z 4 _ _ _ hg2 h3
    have e2 := sz_sum z one hy h _ _ _ hg3 h5
    have e3 := takes_take z 4 (by decide) _ _ _ h3
    have ht : t = peekT z s := by
      unfold takeT at h3
      split at h3
      · injection h3 with h3; exact h3.symm
      · cases h3
    injection h6 with h6 h7
    subst h6 h7
    have e4 := len_two t.text x y t.place
    have e5 := len_bin (inCmp t.text (by rw [ht]; exact sees_mem hse))
    omega
  · injection h2 with h6 h7
    subst h6 h7
    omega
theorem sz_levels (z : Nat) (one : Par Ex) (hy : Yd WE one) (h : Sz 0 lenE one) : Sz 0 lenE (levelsP z one) :=
  sz_grouped z _ inOr _ (yd_grouped z _ inAnd _ (yd_compare z one hy)) (sz_grouped z _ inAnd _ (yd_compare z one hy) (sz_compare z one hy h))
/-- of a list: each part, and two more -/
def lenL {α : Type} (m : α → Nat) (l : List α) : Nat := (l.map fun x => m x + 2).sum
theorem lenL_snoc {α : Type} (m : α → Nat) (l : List α) (x : α) : lenL m (l ++ [x]) = lenL m l + m x + 2 := by simp [lenL]; omega
theorem sz_moreL {α : Type} {Q : α → Prop} {m : α → Nat} (z : Nat) (p : Par α) (hy : Yd Q p) (hp : Sz 0 m p) : ∀ f l, Sz ((lenL m l : Int) + -200) (lenL m) (moreL z p f l)
  | 0, l => fun ts v r hg hr => by
    unfold moreL at hr
    obtain ⟨_, s, h1, h2⟩ := bind_inv hr
    have := takes_want z _ _ _ _ h1
    injection h2 with h3 h4
    subst h3 h4
    omega
  | f + 1, l => fun ts v r hg hr => by
    unfold moreL at hr
    split at hr
    · rename_i hse
      obtain ⟨y, s, h1, h2⟩ := bind_inv hr
      obtain ⟨_, hg2⟩ := hy _ _ _ (good_tail hg) h1
      have e1 := hp _ _ _ (good_tail hg) h1
      have e2 := sz_moreL z p hy hp f (l ++ [y]) s v r hg2 h2
      have e3 := sees_tail hse
      rw [lenL_snoc] at e2
      omega
    · obtain ⟨_, s, h1, h2⟩ := bind_inv hr
      have := takes_want z _ _ _ _ h1
      injection h2 with h3 h4
      subst h3 h4
      omega
theorem sz_list {α : Type} {Q : α → Prop} {m : α → Nat} (z : Nat) (p : Par α) (hy : Yd Q p) (hp : Sz 0 m p) : Sz (-398) (lenL m) (listP z p) := fun ts v r hg hr => by
  unfold listP at hr
  obtain ⟨_, s, h1, h2⟩ := bind_inv hr
  have e1 := takes_want z _ _ _ _ h1
  obtain ⟨_, hg1⟩ := yd_want z _ _ _ _ hg h1
  split at h2
  · rename_i hse
    have e3 := sees_tail hse
    injection h2 with h3 h4
    subst h3 h4
    simp [lenL]
    omega
  · obtain ⟨x, s2, h3, h4⟩ := bind_inv h2
    obtain ⟨_, hg2⟩ := hy _ _ _ hg1 h3
    have e2 := hp _ _ _ hg1 h3
    have e3 := sz_moreL z p hy hp _ [x] s2 v r hg2 h4
    have e4 : lenL m [x] = m x + 2 := by simp [lenL]
    omega
theorem sz_enclosed (z : Nat) (e : Par Ex) (hy : Yd WE e) (he : Sz 0 lenE e) : Sz (-400) (fun l => lenE (l.headD (.mk 0 0 [] [] 0))) (enclosedP z e) := by
  refine (Sz.bind (j := -200) (yd_want z _) (sz_want z _) fun _ _ => ?_)
  refine (Sz.bind (j := -200) hy he fun x hx => ?_).weak (by simp) (fun _ => Nat.le_refl _)
  refine (Sz.bind (j := (lenE x : Int)) (yd_want z _) (sz_want z _) fun _ _ => ?_).weak (by omega) (fun _ => Nat.le_refl _)
  exact (Sz.pure (v := [x])).weak (by simp) (fun _ => Nat.le_refl _)
theorem commaT_len : ∀ ks : List (List Nat), (commaT ks).length = (ks.map fun k => k.length + 2).sum
  | [] => rfl
  | t :: r => by simp [commaT, commaT_len r]; omega
theorem join_len (ks : List (List Nat)) : (joinT ks).length ≤ (ks.map fun k => k.length + 2).sum := by
  cases ks with
  | nil => simp [joinT]
  | cons t r => simp [joinT, commaT_len]
theorem showL_map (l : List Ex) : showL l = l.map showE := by
  induction l with
  | nil => simp [showL]
  | cons x r ih => simp [showL, ih]
theorem len_call (s : List Nat) (l : List Ex) (p : Nat) : lenE (.mk 5 0 s l p) ≤ s.length + 2 + lenL lenE l := by
  have h1 : showE (.mk 5 0 s l p) = s ++ listT (atK (showL l)) (showL l).length := by simp [showE_eq, showOp, Ex.op, Ex.num, Ex.text, Ex.kids, opT]
  have h2 := join_len (showL l)
  rw [lenE, h1, listT_join]
  rw [showL_map, List.map_map] at h2
  have h3 : ((l.map ((fun k => k.length + 2) ∘ showE)).sum) = lenL lenE l := rfl
  rw [h3] at h2
  simp [showL_map]
  rw [showL_map] at *
  omega
theorem dec_len : ∀ n, n ≤ 9223372036854775807 → (decN n).length ≤ 19 := by
  have key : ∀ d n, n < 10 ^ (d + 1) → (decN n).length ≤ d + 1 := by
    intro d
    induction d with
    | zero => intro n hn; rw [decN_eq, if_pos (by omega)]; simp
    | succ d ih =>
      intro n hn
      rw [decN_eq]
      split
      · simp
      · have := ih (n / 10) (by
          rw [Nat.pow_succ] at hn
          omega)
        simp
        omega
  intro n hn
  exact key 18 n (by omega)
theorem len_at (e : Ex) (q : Nat) : lenE (e.at q) = lenE e := by
  unfold lenE
  rw [showE_eq, showE_eq e]
  rfl
theorem sz_named (z : Nat) (e : Par Ex) (hy : Yd WE e) (he : Sz 0 lenE e) : Sz 0 lenE (namedP z e) := fun ts v r hg hr => by
  unfold namedP at hr
  obtain ⟨t, s, h1, h2⟩ := bind_inv hr
  obtain ⟨⟨hk, hgt⟩, hg1⟩ := yd_take z 1 _ _ _ hg h1
  have e1 := takes_take z 1 (by decide) _ _ _ h1
  have e2 := (hgt.1 hk).2.1
  split at h2
  · obtain ⟨l, s2, h3, h4⟩ := bind_inv h2
    have e3 := sz_list z e hy he _ _ _ hg1 h3
    injection h4 with h5 h6
    subst h5 h6
    have := len_call t.text l t.place
    omega
  · injection h2 with h5 h6
    subst h5 h6
    have : lenE (.mk 4 0 t.text [] t.place) = t.text.length := by simp [lenE, showE_eq, showOp, Ex.op, Ex.num, Ex.text]
    omega
theorem len_word {k : Nat} (x : Ex) (p : Nat) (h : k = 8 ∨ k = 9 ∨ k = 10) : lenE (.mk k 0 [] [x] p) = lenE x + 5 := by
  rcases h with rfl | rfl | rfl <;> simp [lenE, showE_eq (.mk _ 0 [] [x] p), showOp, Ex.op, Ex.num, Ex.text, Ex.kids, showL, atK, opT, listT, listed] <;> omega
theorem sz_wordk (z : Nat) (e : Par Ex) (hy : Yd WE e) (he : Sz 0 lenE e) {k : Nat} (hk : k = 8 ∨ k = 9 ∨ k = 10) : Sz 0 lenE (fun ts => (enclosedP z e ts).bind fun l r => .ok (.mk k 0 [] l 0) r) := fun ts v r hg hr => by
  obtain ⟨l, s, h1, h2⟩ := bind_inv hr
  obtain ⟨⟨x, rfl, hx⟩, _⟩ := yd_enclosed z e hy _ _ _ hg h1
  have e1 := sz_enclosed z e hy he _ _ _ hg h1
  injection h2 with h3 h4
  subst h3 h4
  have := len_word x 0 hk
  simp only [List.headD_cons] at e1
  omega
theorem len_bool (n p : Nat) : lenE (.mk 2 n [] [] p) ≤ 5 := by
  have : lenE (.mk 2 n [] [] p) = (boolT n).length := by simp [lenE, showE_eq, showOp, Ex.op, Ex.num, Ex.text]
  rw [this]
  unfold boolT
  split <;> simp
theorem sz_worded (z : Nat) (e : Par Ex) (hy : Yd WE e) (he : Sz 0 lenE e) : Sz 0 lenE (wordedP z e) := by
  refine Sz.look ((Sz.pure (v := Ex.mk 2 1 [] [] 0)).weak (by have := len_bool 1 0; omega) fun _ => Nat.le_refl _) ?_
  refine Sz.look ((Sz.pure (v := Ex.mk 2 0 [] [] 0)).weak (by have := len_bool 0 0; omega) fun _ => Nat.le_refl _) ?_
  refine Sz.look ((sz_wordk z e hy he (.inl rfl)).weak (by omega) fun _ => Nat.le_refl _) ?_
  refine Sz.look ((sz_wordk z e hy he (.inr (.inl rfl))).weak (by omega) fun _ => Nat.le_refl _) ?_
  intro ts v r hg hr
  obtain ⟨_, s, h1, h2⟩ := bind_inv hr
  obtain ⟨_, hg1⟩ := yd_want z _ _ _ _ hg h1
  have e1 := takes_want z _ _ _ _ h1
  have e2 := sz_wordk z e hy he (k := 10) (.inr (.inr rfl)) s v r hg1 h2
  omega
theorem sz_primary (z : Nat) (e : Par Ex) (hy : Yd WE e) (he : Sz 0 lenE e) : Sz 0 lenE (primaryP z e) := fun ts v r hg hr => by
  have hp := good_peek (z := z) hg
  unfold primaryP at hr
  split at hr
  · rename_i hk
    have e1 := kind_cons (z := z) (ts := ts) (by omega)
    injection hr with h1 h2
    subst h1 h2
    have : lenE (.mk 1 (peekT z ts).num [] [] (peekT z ts).place) = (decN (peekT z ts).num).length := by simp [lenE, showE_eq, showOp, Ex.op, Ex.num, Ex.text]
    have := dec_len _ (hp.2.1 hk)
    omega
  · split at hr
    · rename_i hk
      have e1 := kind_cons (z := z) (ts := ts) (by omega)
      injection hr with h1 h2
      subst h1 h2
      have : lenE (.mk 3 0 (peekT z ts).text [] (peekT z ts).place) = (peekT z ts).text.length + 2 := by simp [lenE, showE_eq, showOp, Ex.op, Ex.num, Ex.text]
      have := (hp.2.2 hk).2
      omega
    · split at hr
      · exact sz_named z e hy he ts v r hg hr
      · split at hr
        · obtain ⟨l, s, h1, h2⟩ := bind_inv hr
          have e1 := sz_enclosed z e hy he _ _ _ hg h1
          injection h2 with h3 h4
          subst h3 h4
          dsimp only at e1
          omega
        · obtain ⟨x, s, h1, h2⟩ := bind_inv hr
          have e1 := sz_worded z e hy he _ _ _ hg h1
          injection h2 with h3 h4
          subst h3 h4
          have := len_at x (peekT z ts).place
          omega
theorem sz_one (z : Nat) (e o : Par Ex) (hy : Yd WE e) (he : Sz 0 lenE e) (ho : Sz 0 lenE o) : Sz 0 lenE (oneS z e o) := fun ts v r hg hr => by
  unfold oneS at hr
  split at hr
  · rename_i hs
    obtain ⟨x, s, h1, h2⟩ := bind_inv hr
    have e1 := ho _ _ _ (good_tail hg) h1
    have e2 := sees_tail hs
    injection h2 with h3 h4
    subst h3 h4
    have e3 : lenE (.mk 7 0 (peekT z ts).text [x] (peekT z ts).place) = (peekT z ts).text.length + lenE x := by simp [lenE, showE_eq (.mk 7 0 _ [x] _), showOp, Ex.op, Ex.num, Ex.text, Ex.kids, showL, atK]
    have e4 : (peekT z ts).text.length ≤ 1 := by
      have := sees_mem hs
      simp only [sOne, List.mem_cons, List.not_mem_nil, or_false] at this
      rcases this with h | h <;> rw [h] <;> decide
    omega
  · exact sz_primary z e hy he ts v r hg hr
theorem sz_both (z : Nat) : ∀ g, Sz 0 lenE (both z g).1 ∧ Sz 0 lenE (both z g).2
  | 0 => ⟨fun ts v r _ hr => by simp [both, failT] at hr, fun ts v r _ hr => by simp [both, failT] at hr⟩
  | g + 1 => by
    have ih := sz_both z g
    have iy := yd_both z g
    have h := sz_one z _ _ iy.1 ih.1 ih.2
    exact ⟨sz_levels z _ (yd_one z _ _ iy.1 iy.2) h, h⟩
theorem sz_expr (z g : Nat) : Sz 0 lenE (exprP z g) := (sz_both z g).1
abbrev lenS (s : St) : Nat := (showS s).length
def lenB (l : List St) : Nat := (l.map fun s => lenS s + 1).sum
theorem lenB_eq : ∀ l : List St, (showB l).length = lenB l
  | [] => by simp [showB, lenB]
  | s :: r => by
    have := lenB_eq r
    simp only [showB, lenB, lenS, List.length_append, List.length_cons, List.length_nil, List.map_cons, List.sum_cons] at this ⊢
    omega
theorem lenB_snoc (l : List St) (s : St) : lenB (l ++ [s]) = lenB l + lenS s + 1 := by simp [lenB]; omega
theorem sz_set (z : Nat) (e : Par Ex) (he : Sz 0 lenE e) : Sz (-384) (fun x => x.1.length + lenE x.2) (setP z e) := fun ts v r hg hr => by
  unfold setP at hr
  obtain ⟨s, s1, h1, h2⟩ := bind_inv hr
  obtain ⟨_, s2, h3, h4⟩ := bind_inv h2
  obtain ⟨x, s3, h5, h6⟩ := bind_inv h4
  obtain ⟨_, g1⟩ := yd_name z _ _ _ hg h1
  obtain ⟨_, g2⟩ := yd_want z _ _ _ _ g1 h3
  have e1 := sz_name z _ _ _ hg h1
  have e2 := takes_want z _ _ _ _ h3
  have e3 := he _ _ _ g2 h5
  injection h6 with h7 h8
  subst h7 h8
  dsimp only
  omega
theorem sz_pair (z : Nat) (e : Par Ex) (hy : Yd WE e) (he : Sz 0 lenE e) {ts : List Tok} {x y : Ex} {r : List Tok} (hg : ∀ t ∈ ts, GoodT t) (hr : pairP z e ts = .ok [x, y] r) : (lenE x : Int) + lenE y + 200 * (r.length : Int) ≤ 200 * (ts.length : Int) - 600 := by
  unfold pairP at hr
  obtain ⟨_, s1, h1, hr⟩ := bind_inv hr
  obtain ⟨x', s2, h2, hr⟩ := bind_inv hr
  obtain ⟨_, s3, h3, hr⟩ := bind_inv hr
  obtain ⟨y', s4, h4, hr⟩ := bind_inv hr
  obtain ⟨_, s5, h5, hr⟩ := bind_inv hr
  obtain ⟨_, g1⟩ := yd_want z _ _ _ _ hg h1
  obtain ⟨_, g2⟩ := hy _ _ _ g1 h2
  obtain ⟨_, g3⟩ := yd_want z _ _ _ _ g2 h3
  have e1 := takes_want z _ _ _ _ h1
  have e2 := he _ _ _ g1 h2
  have e3 := takes_want z _ _ _ _ h3
  have e4 := he _ _ _ g3 h4
  have e5 := takes_want z _ _ _ _ h5
  injection hr with h6 h7
  injection h6 with h8 h9
  injection h9 with h9 _
  subst h8 h9 h7
  omega
theorem sz_simple (z : Nat) (e : Par Ex) (hy : Yd WE e) (he : Sz 0 lenE e) : Sz 100 lenS (simpleP z e) := by
  refine Sz.look (p := fun ts => (setP z e ts).bind fun x r => Res.ok (St.mk 1 x.1 [x.2] [] [] 0) r) (fun ts v r hg hr => ?_) ?_
  · obtain ⟨x, s, h1, h2⟩ := bind_inv hr
    have e1 := sz_set z e he _ _ _ hg h1
    dsimp only at e1
    injection h2 with h3 h4
    subst h3 h4
    have : lenS (.mk 1 x.1 [x.2] [] [] 0) = x.1.length + lenE x.2 + 8 := by simp [lenS, lenE, showS_eq, showSt, St.op, St.text, St.exprs, St.body, St.els, showL, setT, atK]; omega
    omega
  refine Sz.look (p := fun ts => if seesT z [[59]] ts then Res.ok (St.mk 5 [] [] [] [] 0) ts else (e ts).bind fun x r => Res.ok (St.mk 5 [] [x] [] [] 0) r) (fun ts v r hg hr => ?_) ?_
  · dsimp only at hr
    split at hr
    · injection hr with h3 h4
      subst h3 h4
      have : lenS (.mk 5 [] [] [] [] 0) = 7 := by simp [lenS, showS_eq, showSt, St.op, St.text, St.exprs, St.body, St.els, showL]
      omega
    · obtain ⟨x, s, h1, h2⟩ := bind_inv hr
      have e1 := he _ _ _ hg h1
      injection h2 with h3 h4
      subst h3 h4
      have : lenS (.mk 5 [] [x] [] [] 0) = lenE x + 8 := by simp [lenS, lenE, showS_eq, showSt, St.op, St.text, St.exprs, St.body, St.els, showL, atK]
      omega
  refine Sz.look (p := fun ts => (pairP z e ts).bind fun l r => Res.ok (St.mk 6 [] l [] [] 0) r) (fun ts v r hg hr => ?_) ?_
  · obtain ⟨l, s, h1, h2⟩ := bind_inv hr
    obtain ⟨⟨x, y, rfl, _, _⟩, _⟩ := yd_pair z e hy _ _ _ hg h1
    have e1 := sz_pair z e hy he hg h1
    injection h2 with h3 h4
    subst h3 h4
    have : lenS (.mk 6 [] [x, y] [] [] 0) = lenE x + lenE y + 8 := by simp [lenS, lenE, showS_eq, showSt, St.op, St.text, St.exprs, St.body, St.els, showL, opT, listT, listed, atK]; omega
    omega
  refine Sz.look (p := fun ts => (enclosedP z e ts).bind fun l r => Res.ok (St.mk 7 [] l [] [] 0) r) (fun ts v r hg hr => ?_) ?_
  · obtain ⟨l, s, h1, h2⟩ := bind_inv hr
    obtain ⟨⟨x, rfl, _⟩, _⟩ := yd_enclosed z e hy _ _ _ hg h1
    have e1 := sz_enclosed z e hy he _ _ _ hg h1
    injection h2 with h3 h4
    subst h3 h4
    have : lenS (.mk 7 [] [x] [] [] 0) = lenE x + 6 := by simp [lenS, lenE, showS_eq, showSt, St.op, St.text, St.exprs, St.body, St.els, showL, opT, listT, listed, atK]
    simp only [List.headD_cons] at e1
    omega
  intro ts v r hg hr
  dsimp only at hr
  split at hr
  · obtain ⟨x, s, h1, h2⟩ := bind_inv hr
    have e1 := sz_set z e he _ _ _ hg h1
    dsimp only at e1
    injection h2 with h3 h4
    subst h3 h4
    have : lenS (.mk 2 x.1 [x.2] [] [] 0) = x.1.length + lenE x.2 + 4 := by simp [lenS, lenE, showS_eq, showSt, St.op, St.text, St.exprs, St.body, St.els, showL, setT, atK]; omega
    omega
  · obtain ⟨x, s, h1, h2⟩ := bind_inv hr
    have e1 := he _ _ _ hg h1
    injection h2 with h3 h4
    subst h3 h4
    have : lenS (.mk 8 [] [x] [] [] 0) = lenE x + 1 := by simp [lenS, lenE, showS_eq, showSt, St.op, St.text, St.exprs, St.body, St.els, showL, atK]
    omega
theorem len_choice (x : Ex) (l m : List St) (p : Nat) : lenS (.mk 3 [] [x] l m p) ≤ lenE x + lenB l + lenB m + 16 := by
  have h1 := lenB_eq l
  have h2 := lenB_eq m
  cases m with
  | nil => simp [lenS, lenE, showS_eq, showSt, St.op, St.text, St.exprs, St.body, St.els, showL, atK, blockT, h1]; omega
  | cons a b =>
    simp [lenS, lenE, showS_eq (.mk 3 [] [x] l (a :: b) p), showSt, St.op, St.text, St.exprs, St.body, St.els, showL, atK, blockT, h1, h2]
    omega
theorem sz_choice (z : Nat) (e : Par Ex) (b : Par (List St)) (hy : Yd WE e) (he : Sz 0 lenE e) (hyb : Yd (All WS) b) (hb : Sz (-400) lenB b) : Sz 0 lenS (choiceP z e b) := fun ts v r hg hr => by
  unfold choiceP at hr
  obtain ⟨x, s1, h1, hr⟩ := bind_inv hr
  obtain ⟨l, s2, h2, hr⟩ := bind_inv hr
  obtain ⟨_, g1⟩ := hy _ _ _ hg h1
  obtain ⟨_, g2⟩ := hyb _ _ _ g1 h2
  have e1 := he _ _ _ hg h1
  have e2 := hb _ _ _ g1 h2
  split at hr
  · rename_i hs
    obtain ⟨m, s3, h3, hr⟩ := bind_inv hr
    have e3 := hb _ _ _ (good_tail g2) h3
    have e4 := sees_tail hs
    injection hr with h5 h6
    subst h5 h6
    have := len_choice x l m 0
    omega
  · injection hr with h5 h6
    subst h5 h6
    have := len_choice x l [] 0
    have : lenB [] = 0 := rfl
    omega
theorem sz_loop (z : Nat) (e : Par Ex) (b : Par (List St)) (hy : Yd WE e) (he : Sz 0 lenE e) (hb : Sz (-400) lenB b) : Sz 0 lenS (loopP z e b) := fun ts v r hg hr => by
  unfold loopP at hr
  obtain ⟨x, s1, h1, hr⟩ := bind_inv hr
  obtain ⟨_, s2, h2, hr⟩ := bind_inv hr
  obtain ⟨y, s3, h3, hr⟩ := bind_inv hr
  obtain ⟨l, s4, h4, hr⟩ := bind_inv hr
  obtain ⟨_, g1⟩ := yd_set z e hy _ _ _ hg h1
  obtain ⟨_, g2⟩ := yd_want z _ _ _ _ g1 h2
  obtain ⟨_, g3⟩ := hy _ _ _ g2 h3
  have e1 := sz_set z e he _ _ _ hg h1
  have e2 := takes_want z _ _ _ _ h2
  have e3 := he _ _ _ g2 h3
  have e4 := hb _ _ _ g3 h4
  injection hr with h5 h6
  subst h5 h6
  have h7 := lenB_eq l
  have : lenS (.mk 4 x.1 [x.2, y] l [] 0) = x.1.length + lenE x.2 + lenE y + lenB l + 15 := by
    simp [lenS, lenE, showS_eq (.mk 4 x.1 [x.2, y] l [] 0), showSt, St.op, St.text, St.exprs, St.body, St.els, showL, setT, atK, blockT, h7]
    omega
  dsimp only at e1
  omega
theorem len_atS (s : St) (q : Nat) : lenS (s.at q) = lenS s := by
  unfold lenS
  rw [showS_eq, showS_eq s]
  rfl
theorem sz_stmt (z : Nat) (e : Par Ex) (b : Par (List St)) (hy : Yd WE e) (he : Sz 0 lenE e) (hyb : Yd (All WS) b) (hb : Sz (-400) lenB b) : Sz (-1) lenS (stmtP z e b) := fun ts v r hg hr => by
  unfold stmtP at hr
  obtain ⟨s, q, h1, h2⟩ := bind_inv hr
  have h3 : (lenS s : Int) + 200 * (q.length : Int) ≤ 200 * (ts.length : Int) + -1 := by
    refine (Sz.look (k := -1) (m := lenS) ((sz_choice z e b hy he hyb hb).weak (by omega) fun _ => Nat.le_refl _) (Sz.look (q := fun ts => (simpleP z e ts).bind fun s r => (wantT z [59] r).bind fun _ r' => Res.ok s r') ((sz_loop z e b hy he hb).weak (by omega) fun _ => Nat.le_refl _) (fun ts v r hg hr => ?_))) ts s q hg h1
    obtain ⟨s', s1, k1, k2⟩ := bind_inv hr
    obtain ⟨_, s2, k3, k4⟩ := bind_inv k2
    have e1 := sz_simple z e hy he _ _ _ hg k1
    have e2 := takes_want z _ _ _ _ k3
    injection k4 with k5 k6
    subst k5 k6
    omega
  injection h2 with h4 h5
  subst h4 h5
  have := len_atS s (peekT z ts).place
  omega
theorem sz_moreS (z : Nat) (p : Par St) (hy : Yd WS p) (hp : Sz (-1) lenS p) : ∀ f l, Sz ((lenB l : Int) + -200) lenB (moreS z p f l)
  | 0, l => fun ts v r hg hr => by
    unfold moreS at hr
    split at hr
    · rename_i hs
      have e1 := sees_tail hs
      injection hr with h1 h2
      subst h1 h2
      omega
    · obtain ⟨_, _, _, h2⟩ := bind_inv hr
      simp [failT] at h2
  | f + 1, l => fun ts v r hg hr => by
    unfold moreS at hr
    split at hr
    · rename_i hs
      have e1 := sees_tail hs
      injection hr with h1 h2
      subst h1 h2
      omega
    · obtain ⟨y, s, h1, h2⟩ := bind_inv hr
      obtain ⟨_, hg2⟩ := hy _ _ _ hg h1
      have e1 := hp _ _ _ hg h1
      have e2 := sz_moreS z p hy hp f (l ++ [y]) s v r hg2 h2
      rw [lenB_snoc] at e2
      omega
theorem sz_block (z : Nat) : ∀ g, Sz (-400) lenB (blockP z g)
  | 0 => fun ts v r _ hr => by simp [blockP, failT] at hr
  | g + 1 => fun ts v r hg hr => by
    unfold blockP at hr
    obtain ⟨_, s, h1, h2⟩ := bind_inv hr
    obtain ⟨_, hg1⟩ := yd_want z _ _ _ _ hg h1
    have e1 := takes_want z _ _ _ _ h1
    have e2 := sz_moreS z _ (yd_stmt z _ _ (yd_expr z g) (yd_block z g)) (sz_stmt z _ _ (yd_expr z g) (sz_expr z g) (yd_block z g) (sz_block z g)) _ [] s v r hg1 h2
    have : lenB [] = 0 := rfl
    omega
theorem len_type (t : Nat) : (typeT t).length ≤ 5 := by
  unfold typeT
  repeat' split
  all_goals simp
theorem sz_param (z : Nat) : Sz 0 (fun p : List Nat × Nat => (parT p).length) (paramP z) := fun ts v r hg hr => by
  unfold paramP at hr
  obtain ⟨s, s1, h1, hr⟩ := bind_inv hr
  obtain ⟨_, s2, h2, hr⟩ := bind_inv hr
  obtain ⟨t, s3, h3, hr⟩ := bind_inv hr
  have e1 := sz_name z _ _ _ hg h1
  have e2 := takes_want z _ _ _ _ h2
  have e3 := takes_type z _ _ _ h3
  injection hr with h4 h5
  subst h4 h5
  have := len_type t
  simp [parT]
  omega
abbrev lenF (f : Fu) : Nat := (showF f).length
theorem sz_func (z : Nat) : Sz 0 lenF (funcP z) := fun ts v r hg hr => by
  unfold funcP at hr
  obtain ⟨_, q0, h0, hr⟩ := bind_inv hr
  obtain ⟨_, g0⟩ := yd_want z _ _ _ _ hg h0
  obtain ⟨s, q1, h1, hr⟩ := bind_inv hr
  obtain ⟨hs, g1⟩ := yd_name z _ _ _ g0 h1
  obtain ⟨l, q2, h2, hr⟩ := bind_inv hr
  obtain ⟨hl, g2⟩ := yd_list z _ (yd_param z) _ _ _ g1 h2
  obtain ⟨t, q3, h3, hr⟩ := bind_inv hr
  obtain ⟨ht, g3⟩ := (Yd.look (Q := fun t => t ≤ 3) (p := typeP z) (q := fun ts => .ok 0 ts) ((yd_type z).weak fun t h => h.2) (Yd.pure (by omega))) _ _ _ g2 h3
  obtain ⟨b, q4, h4, hr⟩ := bind_inv hr
  have e0 := takes_want z _ _ _ _ h0
  have e1 := sz_name z _ _ _ g0 h1
  have e2 := sz_list z _ (yd_param z) (sz_param z) _ _ _ g1 h2
  have e3 : q3.length ≤ q2.length := by
    split at h3
    · rename_i hse
      have k1 := takes_type z _ _ _ h3
      have k2 := sees_tail hse
      omega
    · injection h3 with _ h3
      subst h3
      exact Nat.le_refl _
  have e4 := sz_block z 32 _ _ _ g3 h4
  injection hr with k1 k2
  subst k1 k2
  have hlb := lenB_eq b
  have hlt := len_type t
  have hll : (listT (paramT l) l.length).length ≤ lenL (fun p : List Nat × Nat => (parT p).length) l + 2 := by
    have hlen : l.length = (l.map parT).length := by simp
    rw [paramT_map, hlen, listT_join]
    have := join_len (l.map parT)
    rw [List.map_map] at this
    have h5 : ((l.map ((fun k => k.length + 2) ∘ parT)).sum) = lenL (fun p : List Nat × Nat => (parT p).length) l := rfl
    rw [h5] at this
    simp
    omega
  have : lenF ⟨s, l, t, b, (peekT z ts).place⟩ ≤ s.length + (listT (paramT l) l.length).length + lenB b + 20 := by
    simp only [lenF, showF, blockT, List.length_append, List.length_cons, List.length_nil, hlb]
    split
    · simp
      omega
    · simp only [List.length_append, List.length_cons, List.length_nil]
      omega
  omega
theorem shown_snoc (l : List Fu) (f : Fu) : (shown (l ++ [f])).length = (shown l).length + lenF f := by simp [shown]
theorem sz_moreF (z : Nat) : ∀ f l, Sz ((shown l).length) (fun l => (shown l).length) (moreF z f l)
  | 0, l => fun ts v r hg hr => by
    unfold moreF at hr
    injection hr with h1 h2
    subst h1 h2
    dsimp only
    omega
  | f + 1, l => fun ts v r hg hr => by
    unfold moreF at hr
    split at hr
    · injection hr with h1 h2
      subst h1 h2
      simp only [List.length_nil]
      omega
    · obtain ⟨y, s, h1, h2⟩ := bind_inv hr
      obtain ⟨_, hg2⟩ := yd_func z _ _ _ hg h1
      have e1 := sz_func z _ _ _ hg h1
      have e2 := sz_moreF z f (l ++ [y]) s v r hg2 h2
      rw [shown_snoc] at e2
      dsimp only at e2 ⊢
      omega
/-- what is shown of what was parsed is not long -/
theorem shown_short (l : List Nat) : (shown (parsed l).funcs).length ≤ 409600 := by
  unfold parsed
  split
  · cases hp : programP l.length (lexed l).toks with
    | ok fs r =>
      have h1 := sz_moreF l.length _ [] _ fs r (lexed_good l) hp
      have h2 := lexed_many l
      have h3 : (shown []).length = 0 := rfl
      dsimp only at h1 ⊢
      omega
    | bad c p => simp [shown]
  · simp [shown]
end

section
open Go.Shelf Go.RowKit
set_option maxRecDepth 100000
def laysM173_ren : Go.Shelf.Ren := ⟨fun | 173 => 75 | 246 => 82 | 283 => 89 | 284 => 90 | 285 => 91 | 286 => 92 | 129 => 95 | 317 => 94 | 318 => 96 | 319 => 97 | 320 => 98 | 337 => 101 | 338 => 102 | n => n, fun | 2 => 2 | 3 => 3 | 9 => 9 | 4 => 4 | 171 => 125 | 0 => 0 | 53 => 126 | 37 => 22 | 5 => 5 | 173 => 129 | 212 => 133 | 51 => 134 | 20 => 20 | 213 => 135 | 46 => 137 | 232 => 140 | 233 => 141 | n => n, fun | 17 => 2 | 18 => 3 | 19 => 4 | n => n⟩
theorem laysM173 : Go.Proofs.LaysM.n173 Tryd.prog laysM173_ren := {
  mixed := by kernel_rfl
  f129 := Tryd.func95.trans (congrArg some (by kernel_rfl))
  f173 := Tryd.func75.trans (congrArg some (by kernel_rfl))
  f246 := Tryd.func82.trans (congrArg some (by kernel_rfl))
  f283 := Tryd.func89.trans (congrArg some (by kernel_rfl))
  f284 := Tryd.func90.trans (congrArg some (by kernel_rfl))
  f285 := Tryd.func91.trans (congrArg some (by kernel_rfl))
  f286 := Tryd.func92.trans (congrArg some (by kernel_rfl))
  f317 := Tryd.func94.trans (congrArg some (by kernel_rfl))
  f318 := Tryd.func96.trans (congrArg some (by kernel_rfl))
  f319 := Tryd.func97.trans (congrArg some (by kernel_rfl))
  f320 := Tryd.func98.trans (congrArg some (by kernel_rfl))
  f337 := Tryd.func101.trans (congrArg some (by kernel_rfl))
  f338 := Tryd.func102.trans (congrArg some (by kernel_rfl))
  t0 := Tryd.underlying0
  a0 := Tryd.isAgg0
  z0 := Tryd.sizeOf0
  v0 := Tryd.zeroValue0
  t2 := Tryd.underlying2
  a2 := Tryd.isAgg2
  z2 := Tryd.sizeOf2
  v2 := Tryd.zeroValue2
  t3 := Tryd.underlying3
  a3 := Tryd.isAgg3
  z3 := Tryd.sizeOf3
  v3 := Tryd.zeroValue3
  t4 := Tryd.underlying4
  a4 := Tryd.isAgg4
  z4 := Tryd.sizeOf4
  v4 := Tryd.zeroValue4
  t5 := Tryd.underlying5
  a5 := Tryd.isAgg5
  z5 := Tryd.sizeOf5
  v5 := Tryd.zeroValue5
  t9 := Tryd.underlying9
  a9 := Tryd.isAgg9
  z9 := Tryd.sizeOf9
  v9 := Tryd.zeroValue9
  t20 := Tryd.underlying20
  a20 := Tryd.isAgg20
  z20 := Tryd.sizeOf20
  v20 := Tryd.zeroValue20
  t37 := Tryd.underlying22
  a37 := Tryd.isAgg22
  z37 := Tryd.sizeOf22
  v37 := Tryd.zeroValue22
  t46 := Tryd.underlying137
  a46 := Tryd.isAgg137
  z46 := Tryd.sizeOf137
  v46 := Tryd.zeroValue137
  t51 := Tryd.underlying134
  a51 := Tryd.isAgg134
  z51 := Tryd.sizeOf134
  v51 := Tryd.zeroValue134
  t53 := Tryd.underlying126
  a53 := Tryd.isAgg126
  z53 := Tryd.sizeOf126
  v53 := Tryd.zeroValue126
  t171 := Tryd.underlying125
  a171 := Tryd.isAgg125
  z171 := Tryd.sizeOf125
  v171 := Tryd.zeroValue125
  t173 := Tryd.underlying129
  a173 := Tryd.isAgg129
  z173 := Tryd.sizeOf129
  v173 := Tryd.zeroValue129
  t212 := Tryd.underlying133
  a212 := Tryd.isAgg133
  z212 := Tryd.sizeOf133
  v212 := Tryd.zeroValue133
  t213 := Tryd.underlying135
  a213 := Tryd.isAgg135
  z213 := Tryd.sizeOf135
  t232 := Tryd.underlying140
  a232 := Tryd.isAgg140
  z232 := Tryd.sizeOf140
  v232 := Tryd.zeroValue140
  t233 := Tryd.underlying141
  a233 := Tryd.isAgg141
  z233 := Tryd.sizeOf141
  v233 := Tryd.zeroValue141
  g17 := by kernel_rfl
  g18 := by kernel_rfl
  g19 := by kernel_rfl
  i0 := by kernel_rfl
  i2 := by kernel_rfl
  i3 := by kernel_rfl
  i4 := by kernel_rfl
  i5 := by kernel_rfl
  i9 := by kernel_rfl
  i20 := by kernel_rfl
  i37 := by kernel_rfl
  i46 := by kernel_rfl
  i51 := by kernel_rfl
  i53 := by kernel_rfl
  i171 := by kernel_rfl
  i173 := by kernel_rfl
  i212 := by kernel_rfl
  i232 := by kernel_rfl
  i233 := by kernel_rfl
  m17 := by kernel_rfl
  m18 := by kernel_rfl
  m19 := by kernel_rfl }

/-- the powers of ten lie -/
def Pow (w : World) : Prop := Lib.TabIs Tryd.prog w "internal/strconv.uint64pow10" .u64 Lib.pow10Tab
theorem gPow : Tryd.prog.globalNamed "internal/strconv.uint64pow10" = some 2 := by kernel_rfl
theorem tPow : (Tryd.prog.globals[2]?).map (·.type) = some 133 := by kernel_rfl
theorem pow_laid : (Rows.laid_internal_strconv_uint64pow10 : DataW Unit) = Lib.tabData .u64 Lib.pow10Tab := by kernel_rfl
theorem Pow.below {w w' : World} {R : Nat} (h : Pow w) (hb : Below R w w') (hR : 2 < R) : Pow w' := by
  unfold Pow Lib.TabIs World.var? at h ⊢
  rw [gPow] at h ⊢
  simp only [Option.bind_some] at h ⊢
  rw [hb.block 2 hR]
  exact h
theorem Pow.lt {w : World} (h : Pow w) : 2 < w.heap.size := World.block_lt_of_cell? w _ (Lib.TabIs.cell h gPow 0 (by decide))
theorem below_grow' (w : World) (os : Array Obj) : Below w.heap.size w (Sort.grow w os) := by
  refine ⟨rfl, rfl, rfl, by simp [Sort.grow], fun i hi => ?_⟩
  show (w.heap ++ os)[i]? = w.heap[i]?
  rw [Array.getElem?_append_left hi]
theorem dec_str (n : Nat) : (⟨(Lib.itoa (n : Int)).toArray⟩ : ByteArray) = strN (decN n) := by
  rw [Lib.itoa_nonneg]
  apply ByteArray.ext
  rw [strN_data]
  unfold decN
  have h : ((Lib.decDigits n).map UInt8.toNat).map UInt8.ofNat = Lib.decDigits n := by
    rw [List.map_map]
    conv => rhs; rw [← List.map_id (Lib.decDigits n)]
    exact List.map_congr_left fun x _ => by simp
  rw [h]
/-- numbers are written as said -/
theorem fm_all (R : Nat) (hR : 2 < R) : Fm R (fun n => decide (n ≤ 9223372036854775807)) Pow := by
  refine ⟨fun w w' h hb => h.below hb hR, fun n w hn hp => ?_⟩
  have hn' : n ≤ 9223372036854775807 := by simpa using hn
  refine (Any.strconv_FormatInt_10 laysM173 (n : Int) (by omega) (by omega) w hp).mono ?_
  rintro e w' ⟨rfl, k, os, rfl⟩
  refine ⟨by rw [dec_str], ?_⟩
  exact (below_drewN (Below.refl _ _) k).trans (below_grow' (w.drewN k) os)
theorem pow_of_laid {W : World} (h : laidMetH Tryd.prog laid1 W) : Pow W := by
  rw [MakeChecks.laidMetH_plain _ _ _ (by kernel_rfl)] at h
  obtain ⟨ps, ⟨ga, ta, csa, fa, pa, qa, hga, hta, hva, hda, hresta, _⟩, _, _⟩ := h
  obtain ⟨gb, tb, csb, fb, pb, qb, hgb, htb, hvb, hdb, hrestb, _⟩ := hresta
  obtain ⟨gc, tc, csc, fc, pc, qc, hgc, htc, hvc, hdc, hrestc, _⟩ := hrestb
  obtain rfl := Option.some.inj (gPow.symm.trans hgc)
  obtain rfl := Option.some.inj (tPow.symm.trans htc)
  rw [pow_laid] at hdc
  have := Lib.cells_of_tab (k := .u64) (e := 126) (n := 20) Tryd.underlying133 Tryd.underlying126 (by kernel_rfl) (by kernel_rfl) hdc
  unfold Pow Lib.TabIs
  rw [hvc, ← this]
end

section
open Go.RowKit
set_option maxRecDepth 100000
set_option linter.unusedSimpArgs false
set_option linter.unusedVariables false

def fitN (n : Nat) : Bool := decide (n ≤ 9223372036854775807)
theorem numsL_of {p : Nat → Bool} : ∀ {l : List Ex}, (∀ e ∈ l, numsE p e = true) → numsL p l = true
  | [], _ => rfl
  | e :: r, h => by simp only [numsL, h e (by simp), Bool.true_and]; exact numsL_of fun x hx => h x (by simp [hx])
theorem numsB_of {p : Nat → Bool} : ∀ {l : List St}, (∀ e ∈ l, numsS p e = true) → numsB p l = true
  | [], _ => rfl
  | e :: r, h => by simp only [numsB, h e (by simp), Bool.true_and]; exact numsB_of fun x hx => h x (by simp [hx])
theorem nums_we {e : Ex} (h : WE e) : numsE fitN e = true := by
  induction h with
  | num n p h => simp [numsE, numsL, fitN, h]
  | bool n p h => rcases h with rfl | rfl <;> simp [numsE, numsL, fitN]
  | text s p h => simp [numsE, numsL, fitN]
  | name s p h => simp [numsE, numsL, fitN]
  | call s l p h hl ih => simp only [numsE, numsL_of ih]; decide
  | two s x y p h hx hy ix iy => simp [numsE, numsL, ix, iy, fitN]
  | one s x p h hx ix => simp [numsE, numsL, ix, fitN]
  | word k x p h hx ix => simp [numsE, numsL, ix, fitN]
theorem nums_ws {s : St} (h : WS s) : numsS fitN s = true := by
  induction h with
  | bind s x p h hx => simp [numsS, numsL, numsB, nums_we hx]
  | set s x p h hx => simp [numsS, numsL, numsB, nums_we hx]
  | choice x l m p hx hl hm il im => simp [numsS, numsL, numsB_of il, numsB_of im, nums_we hx]
  | loop s x y l p h hx hy hl il => simp [numsS, numsL, numsB, numsB_of il, nums_we hx, nums_we hy]
  | ret0 p => simp [numsS, numsL, numsB]
  | ret x p hx => simp [numsS, numsL, numsB, nums_we hx]
  | put x y p hx hy => simp [numsS, numsL, numsB, nums_we hx, nums_we hy]
  | del x p hx => simp [numsS, numsL, numsB, nums_we hx]
  | expr x p hx => simp [numsS, numsL, numsB, nums_we hx]
theorem nums_wf {fs : List Fu} (h : All WF fs) : numsFs fitN fs = true := by
  unfold numsFs
  rw [List.all_eq_true]
  exact fun f hf => numsB_of fun s hs => nums_ws ((h f hf).2.2.2 s hs)

set_option maxHeartbeats 1600000 in
/-- of a builder that was never written -/
theorem string0 (R : Nat) (w : World) (hR : w.heap[R]? = some (.cells #[.pointer none, .slice none 0 0] 66 (0, 0))) :
    Calls Tryd.prog 17 #[.pointer (some ⟨R, 0, none⟩)] w fun e w' => e = .returned (.string ⟨#[]⟩) ∧ Below R w w' := by
  have c1 : w.drew.cell? ⟨R, 1, none⟩ = some (.slice none 0 0) := by
    have : w.drew.heap[R]? = some (.cells #[.pointer none, .slice none 0 0] 66 (0, 0)) := hR
    rw [Lib.cell_of_heap this]; rfl
  have hSD : (Builtin.unsafeSliceData_ #[22] 86 #[.slice none 0 0]).run Tryd.prog w.drew = .ok (.pointer none) w.drew := Lib.run_unsafeSliceData_nil _ _ _ _ _
  have hUS : (Builtin.unsafeString_ #[86, 3] 9 #[.pointer none, .int .i64 0]).run Tryd.prog w.drew = .ok (.string .empty) w.drew := Lib.run_unsafeString_none _ _ _ _ _
  have HF : Hid (Below R w w.drew) := Below.drew (Below.refl R w)
  clear hR
  go_enter Tryd.func17, Tryd.ntmps17
  go_wp2_with fail
  go_region
  all_goals (go_wp2; go_ret; exact ⟨rfl, HF.out⟩)
set_option maxHeartbeats 1600000 in
theorem show0 (A : Option Addr) (c : Nat) (w : World) : Calls Tryd.prog 10 #[.agg #[.slice A 0 c]] w fun e w' => e = .returned (.string ⟨#[]⟩) ∧ Below w.heap.size w w' := by
  have s1 : (w.alloc (.cells #[.slice A 0 c] 26)).heap.size = w.heap.size + 1 := by simp
  have hb0 := ((Below.refl w.heap.size w).alloc (Nat.le_refl _) (.cells #[.slice A 0 c] 26)).alloc (by rw [s1]; omega) (.cells #[.pointer none, .slice none 0 0] 66)
  have hk := heap_alloc_new (w.alloc (.cells #[.slice A 0 c] 26)) (.cells #[.pointer none, .slice none 0 0] 66)
  rw [s1] at hk
  have HK := Lib.hid hk
  have HB := Lib.hid hb0
  clear hk hb0 s1
  go_enter Tryd.func10, Tryd.ntmps10
  go_wp2
  generalize (w.alloc (.cells #[.slice A 0 c] 26)).alloc (.cells #[.pointer none, .slice none 0 0] 66) = w1 at *
  go_loopw [5, 11] (fun _ i wr => i = .int .i64 0 ∧ w1 = wr) (fun _ i _ => 0)
  case atStart => exact ⟨rfl, rfl⟩
  case round =>
    obtain ⟨rfl, rfl⟩ := hrel
    go_wp2_with fail
    refine (string0 _ _ HK.out).mono ?_
    rintro e w2 ⟨rfl, hb2⟩
    go_wp2
    go_ret
    exact ⟨rfl, HB.out.trans (hb2.mono (by omega))⟩
/-- what is written of a program that is well made and not too long -/
theorem showAny (fs : List Fu) (h : All WF fs) (hlen : (shown fs).length ≤ 409600) (V : Value) (w : World) (hp : Pow w) (hV : FusC w (· < w.heap.size) fs V) :
    Calls Tryd.prog 10 #[.agg #[V]] w fun e w' => e = .returned (.string (strN (shown fs))) ∧ Below w.heap.size w w' := by
  by_cases hne : fs = []
  · subst hne
    obtain ⟨A, c, rfl⟩ : ∃ A c, V = .slice A 0 c := by
      obtain ⟨_, _, h, _⟩ := hV
      exact row_slice h
    rw [show strN (shown []) = ⟨#[]⟩ by kernel_rfl]
    exact show0 A c w
  · have hlt := hp.lt
    exact showW fs (nums_wf h) V w (fm_all _ (by omega)) (fun w' hb => hp.below hb hlt) hV hne (by omega)
/-- '[]byte(s)' -/
theorem run_bytesB (w : World) (s : List Nat) (hs : Byn s) (hm : s.length ≤ maxLen) : ∃ c w', (convert 9 22 (.string (strN s))).run Tryd.prog w = .ok (.slice (some ⟨w.heap.size, 0, none⟩) s.length c) w' ∧ s.length ≤ c ∧ c ≤ maxLen ∧ Below w.heap.size w w' ∧ Lies w' w'.heap.size (some ⟨w.heap.size, 0, none⟩) c (bts s) := by
  have h := run_bytes_of_string (P := Tryd.prog) w 9 22 5 (strN s) Tryd.underlying9 Tryd.underlying22 Tryd.underlying5
  rw [strN_size] at h
  generalize hc : grownCap w s.length 0 5 = c at h
  have h1 := grownCap_ge w s.length 0 5
  have h2 := grownCap_le_maxLen w s.length 0 5 hm
  rw [hc] at h1 h2
  refine ⟨c, _, h, h1, h2, ((Below.refl _ _).drew).alloc (Nat.le_refl _) _, (fun e => by cases e), fun j u hu => ⟨_, rfl, by simp, ?_⟩⟩
  have hj : j < s.length := by
    have := (List.getElem?_eq_some_iff.1 hu).1
    simpa [bts] using this
  have hb : (w.drew.alloc (.cells (bytesRow (strN s) c) 5 ((bytesRow (strN s) c).size, (bytesRow (strN s) c).size + 1))).heap[w.heap.size]? = some (.cells (bytesRow (strN s) c) 5 ((bytesRow (strN s) c).size, (bytesRow (strN s) c).size + 1)) := heap_alloc_new w.drew _
  rw [Addr.add_lit, cell_of_row _ _ _ _ _ _ hb, Nat.zero_add, bytesRow_at _ _ _ (by rw [strN_data]; simpa using hj)]
  have e1 : (bts s)[j]? = some (.int .u8 (s[j] : Nat)) := bts_get (List.getElem?_eq_getElem hj)
  rw [← hu, e1]
  have hb2 := hs s[j] (List.getElem_mem hj)
  simp only [strN_data]
  simp
  omega
end

section
open Go.RowKit
set_option maxRecDepth 100000
set_option linter.unusedSimpArgs false
set_option linter.unusedVariables false

theorem parsed_none {l : List Nat} {err place : Nat} {fs : List Fu} (h : parsed l = ⟨err, fs, place⟩) (he : err ≠ 0) : fs = [] := by
  unfold parsed at h
  split at h
  · split at h
    · injection h with h1 h2 h3
      exact absurd h1.symm he
    · injection h with h1 h2 h3
      exact h2.symm
  · injection h with h1 h2 h3
    exact h2.symm

set_option maxHeartbeats 3200000 in
theorem back_walk (A : Option Addr) (l : List Nat) (c : Nat) (w : World) (hc : l.length ≤ c) (hcm : c ≤ maxLen) (hl : Lies w w.heap.size A c (bts l)) (hy : Byn l) (ht : Tab w) (hpow : Pow w) :
    Calls Tryd.prog 3 #[.slice A l.length c] w fun e w' => e = .returned (.bool true) ∧ Below w.heap.size w w' := by
  have HT := Lib.hid ht
  have hpos := ht.1
  have hp2 := hpow.lt
  have HPw := Lib.hid hpow
  have K := Lib.hid (head_true w ht)
  have HL := Lib.hid hl
  have HY := Lib.hid hy
  have HCm := Lib.hid hcm
  unfold maxLen at hcm
  clear ht hl hy hpow
  go_enter Tryd.func3, Tryd.ntmps3
  go_wp2_with fail
  (with_reducible refine K.out.mono ?_)
  clear K
  rintro e w1 ⟨rfl, hb1⟩
  have BW1 := Lib.hid hb1
  have s1 := hb1.size
  clear hb1
  have HW := Lib.hid (parsed_well l)
  have HSh := Lib.hid (shown_short l)
  cases hp : parsed l with
  | mk err fs place =>
    rw [hp] at HW HSh
    replace HW : Hid (All WF fs) := HW
    replace HSh : Hid ((shown fs).length ≤ 409600) := HSh
    have K := Lib.hid (parseZ A l l.length c w1 rfl hc HCm.out ((HL.out.below BW1.out).more s1) HY.out (HT.out.below BW1.out hpos) err place fs hp err place rfl rfl)
    have HP := Lib.hid hp
    clear hp
    go_wp2_with fail
    (with_reducible refine K.out.mono ?_)
    clear K
    rintro e w2 ⟨V, rfl, hf2, hb2⟩
    obtain ⟨A2, c2, rfl⟩ : ∃ A c, V = .slice A fs.length c := by
      obtain ⟨_, _, h, _⟩ := hf2
      exact row_slice h
    have s2 := hb2.size
    have b2a := below_alloc w2 (.cells #[.slice A2 fs.length c2] 26)
    have s2a := b2a.size
    have BW2 := Lib.hid ((BW1.out.trans (hb2.mono s1)).trans (b2a.mono (by omega)))
    have hv2 := heap_alloc_new w2 (.cells #[.slice A2 fs.length c2] 26)
    have z2 : w2.heap.size < (w2.alloc (.cells #[.slice A2 fs.length c2] 26)).heap.size := (Array.getElem?_eq_some_iff.1 hv2).1
    have d2 : (w2.alloc (.cells #[.slice A2 fs.length c2] 26)).cell? ⟨w2.heap.size, 0, none⟩ = some (.slice A2 fs.length c2) := by
      rw [Lib.cell_of_heap hv2]; rfl
    have HF2 : Hid (FusC (w2.alloc (.cells #[.slice A2 fs.length c2] 26)) (· < (w2.alloc (.cells #[.slice A2 fs.length c2] 26)).heap.size) fs (.slice A2 fs.length c2)) :=
      (hf2.same fun k hk => b2a.block k hk.2).more fun k hk => by have := hk.2; omega
    clear hf2 hb2 b2a hv2
    by_cases he : err = 0
    · have q1 : (((err : Nat) : Int) != 0) = false := by rw [he]; rfl
      have K := Lib.hid (showAny fs HW.out HSh.out _ _ (HPw.out.below BW2.out hp2) HF2.out)
      have HBk := Lib.hid (back_plain HW.out)
      go_wp2_with fail
      generalize w2.alloc (.cells #[.slice A2 fs.length c2] 26) = w3 at *
      (with_reducible refine K.out.mono ?_)
      clear K
      rintro e w4 ⟨rfl, hb4⟩
      have s3 := BW2.out.size
      have BW4 := Lib.hid (BW2.out.trans (hb4.mono s3))
      have s4 := hb4.size
      obtain ⟨c5, w5, hcv, hc5, hc5m, hb5, hl5⟩ := run_bytesB w4 (shown fs) HBk.out.1 (by have := HSh.out; unfold maxLen; omega)
      have s5 := hb5.size
      have B35 : Hid (Below w3.heap.size w3 w5) := hb4.trans (hb5.mono s4)
      have BW5 := Lib.hid (BW4.out.trans (hb5.mono (by omega)))
      cases hp : parsed (shown fs) with
      | mk err' fs' place' =>
        have HP' := Lib.hid hp
        have K := Lib.hid (parseZ _ (shown fs) (shown fs).length c5 w5 rfl hc5 hc5m hl5 HBk.out.1 (HT.out.below BW5.out hpos) err' place' fs' hp err' place' rfl rfl)
        have HR : Hid (err' = 2 ∨ err' = 42 ∨ (err' = 0 ∧ SimFs fs fs')) := by
          have := HBk.out.2
          rw [hp] at this
          exact this
        have HW' : Hid (All WF fs') := by
          have := parsed_well (shown fs)
          rw [hp] at this
          exact this
        have HSh' : Hid ((shown fs').length ≤ 409600) := by
          have := shown_short (shown fs)
          rw [hp] at this
          exact this
        clear hp hb4 hb5 hl5
        go_wp2_with fail
        (with_reducible refine K.out.mono ?_)
        clear K
        rintro e w6 ⟨V, rfl, hf6, hb6⟩
        obtain ⟨A6, c6, rfl⟩ : ∃ A c, V = .slice A fs'.length c := by
          obtain ⟨_, _, h, _⟩ := hf6
          exact row_slice h
        have s6 := hb6.size
        have b6a := below_alloc w6 (.cells #[.slice A6 fs'.length c6] 26)
        have s6a := b6a.size
        have B37 : Hid (Below w3.heap.size w3 (w6.alloc (.cells #[.slice A6 fs'.length c6] 26))) := (B35.out.trans (hb6.mono (by omega))).trans (b6a.mono (by omega))
        have BW7 := Lib.hid (BW2.out.trans (B37.out.mono s3))
        have hv6 := heap_alloc_new w6 (.cells #[.slice A6 fs'.length c6] 26)
        have z6 : w6.heap.size < (w6.alloc (.cells #[.slice A6 fs'.length c6] 26)).heap.size := (Array.getElem?_eq_some_iff.1 hv6).1
        have d6 : (w6.alloc (.cells #[.slice A6 fs'.length c6] 26)).cell? ⟨w6.heap.size, 0, none⟩ = some (.slice A6 fs'.length c6) := by
          rw [Lib.cell_of_heap hv6]; rfl
        have d3 : (w6.alloc (.cells #[.slice A6 fs'.length c6] 26)).cell? ⟨w2.heap.size, 0, none⟩ = some (.slice A2 fs.length c2) := by
          rw [B37.out.cell (p := ⟨w2.heap.size, 0, none⟩) z2]
          exact d2
        have HF7 : Hid (FusC (w6.alloc (.cells #[.slice A6 fs'.length c6] 26)) (· < (w6.alloc (.cells #[.slice A6 fs'.length c6] 26)).heap.size) fs' (.slice A6 fs'.length c6)) :=
          (hf6.same fun k hk => b6a.block k hk.2).more fun k hk => by have := hk.2; omega
        have HF3 : Hid (FusC (w6.alloc (.cells #[.slice A6 fs'.length c6] 26)) (· < (w6.alloc (.cells #[.slice A6 fs'.length c6] 26)).heap.size) fs (.slice A2 fs.length c2)) :=
          (HF2.out.same fun k hk => B37.out.block k hk).more fun k hk => Nat.lt_of_lt_of_le hk B37.out.size
        clear hf6 hb6 b6a hv6 d2 hcv
        by_cases h42 : err' = 42
        · have r1 : (((err' : Nat) : Int) == 42) = true := by rw [h42]; rfl
          clear h42
          go_wp2
          go_ret
          exact ⟨rfl, BW7.out⟩
        · have r1 : (((err' : Nat) : Int) == 42) = false := by rw [beq_eq_false_iff_ne]; omega
          by_cases h2 : err' = 2
          · have r2 : (((err' : Nat) : Int) == 2) = true := by rw [h2]; rfl
            clear h2 h42
            go_wp2
            go_ret
            exact ⟨rfl, BW7.out⟩
          · have r2 : (((err' : Nat) : Int) == 2) = false := by rw [beq_eq_false_iff_ne]; omega
            have h0 : err' = 0 ∧ SimFs fs fs' := by
              rcases HR.out with h | h | h
              · exact absurd h h2
              · exact absurd h h42
              · exact h
            have r0 : (((err' : Nat) : Int) == 0) = true := by rw [h0.1]; rfl
            have HSim := Lib.hid h0.2
            have K := Lib.hid (sameP fs fs' (AlsoFs.of_sim h0.2) _ _ _ _ (Nat.le_refl _) HF3.out HF7.out)
            clear h2 h42 h0
            go_wp2_with fail
            generalize w6.alloc (.cells #[.slice A6 fs'.length c6] 26) = w7 at *
            (with_reducible refine K.out.mono ?_)
            clear K
            rintro e w8 ⟨rfl, hb8⟩
            have s7 := BW7.out.size
            have BW8 := Lib.hid (BW7.out.trans (hb8.mono s7))
            have d8 : w8.cell? ⟨w6.heap.size, 0, none⟩ = some (.slice A6 fs'.length c6) := by
              rw [hb8.cell (p := ⟨w6.heap.size, 0, none⟩) z6]
              exact d6
            have HF8 : Hid (FusC w8 (· < w8.heap.size) fs' (.slice A6 fs'.length c6)) :=
              (HF7.out.same fun k hk => hb8.block k hk).more fun k hk => Nat.lt_of_lt_of_le hk hb8.size
            have K := Lib.hid (showAny fs' HW'.out HSh'.out _ _ (HPw.out.below BW8.out hp2) HF8.out)
            rw [← shown_sim HSim.out] at K
            clear hb8 d6 d3
            go_wp2_with fail
            (with_reducible refine K.out.mono ?_)
            clear K
            rintro e w9 ⟨rfl, hb9⟩
            have BW9 := Lib.hid (BW8.out.trans (hb9.mono BW8.out.size))
            have rr : ((strN (shown fs)).toList == (strN (shown fs)).toList) = true := by simp
            clear hb9 d8
            go_wp2
            go_ret
            exact ⟨rfl, BW9.out⟩
    · have q1 : (((err : Nat) : Int) != 0) = true := by rw [bne_iff_ne]; omega
      have hfs := parsed_none HP.out he
      have q2 : (((fs.length : Nat) : Int) == 0) = true := by rw [hfs]; rfl
      clear he hfs
      go_wp2
      go_ret
      exact ⟨rfl, BW2.out⟩
end
end Go.Proofs.YtoicncfpoklanaaDoor
