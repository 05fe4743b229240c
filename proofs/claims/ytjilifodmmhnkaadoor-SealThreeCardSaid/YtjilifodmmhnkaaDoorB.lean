/- What 'sumBytes', 'bytes.Equal', 'bytes.Clone' and 'Seal' return. Conditions: none beyond what a slice is, and its reach; the table of sixteen lies as the program lays it. -/
import Derived.Test.YtjilifodmmhnkaaDoorA
namespace Go.Proofs.YtjilifodmmhnkaaDoor
open Go.RowKit
theorem info5 : (Tryd.prog.info? 5).map (fun i => (i.zero, i.size, i.bytes)) = some (some (.int .u8 0), 1, 1) := by kernel_rfl

/-- the four bytes of a number, the most significant first -/
def four (s : Nat) : List Int := [(s : Int) / 16777216, (s : Int) / 65536 % 256, (s : Int) / 256 % 256, (s : Int) % 256]
theorem four_byt {s : Nat} (h : s < 4294967296) : Byt (four s) := by
  intro b hb
  simp only [four, List.mem_cons, List.not_mem_nil, or_false] at hb
  omega
theorem four_length (s : Nat) : (four s).length = 4 := rfl

set_option maxHeartbeats 400000 in
theorem sumBytes (s : Nat) (w : World) (hs : s < 4294967296) :
    Calls Tryd.prog 16 #[.int .u32 s] w fun e w' => e = .returned (.agg #[.int .u8 ((s : Int) / 16777216), .int .u8 ((s : Int) / 65536 % 256), .int .u8 ((s : Int) / 256 % 256), .int .u8 ((s : Int) % 256)]) ∧ Below w.heap.size w w' := by
  go_enter Tryd.func16, Tryd.ntmps16
  go_wp2
  exact bodyPost_ret (v := .agg #[.int .u8 ((s : Int) / 16777216), .int .u8 ((s : Int) / 65536 % 256), .int .u8 ((s : Int) / 256 % 256), .int .u8 ((s : Int) % 256)]) (by simp [results, Tryd.results16, go_sem]) rfl ⟨rfl, (Below.refl _ _).alloc (Nat.le_refl _) _⟩

/-- two byte strings, held against each other as strings -/
def eqS (l1 l2 : List Int) : Bool := (strOfNums l1).toList == (strOfNums l2).toList

set_option maxHeartbeats 400000 in
theorem equal (A1 A2 : Option Addr) (l1 l2 : List Int) (n1 n2 c1 c2 : Nat) (w : World) (B1 B2 : Nat) (e1 : l1.length = n1) (e2 : l2.length = n2) (h1 : Lies w B1 A1 c1 (cellsOf l1)) (h2 : Lies w B2 A2 c2 (cellsOf l2)) :
    Calls Tryd.prog 17 #[.slice A1 n1 c1, .slice A2 n2 c2] w fun e w' => e = .returned (.bool (eqS l1 l2)) ∧ w = w' := by
  have g1 := run_string_lies (P := Tryd.prog) w 22 9 5 Tryd.underlying22 Tryd.underlying5 Tryd.underlying9 B1 A1 n1 c1 l1 e1 h1
  have g2 := run_string_lies (P := Tryd.prog) w 22 9 5 Tryd.underlying22 Tryd.underlying5 Tryd.underlying9 B2 A2 n2 c2 l2 e2 h2
  unfold eqS
  generalize strOfNums l1 = s1 at *
  generalize strOfNums l2 = s2 at *
  clear h1 h2
  go_enter Tryd.func17, Tryd.ntmps17
  go_wp2
  go_ret
  exact ⟨rfl, rfl⟩

theorem byte_inj {a b : Int} (ha : 0 ≤ a ∧ a < 256) (hb : 0 ≤ b ∧ b < 256) (h : UInt8.ofNat a.toNat = UInt8.ofNat b.toNat) : a = b := by
  have h1 := congrArg UInt8.toNat h
  simp only [UInt8.toNat_ofNat'] at h1
  omega
theorem map_inj {f : Int → UInt8} : ∀ {l1 l2 : List Int}, (∀ a ∈ l1, ∀ b ∈ l2, f a = f b → a = b) → l1.map f = l2.map f → l1 = l2
  | [], [], _, _ => rfl
  | [], b :: l2, _, h => by simp at h
  | a :: l1, [], _, h => by simp at h
  | a :: l1, b :: l2, hf, h => by
    simp only [List.map_cons, List.cons.injEq] at h
    rw [hf a (List.mem_cons_self ..) b (List.mem_cons_self ..) h.1, map_inj (fun x hx y hy => hf x (List.mem_cons_of_mem _ hx) y (List.mem_cons_of_mem _ hy)) h.2]
theorem toList_inj {a b : ByteArray} (h : a.toList = b.toList) : a = b := by
  rw [ByteArray.toList_eq, ByteArray.toList_eq] at h
  cases a; cases b
  simp at h
  rw [h]
theorem strOfNums_inj {l1 l2 : List Int} (h1 : Byt l1) (h2 : Byt l2) (h : strOfNums l1 = strOfNums l2) : l1 = l2 := by
  have e := congrArg (fun x : ByteArray => x.data.toList) h
  simp only [strOfNums_data] at e
  exact map_inj (fun a ha b hb hf => byte_inj (h1 a ha) (h2 b hb) hf) e
theorem eqS_true (l : List Int) : eqS l l = true := by simp [eqS]
theorem eqS_false {l1 l2 : List Int} (h1 : Byt l1) (h2 : Byt l2) (h : l1 ≠ l2) : eqS l1 l2 = false := by
  unfold eqS
  rw [beq_eq_false_iff_ne]
  exact fun e => h (strOfNums_inj h1 h2 (toList_inj e))

/-- what a call returns that makes a byte string anew -/
def OwnBytes (w : World) (l : List Int) (e : Ending) (w' : World) : Prop :=
  ∃ v, e = .returned v ∧ w'.ownsRow w.heap.size 5 1 v l.length (cellsOf l) ∧ Below w.heap.size w w'
theorem own_empty (w : World) : (w.alloc (.cells #[] 5)).ownsRow w.heap.size 5 1 (.slice (some ⟨w.heap.size, 0, none⟩) 0 0) 0 [] :=
  World.ownsRow_made w #[] 0 (Nat.le_refl _) (Nat.zero_le _) rfl
/-- a slice against nil -/
theorem eq_nil (w : World) (A : Option Addr) (n c : Nat) : (binOp .eql 22 (.slice A n c) (.slice none 0 0)).run Tryd.prog w = .ok (.bool A.isNone) w := by
  simp only [binOp]
  simp [run_equal_slice_nil w 22 5 A n c Tryd.underlying22]

set_option maxHeartbeats 400000 in
theorem cloneO (A : Option Addr) (l : List Int) (n c : Nat) (w : World) (hn : l.length = n) (hl : Lies w w.heap.size A c (cellsOf l)) (hlen : l.length ≤ 140737488355328) :
    Calls Tryd.prog 18 #[.slice A n c] w (OwnBytes w l) := by
  subst hn
  obtain ⟨i0, hi, hz0, hz1, hz2⟩ := info_parts info5
  cases A with
  | none =>
    obtain ⟨h1, rfl⟩ := hl.none_nil
    have h2 : l = [] := by simpa using h1
    subst h2
    clear h1 hl hlen
    have hnil := eq_nil w none 0 0
    go_enter Tryd.func18, Tryd.ntmps18
    go_wp2
    go_ret
    exact ⟨.slice none 0 0, rfl, World.ownsRow_nil _ _ _ _, Below.refl _ _⟩
  | some ad =>
    have ho := own_empty w
    have hb := (Below.refl w.heap.size w).alloc (Nat.le_refl _) (.cells #[] 5)
    have hl1 := hl.below hb
    clear hl
    have hnil := eq_nil w (some ad) l.length c
    go_enter Tryd.func18, Tryd.ntmps18
    go_wp2_with (at_builtin; refine wpList_append_lies rfl (.tmp 5) (.tmp 6) 22 rfl w.heap.size 5 i0 (.int .u8 0) 1 Tryd.underlying22 hi hz0 hz1 hz2 rfl _ 0 [] rfl ho w.heap.size (some ad) l.length c (cellsOf l) rfl (by simp) hl1 (bytes_oneCell l) (by unfold maxLen; omega) (by omega) (by simp) ?_; intro v2 w2 ho2 hg2)
    go_ret
    exact ⟨v2, rfl, own_eq ho2 (by omega) (by simp), hb.grown hg2 (by simp) (fun k hk => (ho.lt k hk).1)⟩

/-- a block just made, as a slice that lies -/
theorem lies_new (w : World) (l : List Int) (c : Nat) (t : TypeId) (fr : Nat × Nat) : Lies (w.alloc (.cells (cellsOf l).toArray t fr)) (w.heap.size + 1) (some ⟨w.heap.size, 0, none⟩) c (cellsOf l) := by
  refine ⟨(fun e => by cases e), fun j u hu => ⟨_, rfl, by simp, ?_⟩⟩
  have hb : (w.alloc (.cells (cellsOf l).toArray t fr)).heap[w.heap.size]? = some (.cells (cellsOf l).toArray t fr) := heap_alloc_new w _
  rw [Addr.add_lit, cell_of_row _ _ _ _ _ _ hb]
  simpa using hu

theorem four_parts (s : Nat) : ∃ a0 a1 a2 a3 : Int, four s = [a0, a1, a2, a3] ∧ (s : Int) / 16777216 = a0 ∧ (s : Int) / 65536 % 256 = a1 ∧ (s : Int) / 256 % 256 = a2 ∧ (s : Int) % 256 = a3 := ⟨_, _, _, _, rfl, rfl, rfl, rfl, rfl⟩

set_option maxHeartbeats 400000 in
theorem sealO (A : Option Addr) (l : List Int) (n c : Nat) (w : World) (hn : l.length = n) (hc : n ≤ c) (hcm : c ≤ maxLen) (hr : n ≤ 140737488351300) (hl : Lies w w.heap.size A c (cellsOf l)) (hy : Byt l) (ht : Tab w) :
    Calls Tryd.prog 10 #[.slice A n c] w (OwnBytes w (four (crcI l) ++ l)) := by
  subst hn
  have HL := Lib.hid hl
  have HT := Lib.hid ht
  have HY := Lib.hid hy
  have hs := crcI_lt l
  obtain ⟨i0, hi, hz0, hz1, hz2⟩ := info_parts info5
  clear hl ht hy
  go_enter Tryd.func10, Tryd.ntmps10
  go_wp2_with fail
  refine (sum A l c _ _ hc hcm HL.out HY.out HT.out).mono ?_
  rintro e w1 ⟨rfl, rfl⟩
  go_wp2_with fail
  refine (sumBytes _ _ hs).mono ?_
  rintro e w1 ⟨rfl, hb1⟩
  obtain ⟨a0, a1, a2, a3, hF, h0, h1, h2, h3⟩ := four_parts (crcI l)
  rw [h0, h1, h2, h3]
  have HF := Lib.hid hF
  clear hF h0 h1 h2 h3
  have hal := hb1.alloc hb1.size (.cells (cellsOf [a0, a1, a2, a3]).toArray 36)
  have hl4 := lies_new w1 [a0, a1, a2, a3] 4 36 (0, 0)
  have HL2 := Lib.hid (HL.out.below hal)
  simp only [cellsOf, List.map_cons, List.map_nil] at hal hl4
  have HL4 := Lib.hid hl4
  clear hl4
  have hsz := hal.size
  generalize hX : Obj.cells #[Value.int IntKind.u8 a0, Value.int IntKind.u8 a1, Value.int IntKind.u8 a2, Value.int IntKind.u8 a3] 36 = X at *
  go_wp2_with (first
    | (at_make; refine wpList_make_own _ rfl _ _ 22 rfl w.heap.size 5 i0 (.int .u8 0) 1 Tryd.underlying22 hi hz0 hz1 _ _ _ (4 + l.length) rfl rfl (by omega) (by rw [hz2]; omega) (by unfold maxLen; omega) hsz ?_; intro w2 ho2 hg2
       have hb2 : Below (w1.alloc X).heap.size (w1.alloc X) w2 := (Below.refl _ _).grown hg2 (Nat.le_refl _) (fun k hk => by cases hk)
       have hbw2 : Below w.heap.size w w2 := hal.trans (hb2.mono hsz)
       have hs2 := hbw2.size
       rw [World.size_alloc] at ho2)
    | (at_builtin; refine wpList_append_lies rfl (.tmp 12) (.tmp 13) 22 rfl w.heap.size 5 i0 (.int .u8 0) 1 Tryd.underlying22 hi hz0 hz1 hz2 rfl _ 0 [] rfl ho2 _ _ 4 4 (cellsOf [a0, a1, a2, a3]) rfl rfl (HL4.out.below (hb2.mono (by simp))) (bytes_oneCell _) (by unfold maxLen; omega) (by omega) hs2 ?_; intro v3 w3 ho3 hg3
       have hbw3 : Below w.heap.size w w3 := hbw2.grown hg3 hs2 (fun k hk => (ho2.lt k hk).1)
       have hs3 := hbw3.size)
    | (at_builtin; refine wpList_append_lies rfl (.tmp 15) (.tmp 16) 22 rfl w.heap.size 5 i0 (.int .u8 0) 1 Tryd.underlying22 hi hz0 hz1 hz2 rfl _ _ _ rfl ho3 _ A l.length c (cellsOf l) rfl (by simp) (HL.out.below hbw3) (bytes_oneCell _) (by unfold maxLen; omega) (by omega) hs3 ?_; intro v4 w4 ho4 hg4
       have hbw4 : Below w.heap.size w w4 := hbw3.grown hg4 hs3 (fun k hk => (ho3.lt k hk).1)))
  go_ret
  exact ⟨v4, rfl, own_eq ho4 (by simp [four_length]) (by rw [HF.out]; simp [cellsOf]), hbw4⟩
end Go.Proofs.YtjilifodmmhnkaaDoor
