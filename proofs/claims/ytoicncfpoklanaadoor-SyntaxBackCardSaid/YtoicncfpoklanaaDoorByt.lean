/- Bytes as natural numbers in memory and in strings; nothing of the program. Conditions: those in each theorem. -/
import Derived.Test.YtoicncfpoklanaaDoorMem
namespace Go.Proofs.YtoicncfpoklanaaDoor
open Go.RowKit

abbrev ints (l : List Nat) : List Int := l.map Int.ofNat
/-- the cells of bytes -/
def bts (l : List Nat) : List Value := cellsOf (ints l)
/-- each is a byte -/
def Byn (l : List Nat) : Prop := ∀ b ∈ l, b < 256
/-- the string of bytes -/
def strN (l : List Nat) : ByteArray := strOfNums (ints l)

theorem Byn.byt {l : List Nat} (h : Byn l) : Byt (ints l) := by
  intro b hb
  obtain ⟨x, hx, rfl⟩ := List.mem_map.1 hb
  have := h x hx
  simp
  omega
theorem Byn.append {a b : List Nat} (ha : Byn a) (hb : Byn b) : Byn (a ++ b) := by
  intro x hx
  rcases List.mem_append.1 hx with h | h
  · exact ha x h
  · exact hb x h
theorem Byn.sub {a b : List Nat} (hb : Byn b) (h : ∀ x ∈ a, x ∈ b) : Byn a := fun x hx => hb x (h x hx)
theorem bts_length (l : List Nat) : (bts l).length = l.length := by simp [bts]
theorem bts_append (a b : List Nat) : bts (a ++ b) = bts a ++ bts b := by simp [bts, ints]
theorem bts_get {l : List Nat} {k b : Nat} (h : l[k]? = some b) : (bts l)[k]? = some (.int .u8 (b : Nat)) := by simp [bts, h]
theorem bts_one (l : List Nat) : ∀ u ∈ bts l, u.oneCell' = true := bytes_oneCell _

/-- the byte at k -/
theorem Lies.nat {w : World} {B : Nat} {A : Option Addr} {c : Nat} {l : List Nat} (h : Lies w B A c (bts l)) {k : Nat} (hk : k < l.length) :
    ∃ (ad : Addr) (b : Nat), A = some ad ∧ ad.block < B ∧ l[k]? = some b ∧ w.cell? (ad.add k) = some (.int .u8 (b : Nat)) := by
  have hl : l[k]? = some l[k] := List.getElem?_eq_getElem hk
  obtain ⟨ad, h1, h2, h3⟩ := h.2 k _ (bts_get hl)
  exact ⟨ad, _, h1, h2, hl, h3⟩
theorem byn_get {l : List Nat} (h : Byn l) {k b : Nat} (hb : l[k]? = some b) : b < 256 := h b (List.mem_of_getElem? hb)
theorem Lies.midN {w : World} {B : Nat} {A : Option Addr} {c : Nat} {l : List Nat} (h : Lies w B A c (bts l)) {p n : Nat} (hc : l.length ≤ c) :
    Lies w B (if c = p then A else A.map (fun x => x.add p)) (c - p) (bts ((l.drop p).take n)) := by
  have := Lies.mid h (p := p) (n := n) (by simpa using hc)
  simpa [bts, List.map_take, List.map_drop] using this
theorem Lies.cutN {w : World} {B : Nat} {A : Option Addr} {c : Nat} {l : List Nat} (h : Lies w B A c (bts l)) {p : Nat} (hc : l.length ≤ c) :
    Lies w B (if c = p then A else A.map (fun x => x.add p)) (c - p) (bts (l.drop p)) := by
  have := Lies.cut h (p := p) (by simpa using hc)
  simpa [bts, List.map_take, List.map_drop] using this

theorem strN_data (l : List Nat) : (strN l).data = (l.map UInt8.ofNat).toArray := by
  simp [strN, strOfNums, Function.comp_def]
theorem strN_size (l : List Nat) : (strN l).size = l.length := by
  show (strN l).data.size = _
  rw [strN_data]
  simp
theorem strN_inj {a b : List Nat} (ha : Byn a) (hb : Byn b) (h : strN a = strN b) : a = b := by
  have h1 : (strN a).data = (strN b).data := by rw [h]
  rw [strN_data, strN_data] at h1
  have h2 : a.map UInt8.ofNat = b.map UInt8.ofNat := by simpa using h1
  have h3 := congrArg (List.map UInt8.toNat) h2
  simp only [List.map_map] at h3
  have fa : a.map (UInt8.toNat ∘ UInt8.ofNat) = a := by
    conv => rhs; rw [← List.map_id a]
    refine List.map_congr_left fun x hx => ?_
    have := ha x hx
    simp
    omega
  have fb : b.map (UInt8.toNat ∘ UInt8.ofNat) = b := by
    conv => rhs; rw [← List.map_id b]
    refine List.map_congr_left fun x hx => ?_
    have := hb x hx
    simp
    omega
  rwa [fa, fb] at h3
/-- every string is that of its bytes -/
theorem strN_of (s : ByteArray) : ∃ l : List Nat, Byn l ∧ s = strN l := by
  refine ⟨s.data.toList.map UInt8.toNat, fun b hb => ?_, ?_⟩
  · obtain ⟨x, _, rfl⟩ := List.mem_map.1 hb
    exact x.toNat_lt
  · apply ByteArray.ext
    rw [strN_data]
    simp [Function.comp_def]
theorem strN_append (a b : List Nat) : strN a ++ strN b = strN (a ++ b) := by
  apply ByteArray.ext
  rw [strN_data, ByteArray.data_append, strN_data, strN_data]
  simp
theorem strN_eq {a b : List Nat} (ha : Byn a) (hb : Byn b) : ((strN a).toList == (strN b).toList) = decide (a = b) := by
  rw [Bool.eq_iff_iff]
  simp only [beq_iff_eq, decide_eq_true_eq]
  constructor
  · intro h
    rw [ByteArray.toList_eq, ByteArray.toList_eq] at h
    exact strN_inj ha hb (ByteArray.ext (by simpa using h))
  · intro h
    rw [h]
end Go.Proofs.YtoicncfpoklanaaDoor
