/- Check, as a plain function of a module. No program. Conditions: those in each theorem. -/
import Derived.Test.YtilmidjkjgeoeaaDoorWD
namespace Go.Proofs.YtilmidjkjgeoeaaDoor
open Go.RowKit Go.MapKept
set_option maxRecDepth 100000
set_option linter.unusedVariables false
set_option linter.unusedSimpArgs false
/-- a code, as the plain half has it -/
def kcOf (c : Cd) : Kc := ⟨c.name.map Int.toNat, c.params, c.result, c.slots.toNat, c.instrs⟩
open Classical in
noncomputable def checkM (m : Md) : Int := if okMd m = true then (if SafeM (m.codes.map kcOf) m.texts.length then 0 else 131) else 111
theorem nm_iff {a b : List Int} (ha : Byt a) (hb : Byt b) : strOfNums a = strOfNums b ↔ a.map Int.toNat = b.map Int.toNat := by
  constructor
  · intro h
    have h1 := congrArg (fun s : ByteArray => s.data.toList.map UInt8.toNat) h
    simp only [strOfNums_data, List.map_map] at h1
    have key : ∀ l : List Int, Byt l → l.map (UInt8.toNat ∘ fun n => UInt8.ofNat n.toNat) = l.map Int.toNat := fun l hl =>
      List.map_congr_left fun x hx => by
        have := hl x hx
        show (UInt8.ofNat x.toNat).toNat = x.toNat
        rw [UInt8.toNat_ofNat']
        omega
    rw [key a ha, key b hb] at h1
    exact h1
  · intro h
    have e : a = b := by
      have h1 := congrArg (fun l : List Nat => l.map fun n : Nat => (n : Int)) h
      simp only [List.map_map] at h1
      have key : ∀ l : List Int, Byt l → l.map ((fun n : Nat => (n : Int)) ∘ Int.toNat) = l := fun l hl => by
        conv => rhs; rw [← List.map_id l]
        refine List.map_congr_left fun x hx => ?_
        have := hl x hx
        show ((x.toNat : Nat) : Int) = x
        omega
      rwa [key a ha, key b hb] at h1
    rw [e]
theorem names_iff {l : List Cd} (h : ∀ c ∈ l, Byt c.name) : (l.map nmOf).Nodup ↔ ((l.map kcOf).map (·.name)).Nodup := by
  unfold List.Nodup
  rw [List.pairwise_map, List.map_map, List.pairwise_map]
  constructor
  · intro hp
    exact hp.imp_of_mem fun {a b} ha hb hne e => hne ((nm_iff (h a ha) (h b hb)).2 e)
  · intro hp
    exact hp.imp_of_mem fun {a b} ha hb hne e => hne ((nm_iff (h a ha) (h b hb)).1 e)
/-- what a right code is -/
structure RightC (c : Cd) : Prop where
  params : c.params.length ≤ 16
  instrs : c.instrs.length ≤ 16384
  ps : (c.params.length : Int) ≤ c.slots
  slots : c.slots ≤ 256
  res : OkN c.result
  ty : ∀ p ∈ c.params, okTy p
  op : ∀ i ∈ c.instrs, 1 ≤ i.1 ∧ i.1 ≤ 18
theorem rightC_is {c : Cd} (h : okCd c = true) : RightC c := by
  unfold okCd at h
  simp only [Bool.and_eq_true, decide_eq_true_eq, Bool.or_eq_true, List.all_eq_true] at h
  obtain ⟨_, h2, h3, h4, h5, h6, h7, h8⟩ := h
  have ht : ∀ t, okT t = true → okTy t := fun t h => by
    unfold okT at h
    simp only [Bool.and_eq_true, decide_eq_true_eq] at h
    exact h
  refine ⟨h2, h3, h4, h5, h6.imp id (ht _), fun p hp => ht p (h7 p hp), fun i hi => ?_⟩
  have := h8 i hi
  unfold okI at this
  simp only [Bool.and_eq_true, decide_eq_true_eq] at this
  exact this
theorem okMd_codes {m : Md} (h : okMd m = true) : ∀ c ∈ m.codes, RightC c := fun c hc => rightC_is (List.all_eq_true.1 (okMd_is h).2.2.1 c hc)
/-- what the walk of one function asks -/
theorem safeP_of {w' : World} {m : Md} {c : Cd} {C : Value} {AT : Option Addr} {cT B : Nat} {mm : Nat} {nm : ByteArray} {U I : Value} (hm : okMd m = true) (hf : MdFit m) (hc : c ∈ m.codes) (ht : Tab w') (hB : 0 < B) (hC : CodesV w' B m.codes C) (hU : RowL w' B c.params.length (tysV c.params) U) (hI : RowL w' B c.instrs.length (insV c.instrs) I) :
    SafeP B (wx0 mm C (.slice AT m.texts.length cT) nm U c.result c.slots I c.instrs.length) ⟨(m.codes.map kcOf).map (fun c => (c.params, c.result)), m.texts.length, c.result⟩ m.codes c (initV (kcOf c)).sl.length w' := by
  have hr := okMd_codes hm c hc
  have h1 := hr.ps
  have hsl : ((initV (kcOf c)).sl.length : Int) = c.slots := by
    show (((c.params ++ List.replicate (c.slots.toNat - c.params.length) 0).length : Nat) : Int) = c.slots
    rw [List.length_append, List.length_replicate]
    omega
  have h2 := hr.slots
  have h3 := okMd_is hm
  exact {
    hC := hC
    hfs := by rw [List.map_map]; rfl
    hT := ⟨_, _, rfl⟩
    hr := rfl
    hr2 := hr.res
    hs := hsl.symm
    hok := fun d hd => ⟨(okMd_codes hm d hd).ty, (okMd_codes hm d hd).res⟩
    tab := ht
    h0 := hB
    hnt := h3.2.1
    hcs := by omega
    hI := hI
    hP := hU
    hin := fun i hi => ⟨hr.op i hi, ((hf.codes c hc).instrs i hi).2⟩
    hps := hr.ty
    hm := by omega
    hpm := by omega
    hn := hr.instrs }
theorem init_sl (c : Cd) : (initV (kcOf c)).sl = c.params ++ List.replicate ((initV (kcOf c)).sl.length - c.params.length) 0 := by
  show c.params ++ List.replicate (c.slots.toNat - c.params.length) 0 = c.params ++ List.replicate ((c.params ++ List.replicate (c.slots.toNat - c.params.length) 0).length - c.params.length) 0
  rw [List.length_append, List.length_replicate, Nat.add_sub_cancel_left]
/-- a function of a module is safe -/
def SafeC (m : Md) (c : Cd) : Prop := safeK (m.codes.map kcOf) m.texts.length (kcOf c)
theorem check_right {m : Md} (h : ¬ okMd m = true) : checkM m = 111 := by unfold checkM; rw [if_neg h]
theorem check_not {m : Md} (h : okMd m = true) (hn : ¬ SafeM (m.codes.map kcOf) m.texts.length) : checkM m = 131 := by unfold checkM; rw [if_pos h, if_neg hn]
theorem check_safe {m : Md} (h : okMd m = true) (hn : SafeM (m.codes.map kcOf) m.texts.length) : checkM m = 0 := by unfold checkM; rw [if_pos h, if_pos hn]
theorem check_names {m : Md} (h : okMd m = true) (hf : MdFit m) (hn : ¬ (m.codes.map nmOf).Nodup) : checkM m = 131 :=
  check_not h fun hs => hn ((names_iff fun c hc => (hf.codes c hc).name).2 hs.names)
theorem check_one {m : Md} (h : okMd m = true) {c : Cd} (hc : c ∈ m.codes) (hn : ¬ SafeC m c) : checkM m = 131 :=
  check_not h fun hs => hn (hs.each _ (List.mem_map.2 ⟨c, hc, rfl⟩))
theorem check_all {m : Md} (h : okMd m = true) (hf : MdFit m) (hn : (m.codes.map nmOf).Nodup) (ha : ∀ c ∈ m.codes, SafeC m c) : checkM m = 0 :=
  check_safe h ⟨(names_iff fun c hc => (hf.codes c hc).name).1 hn, fun c hc => by
    obtain ⟨d, hd, rfl⟩ := List.mem_map.1 hc
    exact ha d hd⟩
end Go.Proofs.YtilmidjkjgeoeaaDoor
