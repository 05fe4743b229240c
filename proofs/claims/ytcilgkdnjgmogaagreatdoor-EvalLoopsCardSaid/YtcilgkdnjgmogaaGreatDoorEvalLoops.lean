/- PROVED HERE: EvalLoops answers true at every input, and leaves its arguments as they were (the tied card). Conditions: none beyond what the statement itself says: the listed table lies as the program's text lays it, which the card ties to that text. -/
import Derived.Test.YtcilgkdnjgmogaaGreatDoorKf
import Derived.Test.YtcilgkdnjgmogaaGreatDoorKb
import Derived.Test.YtcilgkdnjgmogaaGreatDoorTie
import Derived.Test.YtcilgkdnjgmogaaGreatDoorCards
namespace Go.Proofs.YtcilgkdnjgmogaaGreatDoor
open Go.ChangeShapes Go.WideShapes Go.ChangeAt Go.RowKit
set_option linter.unusedVariables false

set_option maxRecDepth 100000 in
theorem evalLoops_lifted (os : Os) (started : os.Started) (H : Type) (enc : TypeId × Value → H) :
    ReturnsInHanded {} Tryz.checked os 7 .any (fun w args => (Rows.evalLoopsSpec.pre enc Tryz.prog Tryz.f7 [] false w args ∧ laidMetH Tryz.prog zeu w) ∧ sizedMet enc Tryz.prog Tryz.f7 (OpenSpec.ofChange Rows.evalLoopsSpec) false w args)
      (Rows.evalLoopsSpec.post enc Tryz.prog Tryz.f7 false true false false) := by
  refine returnsInHanded_of_change_and (C := Tryz.checked) (X := fun w _ => laidMetH Tryz.prog zeu w) (fun _ _ _ hh h => h.of_heap hh) own started (by kernel_rfl) Tryz.func7
    (ChangeSpec.witness_shaped (enc := enc) (C := Tryz.checked) (os := os) (X := fun w _ => laidMetH Tryz.prog zeu w) false (World.doorLaid Tryz.prog 400 os) #[.int .i8 0, .int .i8 0] 8 rfl (World.shaped_of_RefB (by kernel_rfl) (by kernel_rfl)) (by kernel_rfl) (by kernel_rfl) (by kernel_rfl) (zg2 os _)) ?_
  intro W base args ds gs before hval0 hW _ hsz0 hL _
  have hval : ∀ (j : Nat) t v, Tryz.f7.params[j]? = some t → args[j]? = some v → Value.okWide Tryz.prog W .any base t v := hval0
  have hsz : (DataW.weightsEach Tryz.prog (Tryz.f7.params.toList ++ Rows.evalLoopsSpec.plain.varTypes Tryz.prog) (ds ++ gs)).all (· ≤ reachBytes) = true := hsz0
  have ht := zwe hL
  have hW' := hW
  obtain ⟨p, q, hA0, hV, rfl, hfz, hnd⟩ := hW
  have hA : DataW.TrodAll enc Tryz.prog W 0 (fun _ => true) true Tryz.f7.params.toList args.toList ds p := hA0
  rw [Tryz.params7] at hA hval hsz
  obtain ⟨v0, vs0, d0, ds0, p0, q0, hargs, rfl, rfl, h0, r0⟩ := trodAll_cons hA
  obtain ⟨v1, vs1, d1, ds1, p1, q1, rfl, rfl, rfl, h1, r1⟩ := trodAll_cons r0
  obtain ⟨rfl, rfl, rfl⟩ := trodAll_nil r1
  obtain rfl : args = #[v0, v1] := by cases args; simp_all
  obtain ⟨rfl, rfl⟩ := trodVars_none hV
  obtain ⟨a0, rfl, rfl, rfl, w0⟩ := open_int Tryz.underlying57 (hval 0 57 v0 rfl rfl) h0
  have b0 := bounds_i8 w0
  obtain ⟨a1, rfl, rfl, rfl, w1⟩ := open_int Tryz.underlying57 (hval 1 57 v1 rfl rfl) h1
  have b1 := bounds_i8 w1
  clear hA0 hval0
  refine (ziz a0 a1 (by omega) (by omega) _ ht).mono fun e W' ⟨he, bel⟩ => ?_
  subst he
  exact ⟨_, rfl, _, _, _, [], _, [], hW', trodAll_mk1 (shut_bool Tryz.underlying4 _), (trodAll_cons_mk (shut_int Tryz.underlying57 w0) (trodAll_cons_mk (shut_int Tryz.underlying57 w1) trodAll_mk0)), rfl, bel.frame _, fun h => by cases h⟩

theorem evalLoops_row : Rows.EvalLoopsSaid :=
  OpenClaim.holds_of_wide 7 Tryz.f7 rfl rfl rfl rfl rfl rfl rfl ⟨rfl, rfl, rfl, rfl, rfl⟩ rfl rfl rfl rfl rfl (by kernel_rfl) Tryz.func7 wy
    (of_decide_eq_true (by kernel_rfl)) (by unfold Func.isWrapper; first | (rw [if_pos (by decide +kernel)]; kernel_rfl) | (rw [if_neg (by decide +kernel)]; exact ⟨rfl, rfl⟩))
    (fun os started H enc _ => evalLoops_lifted os started H enc)

theorem evalLoops_holds : Rows.EvalLoopsCardSaid :=
  Claim7.holds_tied_plain_at .later [] [.data, .data] true (true, "20a4b8f10f3facb4eddfb4da623dd329809a1f4fa6d99b0aa5301608ddedb87d") true
    evalLoops_row (fun _ h => by cases h) zes (fun _ h => by cases h) evalLoops_row_tie rfl ⟨rfl, rfl⟩ zdw rfl
    (fun f fn hf hfn => by
      obtain rfl : f = 7 := Option.some.inj (zet.symm.trans hf) |>.symm
      obtain rfl : fn = Tryz.f7 := (Option.some.inj (Tryz.func7.symm.trans hfn)).symm
      exact ⟨zbs, fun j t ht => by
        rw [Tryz.params7] at ht
        have hm : t ∈ [57, 57] := by simpa using Array.mem_of_getElem? ht
        exact (show Tryz.prog.wantsStandIn t = false by simpa using List.all_eq_true.1 wv t hm)⟩)
    zar
#print axioms evalLoops_holds
end Go.Proofs.YtcilgkdnjgmogaaGreatDoor
