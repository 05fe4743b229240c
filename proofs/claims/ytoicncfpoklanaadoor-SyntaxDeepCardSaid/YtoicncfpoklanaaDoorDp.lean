/- What the document's parser makes of brackets within one another, and of three names with two signs between them; nothing of the program. Conditions: those in each theorem. -/
import Derived.Test.YtoicncfpoklanaaDoorSyn
namespace Go.Proofs.YtoicncfpoklanaaDoor
set_option maxRecDepth 100000

def deepA : List Nat := [102, 110, 32, 102, 40, 41, 32, 123, 32, 120, 32, 61, 32]
def deepL (k : Nat) : List Nat := deepA ++ List.replicate k 40 ++ [49] ++ List.replicate k 41 ++ [59, 32, 125]
def deepOk (k : Nat) : Bool :=
  match parsed (deepL k) with
  | ⟨err, fs, place⟩ => bif Nat.ble 31 k then Nat.beq err 42 && Nat.beq place 44 else Nat.beq err 0 && Nat.beq place 0 && (match fs with | [⟨_, _, _, (.mk _ _ ((.mk op _ _ _ _) :: _) _ _ _) :: _, _⟩] => Nat.beq op 1 | _ => false)
theorem deep_0 : ([0, 1, 2, 3, 4].all deepOk) = true := by kernel_rfl
theorem deep_5 : ([5, 6, 7, 8, 9].all deepOk) = true := by kernel_rfl
theorem deep_10 : ([10, 11, 12, 13, 14].all deepOk) = true := by kernel_rfl
theorem deep_15 : ([15, 16, 17, 18, 19].all deepOk) = true := by kernel_rfl
theorem deep_20 : ([20, 21, 22, 23, 24].all deepOk) = true := by kernel_rfl
theorem deep_25 : ([25, 26, 27, 28, 29].all deepOk) = true := by kernel_rfl
theorem deep_30 : ([30, 31, 32, 33, 34].all deepOk) = true := by kernel_rfl
theorem deep_35 : ([35, 36, 37, 38, 39].all deepOk) = true := by kernel_rfl
theorem deep_40 : ([40, 41, 42, 43, 44].all deepOk) = true := by kernel_rfl
theorem deep_45 : ([45, 46, 47, 48, 49].all deepOk) = true := by kernel_rfl
theorem deep_50 : ([50, 51, 52, 53, 54].all deepOk) = true := by kernel_rfl
theorem deep_55 : ([55, 56, 57, 58, 59].all deepOk) = true := by kernel_rfl
theorem deep_60 : ([60, 61, 62, 63, 64].all deepOk) = true := by kernel_rfl
theorem deep_65 : ([65, 66, 67, 68, 69].all deepOk) = true := by kernel_rfl
theorem deep_70 : ([70, 71, 72, 73, 74].all deepOk) = true := by kernel_rfl
theorem deep_75 : ([75, 76, 77, 78, 79].all deepOk) = true := by kernel_rfl
theorem deep_80 : ([80, 81, 82, 83, 84].all deepOk) = true := by kernel_rfl
theorem deep_85 : ([85, 86, 87, 88, 89].all deepOk) = true := by kernel_rfl
theorem deep_90 : ([90, 91, 92, 93, 94].all deepOk) = true := by kernel_rfl
theorem deep_95 : ([95, 96, 97, 98, 99].all deepOk) = true := by kernel_rfl
theorem deep_ok (k : Nat) (hk : k < 100) : deepOk k = true := by
  by_cases h0 : k < 5
  · have hin : k ∈ [0, 1, 2, 3, 4] := by simp; omega
    exact List.all_eq_true.1 deep_0 k hin
  by_cases h5 : k < 10
  · have hin : k ∈ [5, 6, 7, 8, 9] := by simp; omega
    exact List.all_eq_true.1 deep_5 k hin
  by_cases h10 : k < 15
  · have hin : k ∈ [10, 11, 12, 13, 14] := by simp; omega
    exact List.all_eq_true.1 deep_10 k hin
  by_cases h15 : k < 20
  · have hin : k ∈ [15, 16, 17, 18, 19] := by simp; omega
    exact List.all_eq_true.1 deep_15 k hin
  by_cases h20 : k < 25
  · have hin : k ∈ [20, 21, 22, 23, 24] := by simp; omega
    exact List.all_eq_true.1 deep_20 k hin
  by_cases h25 : k < 30
  · have hin : k ∈ [25, 26, 27, 28, 29] := by simp; omega
    exact List.all_eq_true.1 deep_25 k hin
  by_cases h30 : k < 35
  · have hin : k ∈ [30, 31, 32, 33, 34] := by simp; omega
    exact List.all_eq_true.1 deep_30 k hin
  by_cases h35 : k < 40
  · have hin : k ∈ [35, 36, 37, 38, 39] := by simp; omega
    exact List.all_eq_true.1 deep_35 k hin
  by_cases h40 : k < 45
  · have hin : k ∈ [40, 41, 42, 43, 44] := by simp; omega
    exact List.all_eq_true.1 deep_40 k hin
  by_cases h45 : k < 50
  · have hin : k ∈ [45, 46, 47, 48, 49] := by simp; omega
    exact List.all_eq_true.1 deep_45 k hin
  by_cases h50 : k < 55
  · have hin : k ∈ [50, 51, 52, 53, 54] := by simp; omega
    exact List.all_eq_true.1 deep_50 k hin
  by_cases h55 : k < 60
  · have hin : k ∈ [55, 56, 57, 58, 59] := by simp; omega
    exact List.all_eq_true.1 deep_55 k hin
  by_cases h60 : k < 65
  · have hin : k ∈ [60, 61, 62, 63, 64] := by simp; omega
    exact List.all_eq_true.1 deep_60 k hin
  by_cases h65 : k < 70
  · have hin : k ∈ [65, 66, 67, 68, 69] := by simp; omega
    exact List.all_eq_true.1 deep_65 k hin
  by_cases h70 : k < 75
  · have hin : k ∈ [70, 71, 72, 73, 74] := by simp; omega
    exact List.all_eq_true.1 deep_70 k hin
  by_cases h75 : k < 80
  · have hin : k ∈ [75, 76, 77, 78, 79] := by simp; omega
    exact List.all_eq_true.1 deep_75 k hin
  by_cases h80 : k < 85
  · have hin : k ∈ [80, 81, 82, 83, 84] := by simp; omega
    exact List.all_eq_true.1 deep_80 k hin
  by_cases h85 : k < 90
  · have hin : k ∈ [85, 86, 87, 88, 89] := by simp; omega
    exact List.all_eq_true.1 deep_85 k hin
  by_cases h90 : k < 95
  · have hin : k ∈ [90, 91, 92, 93, 94] := by simp; omega
    exact List.all_eq_true.1 deep_90 k hin
  by_cases h95 : k < 100
  · have hin : k ∈ [95, 96, 97, 98, 99] := by simp; omega
    exact List.all_eq_true.1 deep_95 k hin
  omega
end Go.Proofs.YtoicncfpoklanaaDoor
