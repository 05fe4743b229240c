/- TypesScope: its walk where there is a block within; both together. Conditions: the tables lie as the program lays them. -/
import Derived.Test.YtfcpabhkconjmaaGreatDoorZb
namespace Go.Proofs.YtfcpabhkconjmaaGreatDoor
open Go.RowKit
set_option maxRecDepth 100000
set_option linter.unusedSimpArgs false
set_option linter.unusedVariables false

set_option maxHeartbeats 1600000 in
theorem scope_yes (s : List Nat) (w : World) (hs : Byn s) (ht : Tab w) : Calls Tryz.prog 7 #[.string (strN s), .bool true] w fun e w' => e = .returned (.bool true) ∧ Below w.heap.size w w' := by
  have K := Lib.hid (head5_true w ht)
  clear ht
  go_enter Tryz.func7, Tryz.ntmps7
  go_wp2_with fail
  with_reducible refine K.out.mono ?_
  clear K
  rintro e w1 ⟨rfl, b1⟩
  have HB1 := Lib.hid b1
  clear b1
  go_upto_region 3 with fail
  have R6 := Lib.hid (range_newz w1 [.int .i64 1, .int .i64 1, .string ⟨#[]⟩, .slice none 0 0, .int .i64 0] 46)
  have B2 := Lib.hid (bthen5 HB1.out (below_alloc w1 (.cells #[.int .i64 1, .int .i64 1, .string ⟨#[]⟩, .slice none 0 0, .int .i64 0] 46)) HB1.out.size)
  clear HB1
  generalize w1.alloc (.cells #[.int .i64 1, .int .i64 1, .string ⟨#[]⟩, .slice none 0 0, .int .i64 0] 46) = w2 at *
  generalize w1.heap.size = b6 at *
  have x0 : w2.cell? ⟨b6, 0, none⟩ = some (.int .i64 1) := R6.out 0 _ rfl
  have x1 : w2.cell? ⟨b6, 1, none⟩ = some (.int .i64 1) := R6.out 1 _ rfl
  have x2 : w2.cell? ⟨b6, 2, none⟩ = some (.string ⟨#[]⟩) := R6.out 2 _ rfl
  have x3 : w2.cell? ⟨b6, 3, none⟩ = some (.slice none 0 0) := R6.out 3 _ rfl
  have x4 : w2.cell? ⟨b6, 4, none⟩ = some (.int .i64 0) := R6.out 4 _ rfl
  go_upto_region 4 with fail
  clear x0 x1 x2 x3 x4
  have V1 : XesC (w2.alloc (.cells #[.int .i64 1, .int .i64 1, .string ⟨#[]⟩, .slice none 0 0, .int .i64 0] 46)) (Lo (w2.alloc (.cells #[.int .i64 1, .int .i64 1, .string ⟨#[]⟩, .slice none 0 0, .int .i64 0] 46)).heap.size) [oneX] (.slice (some ⟨w2.heap.size, 0, none⟩) 1 1) := xes_one (e := oneX) (range_newz w2 [.int .i64 1, .int .i64 1, .string ⟨#[]⟩, .slice none 0 0, .int .i64 0] 46) (by simp) rfl (by intro b hb; cases hb)
  have K7 := Kept.new (w := (w2.alloc (.cells #[.int .i64 1, .int .i64 1, .string ⟨#[]⟩, .slice none 0 0, .int .i64 0] 46))) (x := letX s) (k := ⟨.slice (some ⟨w2.heap.size, 0, none⟩) 1 1, .slice none 0 0, .slice none 0 0⟩) (xsv_mk hs V1 (XssC.none _ _) rfl) 48
  have hz2 : (w2.alloc (.cells #[.int .i64 1, .int .i64 1, .string ⟨#[]⟩, .slice none 0 0, .int .i64 0] 46)).heap.size = w2.heap.size + 1 := by simp
  rw [hz2] at K7
  have HK7 : Hid (Kept ((w2.alloc (.cells #[.int .i64 1, .int .i64 1, .string ⟨#[]⟩, .slice none 0 0, .int .i64 0] 46)).alloc (.cells #[.int .i64 1, .string (strN s), .slice (some ⟨w2.heap.size, 0, none⟩) 1 1, .slice none 0 0, .slice none 0 0, .int .i64 0] 48)) (w2.heap.size + 1) (letX s) ⟨.slice (some ⟨w2.heap.size, 0, none⟩) 1 1, .slice none 0 0, .slice none 0 0⟩) := K7
  have R63 : Hid (((w2.alloc (.cells #[.int .i64 1, .int .i64 1, .string ⟨#[]⟩, .slice none 0 0, .int .i64 0] 46)).alloc (.cells #[.int .i64 1, .string (strN s), .slice (some ⟨w2.heap.size, 0, none⟩) 1 1, .slice none 0 0, .slice none 0 0, .int .i64 0] 48)).rangeAt b6 0 [.int .i64 1, .int .i64 1, .string ⟨#[]⟩, .slice none 0 0, .int .i64 0]) := range_belowz (range_belowz R6.out (below_alloc w2 _)) (below_alloc _ _)
  have B3 : Hid (Below w.heap.size w ((w2.alloc (.cells #[.int .i64 1, .int .i64 1, .string ⟨#[]⟩, .slice none 0 0, .int .i64 0] 46)).alloc (.cells #[.int .i64 1, .string (strN s), .slice (some ⟨w2.heap.size, 0, none⟩) 1 1, .slice none 0 0, .slice none 0 0, .int .i64 0] 48))) := bthen5 (bthen5 B2.out (below_alloc w2 _) B2.out.size) (below_alloc _ _) (Nat.le_trans B2.out.size (below_alloc w2 _).size)
  clear K7 V1 R6 B2 hz2
  generalize (w2.alloc (.cells #[.int .i64 1, .int .i64 1, .string ⟨#[]⟩, .slice none 0 0, .int .i64 0] 46)).alloc (.cells #[.int .i64 1, .string (strN s), .slice (some ⟨w2.heap.size, 0, none⟩) 1 1, .slice none 0 0, .slice none 0 0, .int .i64 0] 48) = w3 at *
  generalize w2.heap.size + 1 = b7 at *
  generalize w2.heap.size = e7 at *
  have z0 : (w3.alloc (.cells #[.int .i64 2, .int .i64 0, .string ⟨#[]⟩, .slice none 0 0, .int .i64 0] 46)).cell? ⟨b7, 0, none⟩ = some (.int .i64 1) := (Kept.at (HK7.out.alloc _)).1
  have z1 : (w3.alloc (.cells #[.int .i64 2, .int .i64 0, .string ⟨#[]⟩, .slice none 0 0, .int .i64 0] 46)).cell? ⟨b7, 1, none⟩ = some (.string (strN s)) := (Kept.at (HK7.out.alloc _)).2.1
  have z2 : (w3.alloc (.cells #[.int .i64 2, .int .i64 0, .string ⟨#[]⟩, .slice none 0 0, .int .i64 0] 46)).cell? ⟨b7, 2, none⟩ = some (.slice (some ⟨e7, 0, none⟩) 1 1) := (Kept.at (HK7.out.alloc _)).2.2.1
  have z3 : (w3.alloc (.cells #[.int .i64 2, .int .i64 0, .string ⟨#[]⟩, .slice none 0 0, .int .i64 0] 46)).cell? ⟨b7, 3, none⟩ = some (.slice none 0 0) := (Kept.at (HK7.out.alloc _)).2.2.2.1
  have z4 : (w3.alloc (.cells #[.int .i64 2, .int .i64 0, .string ⟨#[]⟩, .slice none 0 0, .int .i64 0] 46)).cell? ⟨b7, 4, none⟩ = some (.slice none 0 0) := (Kept.at (HK7.out.alloc _)).2.2.2.2.1
  have z5 : (w3.alloc (.cells #[.int .i64 2, .int .i64 0, .string ⟨#[]⟩, .slice none 0 0, .int .i64 0] 46)).cell? ⟨b7, 5, none⟩ = some (.int .i64 0) := (Kept.at (HK7.out.alloc _)).2.2.2.2.2
  go_upto_region 5 with fail
  clear z0 z1 z2 z3 z4 z5
  have V2 : XesC (w3.alloc (.cells #[.int .i64 2, .int .i64 0, .string ⟨#[]⟩, .slice none 0 0, .int .i64 0] 46)) (Lo (w3.alloc (.cells #[.int .i64 2, .int .i64 0, .string ⟨#[]⟩, .slice none 0 0, .int .i64 0] 46)).heap.size) [yesX] (.slice (some ⟨w3.heap.size, 0, none⟩) 1 1) := xes_one (e := yesX) (range_newz w3 [.int .i64 2, .int .i64 0, .string ⟨#[]⟩, .slice none 0 0, .int .i64 0] 46) (by simp) rfl (by intro b hb; cases hb)
  have hz3 : (w3.alloc (.cells #[.int .i64 2, .int .i64 0, .string ⟨#[]⟩, .slice none 0 0, .int .i64 0] 46)).heap.size = w3.heap.size + 1 := by simp
  have hz4 : ((w3.alloc (.cells #[.int .i64 2, .int .i64 0, .string ⟨#[]⟩, .slice none 0 0, .int .i64 0] 46)).alloc (.cells #[.int .i64 1, .string (strN s), .slice (some ⟨e7, 0, none⟩) 1 1, .slice none 0 0, .slice none 0 0, .int .i64 0] 48)).heap.size = w3.heap.size + 2 := by simp
  have V3 := xss_new (w := ((w3.alloc (.cells #[.int .i64 2, .int .i64 0, .string ⟨#[]⟩, .slice none 0 0, .int .i64 0] 46)).alloc (.cells #[.int .i64 1, .string (strN s), .slice (some ⟨e7, 0, none⟩) 1 1, .slice none 0 0, .slice none 0 0, .int .i64 0] 48))) (g := (w3.alloc (.cells #[.int .i64 2, .int .i64 0, .string ⟨#[]⟩, .slice none 0 0, .int .i64 0] 46)).heap.size) (l := [letX s]) (ks := [⟨.slice (some ⟨e7, 0, none⟩) 1 1, .slice none 0 0, .slice none 0 0⟩]) rfl (range_newz (w3.alloc (.cells #[.int .i64 2, .int .i64 0, .string ⟨#[]⟩, .slice none 0 0, .int .i64 0] 46)) [.int .i64 1, .string (strN s), .slice (some ⟨e7, 0, none⟩) 1 1, .slice none 0 0, .slice none 0 0, .int .i64 0] 48) (by simp) (by simp) (all1 ((HK7.out.alloc _).alloc _).val)
  have V2b := V2.allocz (.cells #[.int .i64 1, .string (strN s), .slice (some ⟨e7, 0, none⟩) 1 1, .slice none 0 0, .slice none 0 0, .int .i64 0] 48)
  rw [hz3] at V3
  have HV2 : Hid (XesC ((w3.alloc (.cells #[.int .i64 2, .int .i64 0, .string ⟨#[]⟩, .slice none 0 0, .int .i64 0] 46)).alloc (.cells #[.int .i64 1, .string (strN s), .slice (some ⟨e7, 0, none⟩) 1 1, .slice none 0 0, .slice none 0 0, .int .i64 0] 48)) (Lo ((w3.alloc (.cells #[.int .i64 2, .int .i64 0, .string ⟨#[]⟩, .slice none 0 0, .int .i64 0] 46)).alloc (.cells #[.int .i64 1, .string (strN s), .slice (some ⟨e7, 0, none⟩) 1 1, .slice none 0 0, .slice none 0 0, .int .i64 0] 48)).heap.size) [yesX] (.slice (some ⟨w3.heap.size, 0, none⟩) 1 1)) := V2b
  have HV3 : Hid (XssC ((w3.alloc (.cells #[.int .i64 2, .int .i64 0, .string ⟨#[]⟩, .slice none 0 0, .int .i64 0] 46)).alloc (.cells #[.int .i64 1, .string (strN s), .slice (some ⟨e7, 0, none⟩) 1 1, .slice none 0 0, .slice none 0 0, .int .i64 0] 48)) (Lo ((w3.alloc (.cells #[.int .i64 2, .int .i64 0, .string ⟨#[]⟩, .slice none 0 0, .int .i64 0] 46)).alloc (.cells #[.int .i64 1, .string (strN s), .slice (some ⟨e7, 0, none⟩) 1 1, .slice none 0 0, .slice none 0 0, .int .i64 0] 48)).heap.size) [letX s] (.slice (some ⟨w3.heap.size + 1, 0, none⟩) 1 1)) := V3
  have HKq : Hid (Kept ((w3.alloc (.cells #[.int .i64 2, .int .i64 0, .string ⟨#[]⟩, .slice none 0 0, .int .i64 0] 46)).alloc (.cells #[.int .i64 1, .string (strN s), .slice (some ⟨e7, 0, none⟩) 1 1, .slice none 0 0, .slice none 0 0, .int .i64 0] 48)) b7 (letX s) ⟨.slice (some ⟨e7, 0, none⟩) 1 1, .slice none 0 0, .slice none 0 0⟩) := (HK7.out.alloc _).alloc _
  have R6q : Hid (((w3.alloc (.cells #[.int .i64 2, .int .i64 0, .string ⟨#[]⟩, .slice none 0 0, .int .i64 0] 46)).alloc (.cells #[.int .i64 1, .string (strN s), .slice (some ⟨e7, 0, none⟩) 1 1, .slice none 0 0, .slice none 0 0, .int .i64 0] 48)).rangeAt b6 0 [.int .i64 1, .int .i64 1, .string ⟨#[]⟩, .slice none 0 0, .int .i64 0]) := range_belowz (range_belowz R63.out (below_alloc w3 _)) (below_alloc _ _)
  have Bq : Hid (Below w.heap.size w ((w3.alloc (.cells #[.int .i64 2, .int .i64 0, .string ⟨#[]⟩, .slice none 0 0, .int .i64 0] 46)).alloc (.cells #[.int .i64 1, .string (strN s), .slice (some ⟨e7, 0, none⟩) 1 1, .slice none 0 0, .slice none 0 0, .int .i64 0] 48))) := B3.out.trans (((below_alloc w3 _).trans ((below_alloc _ _).mono (by simp))).mono B3.out.size)
  have HZq : Hid (((w3.alloc (.cells #[.int .i64 2, .int .i64 0, .string ⟨#[]⟩, .slice none 0 0, .int .i64 0] 46)).alloc (.cells #[.int .i64 1, .string (strN s), .slice (some ⟨e7, 0, none⟩) 1 1, .slice none 0 0, .slice none 0 0, .int .i64 0] 48)).heap.size = w3.heap.size + 2) := hz4
  clear V2 V2b V3 HK7 R63 B3 hz3 hz4
  generalize (w3.alloc (.cells #[.int .i64 2, .int .i64 0, .string ⟨#[]⟩, .slice none 0 0, .int .i64 0] 46)).alloc (.cells #[.int .i64 1, .string (strN s), .slice (some ⟨e7, 0, none⟩) 1 1, .slice none 0 0, .slice none 0 0, .int .i64 0] 48) = wq at *
  generalize w3.heap.size + 2 = b8 at *
  generalize w3.heap.size + 1 = f8 at *
  generalize w3.heap.size = e8 at *
  have hq := HZq.out
  clear HZq
  subst hq
  have KI : Hid (XsV wq (Lo wq.heap.size) (ifX [letX s]) (.agg (xsC (ifX [letX s]) (.slice (some ⟨e8, 0, none⟩) 1 1) (.slice (some ⟨f8, 0, none⟩) 1 1) (.slice none 0 0)).toArray)) := xsv_mk (by intro b hb; cases hb) HV2.out HV3.out rfl
  have RI : Hid ((wq.alloc (.cells #[.int .i64 3, .string ⟨#[]⟩, .slice (some ⟨e8, 0, none⟩) 1 1, .slice (some ⟨f8, 0, none⟩) 1 1, .slice none 0 0, .int .i64 0] 48)).rangeAt wq.heap.size 0 [.int .i64 3, .string ⟨#[]⟩, .slice (some ⟨e8, 0, none⟩) 1 1, .slice (some ⟨f8, 0, none⟩) 1 1, .slice none 0 0, .int .i64 0]) := range_newz wq [.int .i64 3, .string ⟨#[]⟩, .slice (some ⟨e8, 0, none⟩) 1 1, .slice (some ⟨f8, 0, none⟩) 1 1, .slice none 0 0, .int .i64 0] 48
  have TI : Hid ((wq.alloc (.cells #[.int .i64 3, .string ⟨#[]⟩, .slice (some ⟨e8, 0, none⟩) 1 1, .slice (some ⟨f8, 0, none⟩) 1 1, .slice none 0 0, .int .i64 0] 48)).there wq.heap.size 0 6) := there_cells (cs := [.int .i64 3, .string ⟨#[]⟩, .slice (some ⟨e8, 0, none⟩) 1 1, .slice (some ⟨f8, 0, none⟩) 1 1, .slice none 0 0, .int .i64 0]) (heap_alloc_new wq _) rfl
  have BI : Hid (Below wq.heap.size wq (wq.alloc (.cells #[.int .i64 3, .string ⟨#[]⟩, .slice (some ⟨e8, 0, none⟩) 1 1, .slice (some ⟨f8, 0, none⟩) 1 1, .slice none 0 0, .int .i64 0] 48))) := below_alloc _ _
  have SI : Hid (wq.heap.size < (wq.alloc (.cells #[.int .i64 3, .string ⟨#[]⟩, .slice (some ⟨e8, 0, none⟩) 1 1, .slice (some ⟨f8, 0, none⟩) 1 1, .slice none 0 0, .int .i64 0] 48)).heap.size) := by show _ < _; simp
  generalize wq.alloc (.cells #[.int .i64 3, .string ⟨#[]⟩, .slice (some ⟨e8, 0, none⟩) 1 1, .slice (some ⟨f8, 0, none⟩) 1 1, .slice none 0 0, .int .i64 0] 48) = wu at *
  go_upto_region 6 with fail
  have x0 : wu.cell? ⟨wq.heap.size, 0, none⟩ = some (.int .i64 3) := RI.out 0 _ rfl
  have x1 : wu.cell? ⟨wq.heap.size, 1, none⟩ = some (.string ⟨#[]⟩) := RI.out 1 _ rfl
  have x2 : wu.cell? ⟨wq.heap.size, 2, none⟩ = some (.slice (some ⟨e8, 0, none⟩) 1 1) := RI.out 2 _ rfl
  have x3 : wu.cell? ⟨wq.heap.size, 3, none⟩ = some (.slice (some ⟨f8, 0, none⟩) 1 1) := RI.out 3 _ rfl
  have x4 : wu.cell? ⟨wq.heap.size, 4, none⟩ = some (.slice none 0 0) := RI.out 4 _ rfl
  have x5 : wu.cell? ⟨wq.heap.size, 5, none⟩ = some (.int .i64 0) := RI.out 5 _ rfl
  go_upto_region 7 with fail
  clear x0 x1 x2 x3 x4 x5
  have R9 : Hid ((wu.alloc (.cells #[.int .i64 3, .string ⟨#[]⟩, .slice (some ⟨e8, 0, none⟩) 1 1, .slice (some ⟨f8, 0, none⟩) 1 1, .slice none 0 0, .int .i64 0] 48)).rangeAt wu.heap.size 0 [.int .i64 3, .string ⟨#[]⟩, .slice (some ⟨e8, 0, none⟩) 1 1, .slice (some ⟨f8, 0, none⟩) 1 1, .slice none 0 0, .int .i64 0]) := range_newz wu [.int .i64 3, .string ⟨#[]⟩, .slice (some ⟨e8, 0, none⟩) 1 1, .slice (some ⟨f8, 0, none⟩) 1 1, .slice none 0 0, .int .i64 0] 48
  have RI5 : Hid ((wu.alloc (.cells #[.int .i64 3, .string ⟨#[]⟩, .slice (some ⟨e8, 0, none⟩) 1 1, .slice (some ⟨f8, 0, none⟩) 1 1, .slice none 0 0, .int .i64 0] 48)).rangeAt wq.heap.size 0 [.int .i64 3, .string ⟨#[]⟩, .slice (some ⟨e8, 0, none⟩) 1 1, .slice (some ⟨f8, 0, none⟩) 1 1, .slice none 0 0, .int .i64 0]) := range_belowz RI.out (below_alloc wu _)
  have TI5 : Hid ((wu.alloc (.cells #[.int .i64 3, .string ⟨#[]⟩, .slice (some ⟨e8, 0, none⟩) 1 1, .slice (some ⟨f8, 0, none⟩) 1 1, .slice none 0 0, .int .i64 0] 48)).there wq.heap.size 0 6) := there_below5 TI.out (below_alloc wu _) SI.out
  have BI5 : Hid (Below wq.heap.size wq (wu.alloc (.cells #[.int .i64 3, .string ⟨#[]⟩, .slice (some ⟨e8, 0, none⟩) 1 1, .slice (some ⟨f8, 0, none⟩) 1 1, .slice none 0 0, .int .i64 0] 48))) := BI.out.trans ((below_alloc _ _).mono BI.out.size)
  have SI5 : Hid (wq.heap.size < (wu.alloc (.cells #[.int .i64 3, .string ⟨#[]⟩, .slice (some ⟨e8, 0, none⟩) 1 1, .slice (some ⟨f8, 0, none⟩) 1 1, .slice none 0 0, .int .i64 0] 48)).heap.size) := by have := SI.out; show _ < _; simp; omega
  have HK75 : Hid (Kept (wu.alloc (.cells #[.int .i64 3, .string ⟨#[]⟩, .slice (some ⟨e8, 0, none⟩) 1 1, .slice (some ⟨f8, 0, none⟩) 1 1, .slice none 0 0, .int .i64 0] 48)) b7 (letX s) ⟨.slice (some ⟨e7, 0, none⟩) 1 1, .slice none 0 0, .slice none 0 0⟩) := HKq.out.below BI5.out
  clear RI BI SI TI
  generalize wu.alloc (.cells #[.int .i64 3, .string ⟨#[]⟩, .slice (some ⟨e8, 0, none⟩) 1 1, .slice (some ⟨f8, 0, none⟩) 1 1, .slice none 0 0, .int .i64 0] 48) = wv at *
  generalize wu.heap.size = b9 at *
  have z0 : wv.cell? ⟨b7, 0, none⟩ = some (.int .i64 1) := (Kept.at (HK75.out)).1
  have z1 : wv.cell? ⟨b7, 1, none⟩ = some (.string (strN s)) := (Kept.at (HK75.out)).2.1
  have z2 : wv.cell? ⟨b7, 2, none⟩ = some (.slice (some ⟨e7, 0, none⟩) 1 1) := (Kept.at (HK75.out)).2.2.1
  have z3 : wv.cell? ⟨b7, 3, none⟩ = some (.slice none 0 0) := (Kept.at (HK75.out)).2.2.2.1
  have z4 : wv.cell? ⟨b7, 4, none⟩ = some (.slice none 0 0) := (Kept.at (HK75.out)).2.2.2.2.1
  have z5 : wv.cell? ⟨b7, 5, none⟩ = some (.int .i64 0) := (Kept.at (HK75.out)).2.2.2.2.2
  have x0 : wv.cell? ⟨b9, 0, none⟩ = some (.int .i64 3) := R9.out 0 _ rfl
  have x1 : wv.cell? ⟨b9, 1, none⟩ = some (.string ⟨#[]⟩) := R9.out 1 _ rfl
  have x2 : wv.cell? ⟨b9, 2, none⟩ = some (.slice (some ⟨e8, 0, none⟩) 1 1) := R9.out 2 _ rfl
  have x3 : wv.cell? ⟨b9, 3, none⟩ = some (.slice (some ⟨f8, 0, none⟩) 1 1) := R9.out 3 _ rfl
  have x4 : wv.cell? ⟨b9, 4, none⟩ = some (.slice none 0 0) := R9.out 4 _ rfl
  have x5 : wv.cell? ⟨b9, 5, none⟩ = some (.int .i64 0) := R9.out 5 _ rfl
  have y3 : (wv.alloc (.cells #[.int .i64 1, .string (strN s), .slice (some ⟨e7, 0, none⟩) 1 1, .slice none 0 0, .slice none 0 0, .int .i64 0, .int .i64 3, .string ⟨#[]⟩, .slice (some ⟨e8, 0, none⟩) 1 1, .slice (some ⟨f8, 0, none⟩) 1 1, .slice none 0 0, .int .i64 0] 48)).cell? ⟨wq.heap.size, 3, none⟩ = some (.slice (some ⟨f8, 0, none⟩) 1 1) := cell_below (RI5.out 3 _ rfl) (below_alloc wv _)
  have yt := there_below5 TI5.out (below_alloc wv (.cells #[.int .i64 1, .string (strN s), .slice (some ⟨e7, 0, none⟩) 1 1, .slice none 0 0, .slice none 0 0, .int .i64 0, .int .i64 3, .string ⟨#[]⟩, .slice (some ⟨e8, 0, none⟩) 1 1, .slice (some ⟨f8, 0, none⟩) 1 1, .slice none 0 0, .int .i64 0] 48)) SI5.out
  have yf : (wv.alloc (.cells #[.int .i64 1, .string (strN s), .slice (some ⟨e7, 0, none⟩) 1 1, .slice none 0 0, .slice none 0 0, .int .i64 0, .int .i64 3, .string ⟨#[]⟩, .slice (some ⟨e8, 0, none⟩) 1 1, .slice (some ⟨f8, 0, none⟩) 1 1, .slice none 0 0, .int .i64 0] 48)).frozen? ⟨wq.heap.size, 3, none⟩ = false := by have := (yt 3 (by omega)).2; simpa using this
  clear yt
  go_upto_region 8 with fail
  clear y3 yf
  clear z0 z1 z2 z3 z4 z5
  clear x0 x1 x2 x3 x4 x5
  have BQ : Below wq.heap.size wq ((wv.alloc (.cells #[.int .i64 1, .string (strN s), .slice (some ⟨e7, 0, none⟩) 1 1, .slice none 0 0, .slice none 0 0, .int .i64 0, .int .i64 3, .string ⟨#[]⟩, .slice (some ⟨e8, 0, none⟩) 1 1, .slice (some ⟨f8, 0, none⟩) 1 1, .slice none 0 0, .int .i64 0] 48)).setCell ⟨wq.heap.size, 3, none⟩ (.slice (some ⟨wv.heap.size, 0, none⟩) 2 2)) := (BI5.out.trans ((below_alloc _ _).mono BI5.out.size)).setCell (Nat.le_refl _) _
  have HK74 : Hid (Kept ((wv.alloc (.cells #[.int .i64 1, .string (strN s), .slice (some ⟨e7, 0, none⟩) 1 1, .slice none 0 0, .slice none 0 0, .int .i64 0, .int .i64 3, .string ⟨#[]⟩, .slice (some ⟨e8, 0, none⟩) 1 1, .slice (some ⟨f8, 0, none⟩) 1 1, .slice none 0 0, .int .i64 0] 48)).setCell ⟨wq.heap.size, 3, none⟩ (.slice (some ⟨wv.heap.size, 0, none⟩) 2 2)) b7 (letX s) ⟨.slice (some ⟨e7, 0, none⟩) 1 1, .slice none 0 0, .slice none 0 0⟩) := HKq.out.below BQ
  have R64 : Hid (((wv.alloc (.cells #[.int .i64 1, .string (strN s), .slice (some ⟨e7, 0, none⟩) 1 1, .slice none 0 0, .slice none 0 0, .int .i64 0, .int .i64 3, .string ⟨#[]⟩, .slice (some ⟨e8, 0, none⟩) 1 1, .slice (some ⟨f8, 0, none⟩) 1 1, .slice none 0 0, .int .i64 0] 48)).setCell ⟨wq.heap.size, 3, none⟩ (.slice (some ⟨wv.heap.size, 0, none⟩) 2 2)).rangeAt b6 0 [.int .i64 1, .int .i64 1, .string ⟨#[]⟩, .slice none 0 0, .int .i64 0]) := range_belowz R6q.out BQ
  have B4 : Hid (Below w.heap.size w ((wv.alloc (.cells #[.int .i64 1, .string (strN s), .slice (some ⟨e7, 0, none⟩) 1 1, .slice none 0 0, .slice none 0 0, .int .i64 0, .int .i64 3, .string ⟨#[]⟩, .slice (some ⟨e8, 0, none⟩) 1 1, .slice (some ⟨f8, 0, none⟩) 1 1, .slice none 0 0, .int .i64 0] 48)).setCell ⟨wq.heap.size, 3, none⟩ (.slice (some ⟨wv.heap.size, 0, none⟩) 2 2))) := Bq.out.trans (BQ.mono Bq.out.size)
  have RR : ((wv.alloc (.cells #[.int .i64 1, .string (strN s), .slice (some ⟨e7, 0, none⟩) 1 1, .slice none 0 0, .slice none 0 0, .int .i64 0, .int .i64 3, .string ⟨#[]⟩, .slice (some ⟨e8, 0, none⟩) 1 1, .slice (some ⟨f8, 0, none⟩) 1 1, .slice none 0 0, .int .i64 0] 48)).setCell ⟨wq.heap.size, 3, none⟩ (.slice (some ⟨wv.heap.size, 0, none⟩) 2 2)).rangeAt wv.heap.size 0 (xssC [letX s, ifX [letX s]] [⟨.slice (some ⟨e7, 0, none⟩) 1 1, .slice none 0 0, .slice none 0 0⟩, ⟨.slice (some ⟨e8, 0, none⟩) 1 1, .slice (some ⟨f8, 0, none⟩) 1 1, .slice none 0 0⟩]) := by
    have r := range_newz wv (xssC [letX s, ifX [letX s]] [⟨.slice (some ⟨e7, 0, none⟩) 1 1, .slice none 0 0, .slice none 0 0⟩, ⟨.slice (some ⟨e8, 0, none⟩) 1 1, .slice (some ⟨f8, 0, none⟩) 1 1, .slice none 0 0⟩]) 48
    intro j u hu
    rw [World.cell?_setCell_other _ _ _ _ (by simp; have := SI5.out; omega)]
    exact r j u hu
  have hzs : wv.heap.size < ((wv.alloc (.cells #[.int .i64 1, .string (strN s), .slice (some ⟨e7, 0, none⟩) 1 1, .slice none 0 0, .slice none 0 0, .int .i64 0, .int .i64 3, .string ⟨#[]⟩, .slice (some ⟨e8, 0, none⟩) 1 1, .slice (some ⟨f8, 0, none⟩) 1 1, .slice none 0 0, .int .i64 0] 48)).setCell ⟨wq.heap.size, 3, none⟩ (.slice (some ⟨wv.heap.size, 0, none⟩) 2 2)).heap.size := by simp
  have X := xss_new (w := ((wv.alloc (.cells #[.int .i64 1, .string (strN s), .slice (some ⟨e7, 0, none⟩) 1 1, .slice none 0 0, .slice none 0 0, .int .i64 0, .int .i64 3, .string ⟨#[]⟩, .slice (some ⟨e8, 0, none⟩) 1 1, .slice (some ⟨f8, 0, none⟩) 1 1, .slice none 0 0, .int .i64 0] 48)).setCell ⟨wq.heap.size, 3, none⟩ (.slice (some ⟨wv.heap.size, 0, none⟩) 2 2))) (g := wv.heap.size) (l := [letX s, ifX [letX s]]) (ks := [⟨.slice (some ⟨e7, 0, none⟩) 1 1, .slice none 0 0, .slice none 0 0⟩, ⟨.slice (some ⟨e8, 0, none⟩) 1 1, .slice (some ⟨f8, 0, none⟩) 1 1, .slice none 0 0⟩]) rfl RR hzs (by simp) (all2 HK74.out.val (KI.out.belowz BQ))
  have XE : XesC ((wv.alloc (.cells #[.int .i64 1, .string (strN s), .slice (some ⟨e7, 0, none⟩) 1 1, .slice none 0 0, .slice none 0 0, .int .i64 0, .int .i64 3, .string ⟨#[]⟩, .slice (some ⟨e8, 0, none⟩) 1 1, .slice (some ⟨f8, 0, none⟩) 1 1, .slice none 0 0, .int .i64 0] 48)).setCell ⟨wq.heap.size, 3, none⟩ (.slice (some ⟨wv.heap.size, 0, none⟩) 2 2)) (Lo ((wv.alloc (.cells #[.int .i64 1, .string (strN s), .slice (some ⟨e7, 0, none⟩) 1 1, .slice none 0 0, .slice none 0 0, .int .i64 0, .int .i64 3, .string ⟨#[]⟩, .slice (some ⟨e8, 0, none⟩) 1 1, .slice (some ⟨f8, 0, none⟩) 1 1, .slice none 0 0, .int .i64 0] 48)).setCell ⟨wq.heap.size, 3, none⟩ (.slice (some ⟨wv.heap.size, 0, none⟩) 2 2)).heap.size) [yesX] (.slice (some ⟨e8, 0, none⟩) 1 1) := (HV2.out.same (same_below BQ (Nat.le_refl _))).morez fun k hk => Nat.lt_of_lt_of_le hk BQ.size
  have RR8 : ((wv.alloc (.cells #[.int .i64 1, .string (strN s), .slice (some ⟨e7, 0, none⟩) 1 1, .slice none 0 0, .slice none 0 0, .int .i64 0, .int .i64 3, .string ⟨#[]⟩, .slice (some ⟨e8, 0, none⟩) 1 1, .slice (some ⟨f8, 0, none⟩) 1 1, .slice none 0 0, .int .i64 0] 48)).setCell ⟨wq.heap.size, 3, none⟩ (.slice (some ⟨wv.heap.size, 0, none⟩) 2 2)).rangeAt wq.heap.size 0 [.int .i64 3, .string ⟨#[]⟩, .slice (some ⟨e8, 0, none⟩) 1 1, .slice (some ⟨wv.heap.size, 0, none⟩) 2 2, .slice none 0 0, .int .i64 0] := by
    have r := range_belowz RI5.out (below_alloc wv (.cells #[.int .i64 1, .string (strN s), .slice (some ⟨e7, 0, none⟩) 1 1, .slice none 0 0, .slice none 0 0, .int .i64 0, .int .i64 3, .string ⟨#[]⟩, .slice (some ⟨e8, 0, none⟩) 1 1, .slice (some ⟨f8, 0, none⟩) 1 1, .slice none 0 0, .int .i64 0] 48))
    intro j u hu
    match j, hu with
    | 0, hu => rw [World.cell?_setCell_other _ _ _ _ (by simp)]; exact r 0 u hu
    | 1, hu => rw [World.cell?_setCell_other _ _ _ _ (by simp)]; exact r 1 u hu
    | 2, hu => rw [World.cell?_setCell_other _ _ _ _ (by simp)]; exact r 2 u hu
    | 3, hu => simp at hu; subst hu; exact World.cell?_setCell_same _ _ _ (r 3 _ rfl)
    | 4, hu => rw [World.cell?_setCell_other _ _ _ _ (by simp)]; exact r 4 u hu
    | 5, hu => rw [World.cell?_setCell_other _ _ _ _ (by simp)]; exact r 5 u hu
  have HK8 : Hid (Kept ((wv.alloc (.cells #[.int .i64 1, .string (strN s), .slice (some ⟨e7, 0, none⟩) 1 1, .slice none 0 0, .slice none 0 0, .int .i64 0, .int .i64 3, .string ⟨#[]⟩, .slice (some ⟨e8, 0, none⟩) 1 1, .slice (some ⟨f8, 0, none⟩) 1 1, .slice none 0 0, .int .i64 0] 48)).setCell ⟨wq.heap.size, 3, none⟩ (.slice (some ⟨wv.heap.size, 0, none⟩) 2 2)) wq.heap.size (ifX [letX s, ifX [letX s]]) ⟨.slice (some ⟨e8, 0, none⟩) 1 1, .slice (some ⟨wv.heap.size, 0, none⟩) 2 2, .slice none 0 0⟩) := ⟨Nat.lt_trans SI5.out hzs, RR8, xsv_mk (x := ifX [letX s, ifX [letX s]]) (by intro b hb; cases hb) XE X rfl⟩
  clear BQ HKq R6q Bq RR X XE RR8 RI5 R9 TI5 BI5 KI HV2 HV3 HK75 hzs SI5
  generalize (wv.alloc (.cells #[.int .i64 1, .string (strN s), .slice (some ⟨e7, 0, none⟩) 1 1, .slice none 0 0, .slice none 0 0, .int .i64 0, .int .i64 3, .string ⟨#[]⟩, .slice (some ⟨e8, 0, none⟩) 1 1, .slice (some ⟨f8, 0, none⟩) 1 1, .slice none 0 0, .int .i64 0] 48)).setCell ⟨wq.heap.size, 3, none⟩ (.slice (some ⟨wv.heap.size, 0, none⟩) 2 2) = w4 at *
  generalize wv.heap.size = g8 at *
  generalize wq.heap.size = b8 at *
  have x0 : w4.cell? ⟨b6, 0, none⟩ = some (.int .i64 1) := R64.out 0 _ rfl
  have x1 : w4.cell? ⟨b6, 1, none⟩ = some (.int .i64 1) := R64.out 1 _ rfl
  have x2 : w4.cell? ⟨b6, 2, none⟩ = some (.string ⟨#[]⟩) := R64.out 2 _ rfl
  have x3 : w4.cell? ⟨b6, 3, none⟩ = some (.slice none 0 0) := R64.out 3 _ rfl
  have x4 : w4.cell? ⟨b6, 4, none⟩ = some (.int .i64 0) := R64.out 4 _ rfl
  go_upto_region 9 with fail
  clear x0 x1 x2 x3 x4
  have V1 : XesC (w4.alloc (.cells #[.int .i64 1, .int .i64 1, .string ⟨#[]⟩, .slice none 0 0, .int .i64 0] 46)) (Lo (w4.alloc (.cells #[.int .i64 1, .int .i64 1, .string ⟨#[]⟩, .slice none 0 0, .int .i64 0] 46)).heap.size) [oneX] (.slice (some ⟨w4.heap.size, 0, none⟩) 1 1) := xes_one (e := oneX) (range_newz w4 [.int .i64 1, .int .i64 1, .string ⟨#[]⟩, .slice none 0 0, .int .i64 0] 46) (by simp) rfl (by intro b hb; cases hb)
  have K10 := Kept.new (w := (w4.alloc (.cells #[.int .i64 1, .int .i64 1, .string ⟨#[]⟩, .slice none 0 0, .int .i64 0] 46))) (x := setX s) (k := ⟨.slice (some ⟨w4.heap.size, 0, none⟩) 1 1, .slice none 0 0, .slice none 0 0⟩) (xsv_mk hs V1 (XssC.none _ _) rfl) 48
  have hz2 : (w4.alloc (.cells #[.int .i64 1, .int .i64 1, .string ⟨#[]⟩, .slice none 0 0, .int .i64 0] 46)).heap.size = w4.heap.size + 1 := by simp
  rw [hz2] at K10
  have HK105 : Hid (Kept ((w4.alloc (.cells #[.int .i64 1, .int .i64 1, .string ⟨#[]⟩, .slice none 0 0, .int .i64 0] 46)).alloc (.cells #[.int .i64 2, .string (strN s), .slice (some ⟨w4.heap.size, 0, none⟩) 1 1, .slice none 0 0, .slice none 0 0, .int .i64 9] 48)) (w4.heap.size + 1) (setX s) ⟨.slice (some ⟨w4.heap.size, 0, none⟩) 1 1, .slice none 0 0, .slice none 0 0⟩) := K10
  have HK75 : Hid (Kept ((w4.alloc (.cells #[.int .i64 1, .int .i64 1, .string ⟨#[]⟩, .slice none 0 0, .int .i64 0] 46)).alloc (.cells #[.int .i64 2, .string (strN s), .slice (some ⟨w4.heap.size, 0, none⟩) 1 1, .slice none 0 0, .slice none 0 0, .int .i64 9] 48)) b7 (letX s) ⟨.slice (some ⟨e7, 0, none⟩) 1 1, .slice none 0 0, .slice none 0 0⟩) := (HK74.out.alloc _).alloc _
  have HK85 : Hid (Kept ((w4.alloc (.cells #[.int .i64 1, .int .i64 1, .string ⟨#[]⟩, .slice none 0 0, .int .i64 0] 46)).alloc (.cells #[.int .i64 2, .string (strN s), .slice (some ⟨w4.heap.size, 0, none⟩) 1 1, .slice none 0 0, .slice none 0 0, .int .i64 9] 48)) b8 (ifX [letX s, ifX [letX s]]) ⟨.slice (some ⟨e8, 0, none⟩) 1 1, .slice (some ⟨g8, 0, none⟩) 2 2, .slice none 0 0⟩) := (HK8.out.alloc _).alloc _
  have B5 : Hid (Below w.heap.size w ((w4.alloc (.cells #[.int .i64 1, .int .i64 1, .string ⟨#[]⟩, .slice none 0 0, .int .i64 0] 46)).alloc (.cells #[.int .i64 2, .string (strN s), .slice (some ⟨w4.heap.size, 0, none⟩) 1 1, .slice none 0 0, .slice none 0 0, .int .i64 9] 48))) := B4.out.trans (((below_alloc w4 _).trans ((below_alloc _ _).mono (by simp))).mono B4.out.size)
  clear K10 V1 R64 B4 hz2 HK74 HK8
  generalize (w4.alloc (.cells #[.int .i64 1, .int .i64 1, .string ⟨#[]⟩, .slice none 0 0, .int .i64 0] 46)).alloc (.cells #[.int .i64 2, .string (strN s), .slice (some ⟨w4.heap.size, 0, none⟩) 1 1, .slice none 0 0, .slice none 0 0, .int .i64 9] 48) = w5 at *
  generalize w4.heap.size + 1 = b10 at *
  generalize w4.heap.size = e10 at *
  have zI0 : w5.cell? ⟨b8, 0, none⟩ = some (.int .i64 3) := (Kept.at (HK85.out)).1
  have zI1 : w5.cell? ⟨b8, 1, none⟩ = some (.string ⟨#[]⟩) := (Kept.at (HK85.out)).2.1
  have zI2 : w5.cell? ⟨b8, 2, none⟩ = some (.slice (some ⟨e8, 0, none⟩) 1 1) := (Kept.at (HK85.out)).2.2.1
  have zI3 : w5.cell? ⟨b8, 3, none⟩ = some (.slice (some ⟨g8, 0, none⟩) 2 2) := (Kept.at (HK85.out)).2.2.2.1
  have zI4 : w5.cell? ⟨b8, 4, none⟩ = some (.slice none 0 0) := (Kept.at (HK85.out)).2.2.2.2.1
  have zI5 : w5.cell? ⟨b8, 5, none⟩ = some (.int .i64 0) := (Kept.at (HK85.out)).2.2.2.2.2
  have X := prog_new (w := (w5.alloc (.cells #[.int .i64 3, .string ⟨#[]⟩, .slice (some ⟨e8, 0, none⟩) 1 1, .slice (some ⟨g8, 0, none⟩) 2 2, .slice none 0 0, .int .i64 0, .int .i64 3, .string ⟨#[]⟩, .slice (some ⟨e8, 0, none⟩) 1 1, .slice (some ⟨g8, 0, none⟩) 2 2, .slice none 0 0, .int .i64 0] 48))) (g := w5.heap.size) (l := [ifX [letX s, ifX [letX s]], ifX [letX s, ifX [letX s]]]) (ks := [⟨.slice (some ⟨e8, 0, none⟩) 1 1, .slice (some ⟨g8, 0, none⟩) 2 2, .slice none 0 0⟩, ⟨.slice (some ⟨e8, 0, none⟩) 1 1, .slice (some ⟨g8, 0, none⟩) 2 2, .slice none 0 0⟩]) rfl (range_newz w5 [.int .i64 3, .string ⟨#[]⟩, .slice (some ⟨e8, 0, none⟩) 1 1, .slice (some ⟨g8, 0, none⟩) 2 2, .slice none 0 0, .int .i64 0, .int .i64 3, .string ⟨#[]⟩, .slice (some ⟨e8, 0, none⟩) 1 1, .slice (some ⟨g8, 0, none⟩) 2 2, .slice none 0 0, .int .i64 0] 48) (by simp) (by simp) (all2 (HK85.out.alloc _).val (HK85.out.alloc _).val) 36
  have hz : (w5.alloc (.cells #[.int .i64 3, .string ⟨#[]⟩, .slice (some ⟨e8, 0, none⟩) 1 1, .slice (some ⟨g8, 0, none⟩) 2 2, .slice none 0 0, .int .i64 0, .int .i64 3, .string ⟨#[]⟩, .slice (some ⟨e8, 0, none⟩) 1 1, .slice (some ⟨g8, 0, none⟩) 2 2, .slice none 0 0, .int .i64 0] 48)).heap.size = w5.heap.size + 1 := by simp
  rw [hz] at X
  have KC := checkC _ _ _ _ _ (w5.heap.size + 1 + 1) (by simp) X
  rw [show checkM [funX [ifX [letX s, ifX [letX s]], ifX [letX s, ifX [letX s]]]] = (53, 0) from scopeA s true] at KC
  have HKC : Hid (Calls Tryz.prog 15 #[.agg #[.slice (some ⟨w5.heap.size + 1, 0, none⟩) 1 1]] ((w5.alloc (.cells #[.int .i64 3, .string ⟨#[]⟩, .slice (some ⟨e8, 0, none⟩) 1 1, .slice (some ⟨g8, 0, none⟩) 2 2, .slice none 0 0, .int .i64 0, .int .i64 3, .string ⟨#[]⟩, .slice (some ⟨e8, 0, none⟩) 1 1, .slice (some ⟨g8, 0, none⟩) 2 2, .slice none 0 0, .int .i64 0] 48)).alloc (.cells #[.string ⟨#[]⟩, .slice none 0 0, .int .i64 0, .slice (some ⟨w5.heap.size, 0, none⟩) 2 2, .int .i64 0] 36)) _) := KC
  have HB : Hid (Below w5.heap.size w5 ((w5.alloc (.cells #[.int .i64 3, .string ⟨#[]⟩, .slice (some ⟨e8, 0, none⟩) 1 1, .slice (some ⟨g8, 0, none⟩) 2 2, .slice none 0 0, .int .i64 0, .int .i64 3, .string ⟨#[]⟩, .slice (some ⟨e8, 0, none⟩) 1 1, .slice (some ⟨g8, 0, none⟩) 2 2, .slice none 0 0, .int .i64 0] 48)).alloc (.cells #[.string ⟨#[]⟩, .slice none 0 0, .int .i64 0, .slice (some ⟨w5.heap.size, 0, none⟩) 2 2, .int .i64 0] 36))) := (below_alloc _ _).trans ((below_alloc _ _).mono (by simp))
  clear X KC hz
  go_wp2_with fail
  clear zI0 zI1 zI2 zI3 zI4 zI5
  generalize (w5.alloc (.cells #[.int .i64 3, .string ⟨#[]⟩, .slice (some ⟨e8, 0, none⟩) 1 1, .slice (some ⟨g8, 0, none⟩) 2 2, .slice none 0 0, .int .i64 0, .int .i64 3, .string ⟨#[]⟩, .slice (some ⟨e8, 0, none⟩) 1 1, .slice (some ⟨g8, 0, none⟩) 2 2, .slice none 0 0, .int .i64 0] 48)).alloc (.cells #[.string ⟨#[]⟩, .slice none 0 0, .int .i64 0, .slice (some ⟨w5.heap.size, 0, none⟩) 2 2, .int .i64 0] 36) = v5 at *
  with_reducible refine HKC.out.mono ?_
  clear HKC
  rintro e w6 ⟨rfl, bb⟩
  have HB2 := HB.out.trans (bb.mono HB.out.size)
  have HK76 := Lib.hid (HK75.out.below HB2)
  have HK86 := Lib.hid (HK85.out.below HB2)
  have HK106 := Lib.hid (HK105.out.below HB2)
  have B6 := Lib.hid (B5.out.trans (HB2.mono B5.out.size))
  clear HB bb HB2 B5 HK75 HK85 HK105
  go_upto_region 10 with fail
  have zI0 : w6.cell? ⟨b8, 0, none⟩ = some (.int .i64 3) := (Kept.at (HK86.out)).1
  have zI1 : w6.cell? ⟨b8, 1, none⟩ = some (.string ⟨#[]⟩) := (Kept.at (HK86.out)).2.1
  have zI2 : w6.cell? ⟨b8, 2, none⟩ = some (.slice (some ⟨e8, 0, none⟩) 1 1) := (Kept.at (HK86.out)).2.2.1
  have zI3 : w6.cell? ⟨b8, 3, none⟩ = some (.slice (some ⟨g8, 0, none⟩) 2 2) := (Kept.at (HK86.out)).2.2.2.1
  have zI4 : w6.cell? ⟨b8, 4, none⟩ = some (.slice none 0 0) := (Kept.at (HK86.out)).2.2.2.2.1
  have zI5 : w6.cell? ⟨b8, 5, none⟩ = some (.int .i64 0) := (Kept.at (HK86.out)).2.2.2.2.2
  have zS0 : w6.cell? ⟨b10, 0, none⟩ = some (.int .i64 2) := (Kept.at (HK106.out)).1
  have zS1 : w6.cell? ⟨b10, 1, none⟩ = some (.string (strN s)) := (Kept.at (HK106.out)).2.1
  have zS2 : w6.cell? ⟨b10, 2, none⟩ = some (.slice (some ⟨e10, 0, none⟩) 1 1) := (Kept.at (HK106.out)).2.2.1
  have zS3 : w6.cell? ⟨b10, 3, none⟩ = some (.slice none 0 0) := (Kept.at (HK106.out)).2.2.2.1
  have zS4 : w6.cell? ⟨b10, 4, none⟩ = some (.slice none 0 0) := (Kept.at (HK106.out)).2.2.2.2.1
  have zS5 : w6.cell? ⟨b10, 5, none⟩ = some (.int .i64 9) := (Kept.at (HK106.out)).2.2.2.2.2
  have X := prog_new (w := (w6.alloc (.cells #[.int .i64 3, .string ⟨#[]⟩, .slice (some ⟨e8, 0, none⟩) 1 1, .slice (some ⟨g8, 0, none⟩) 2 2, .slice none 0 0, .int .i64 0, .int .i64 2, .string (strN s), .slice (some ⟨e10, 0, none⟩) 1 1, .slice none 0 0, .slice none 0 0, .int .i64 9] 48))) (g := w6.heap.size) (l := [ifX [letX s, ifX [letX s]], setX s]) (ks := [⟨.slice (some ⟨e8, 0, none⟩) 1 1, .slice (some ⟨g8, 0, none⟩) 2 2, .slice none 0 0⟩, ⟨.slice (some ⟨e10, 0, none⟩) 1 1, .slice none 0 0, .slice none 0 0⟩]) rfl (range_newz w6 [.int .i64 3, .string ⟨#[]⟩, .slice (some ⟨e8, 0, none⟩) 1 1, .slice (some ⟨g8, 0, none⟩) 2 2, .slice none 0 0, .int .i64 0, .int .i64 2, .string (strN s), .slice (some ⟨e10, 0, none⟩) 1 1, .slice none 0 0, .slice none 0 0, .int .i64 9] 48) (by simp) (by simp) (all2 (HK86.out.alloc _).val (HK106.out.alloc _).val) 36
  have hz : (w6.alloc (.cells #[.int .i64 3, .string ⟨#[]⟩, .slice (some ⟨e8, 0, none⟩) 1 1, .slice (some ⟨g8, 0, none⟩) 2 2, .slice none 0 0, .int .i64 0, .int .i64 2, .string (strN s), .slice (some ⟨e10, 0, none⟩) 1 1, .slice none 0 0, .slice none 0 0, .int .i64 9] 48)).heap.size = w6.heap.size + 1 := by simp
  rw [hz] at X
  have KC := checkC _ _ _ _ _ (w6.heap.size + 1 + 1) (by simp) X
  rw [show checkM [funX [ifX [letX s, ifX [letX s]], setX s]] = (53, 0) from scopeB s true] at KC
  have HKC : Hid (Calls Tryz.prog 15 #[.agg #[.slice (some ⟨w6.heap.size + 1, 0, none⟩) 1 1]] ((w6.alloc (.cells #[.int .i64 3, .string ⟨#[]⟩, .slice (some ⟨e8, 0, none⟩) 1 1, .slice (some ⟨g8, 0, none⟩) 2 2, .slice none 0 0, .int .i64 0, .int .i64 2, .string (strN s), .slice (some ⟨e10, 0, none⟩) 1 1, .slice none 0 0, .slice none 0 0, .int .i64 9] 48)).alloc (.cells #[.string ⟨#[]⟩, .slice none 0 0, .int .i64 0, .slice (some ⟨w6.heap.size, 0, none⟩) 2 2, .int .i64 0] 36)) _) := KC
  have HB : Hid (Below w6.heap.size w6 ((w6.alloc (.cells #[.int .i64 3, .string ⟨#[]⟩, .slice (some ⟨e8, 0, none⟩) 1 1, .slice (some ⟨g8, 0, none⟩) 2 2, .slice none 0 0, .int .i64 0, .int .i64 2, .string (strN s), .slice (some ⟨e10, 0, none⟩) 1 1, .slice none 0 0, .slice none 0 0, .int .i64 9] 48)).alloc (.cells #[.string ⟨#[]⟩, .slice none 0 0, .int .i64 0, .slice (some ⟨w6.heap.size, 0, none⟩) 2 2, .int .i64 0] 36))) := (below_alloc _ _).trans ((below_alloc _ _).mono (by simp))
  clear X KC hz
  go_wp2_with fail
  clear zI0 zI1 zI2 zI3 zI4 zI5
  clear zS0 zS1 zS2 zS3 zS4 zS5
  generalize (w6.alloc (.cells #[.int .i64 3, .string ⟨#[]⟩, .slice (some ⟨e8, 0, none⟩) 1 1, .slice (some ⟨g8, 0, none⟩) 2 2, .slice none 0 0, .int .i64 0, .int .i64 2, .string (strN s), .slice (some ⟨e10, 0, none⟩) 1 1, .slice none 0 0, .slice none 0 0, .int .i64 9] 48)).alloc (.cells #[.string ⟨#[]⟩, .slice none 0 0, .int .i64 0, .slice (some ⟨w6.heap.size, 0, none⟩) 2 2, .int .i64 0] 36) = v6 at *
  with_reducible refine HKC.out.mono ?_
  clear HKC
  rintro e w7 ⟨rfl, bb⟩
  have HB2 := HB.out.trans (bb.mono HB.out.size)
  have HK77 := Lib.hid (HK76.out.below HB2)
  have HK87 := Lib.hid (HK86.out.below HB2)
  have HK107 := Lib.hid (HK106.out.below HB2)
  have B7 := Lib.hid (B6.out.trans (HB2.mono B6.out.size))
  clear HB bb HB2 B6 HK76 HK86 HK106
  go_upto_region 11 with fail
  have zL0 : w7.cell? ⟨b7, 0, none⟩ = some (.int .i64 1) := (Kept.at (HK77.out)).1
  have zL1 : w7.cell? ⟨b7, 1, none⟩ = some (.string (strN s)) := (Kept.at (HK77.out)).2.1
  have zL2 : w7.cell? ⟨b7, 2, none⟩ = some (.slice (some ⟨e7, 0, none⟩) 1 1) := (Kept.at (HK77.out)).2.2.1
  have zL3 : w7.cell? ⟨b7, 3, none⟩ = some (.slice none 0 0) := (Kept.at (HK77.out)).2.2.2.1
  have zL4 : w7.cell? ⟨b7, 4, none⟩ = some (.slice none 0 0) := (Kept.at (HK77.out)).2.2.2.2.1
  have zL5 : w7.cell? ⟨b7, 5, none⟩ = some (.int .i64 0) := (Kept.at (HK77.out)).2.2.2.2.2
  have zS0 : w7.cell? ⟨b10, 0, none⟩ = some (.int .i64 2) := (Kept.at (HK107.out)).1
  have zS1 : w7.cell? ⟨b10, 1, none⟩ = some (.string (strN s)) := (Kept.at (HK107.out)).2.1
  have zS2 : w7.cell? ⟨b10, 2, none⟩ = some (.slice (some ⟨e10, 0, none⟩) 1 1) := (Kept.at (HK107.out)).2.2.1
  have zS3 : w7.cell? ⟨b10, 3, none⟩ = some (.slice none 0 0) := (Kept.at (HK107.out)).2.2.2.1
  have zS4 : w7.cell? ⟨b10, 4, none⟩ = some (.slice none 0 0) := (Kept.at (HK107.out)).2.2.2.2.1
  have zS5 : w7.cell? ⟨b10, 5, none⟩ = some (.int .i64 9) := (Kept.at (HK107.out)).2.2.2.2.2
  have zI0 : w7.cell? ⟨b8, 0, none⟩ = some (.int .i64 3) := (Kept.at (HK87.out)).1
  have zI1 : w7.cell? ⟨b8, 1, none⟩ = some (.string ⟨#[]⟩) := (Kept.at (HK87.out)).2.1
  have zI2 : w7.cell? ⟨b8, 2, none⟩ = some (.slice (some ⟨e8, 0, none⟩) 1 1) := (Kept.at (HK87.out)).2.2.1
  have zI3 : w7.cell? ⟨b8, 3, none⟩ = some (.slice (some ⟨g8, 0, none⟩) 2 2) := (Kept.at (HK87.out)).2.2.2.1
  have zI4 : w7.cell? ⟨b8, 4, none⟩ = some (.slice none 0 0) := (Kept.at (HK87.out)).2.2.2.2.1
  have zI5 : w7.cell? ⟨b8, 5, none⟩ = some (.int .i64 0) := (Kept.at (HK87.out)).2.2.2.2.2
  have X := prog_new (w := (w7.alloc (.cells #[.int .i64 1, .string (strN s), .slice (some ⟨e7, 0, none⟩) 1 1, .slice none 0 0, .slice none 0 0, .int .i64 0, .int .i64 2, .string (strN s), .slice (some ⟨e10, 0, none⟩) 1 1, .slice none 0 0, .slice none 0 0, .int .i64 9, .int .i64 3, .string ⟨#[]⟩, .slice (some ⟨e8, 0, none⟩) 1 1, .slice (some ⟨g8, 0, none⟩) 2 2, .slice none 0 0, .int .i64 0] 48))) (g := w7.heap.size) (l := [letX s, setX s, ifX [letX s, ifX [letX s]]]) (ks := [⟨.slice (some ⟨e7, 0, none⟩) 1 1, .slice none 0 0, .slice none 0 0⟩, ⟨.slice (some ⟨e10, 0, none⟩) 1 1, .slice none 0 0, .slice none 0 0⟩, ⟨.slice (some ⟨e8, 0, none⟩) 1 1, .slice (some ⟨g8, 0, none⟩) 2 2, .slice none 0 0⟩]) rfl (range_newz w7 [.int .i64 1, .string (strN s), .slice (some ⟨e7, 0, none⟩) 1 1, .slice none 0 0, .slice none 0 0, .int .i64 0, .int .i64 2, .string (strN s), .slice (some ⟨e10, 0, none⟩) 1 1, .slice none 0 0, .slice none 0 0, .int .i64 9, .int .i64 3, .string ⟨#[]⟩, .slice (some ⟨e8, 0, none⟩) 1 1, .slice (some ⟨g8, 0, none⟩) 2 2, .slice none 0 0, .int .i64 0] 48) (by simp) (by simp) (all3 (HK77.out.alloc _).val (HK107.out.alloc _).val (HK87.out.alloc _).val) 36
  have hz : (w7.alloc (.cells #[.int .i64 1, .string (strN s), .slice (some ⟨e7, 0, none⟩) 1 1, .slice none 0 0, .slice none 0 0, .int .i64 0, .int .i64 2, .string (strN s), .slice (some ⟨e10, 0, none⟩) 1 1, .slice none 0 0, .slice none 0 0, .int .i64 9, .int .i64 3, .string ⟨#[]⟩, .slice (some ⟨e8, 0, none⟩) 1 1, .slice (some ⟨g8, 0, none⟩) 2 2, .slice none 0 0, .int .i64 0] 48)).heap.size = w7.heap.size + 1 := by simp
  rw [hz] at X
  have KC := checkC _ _ _ _ _ (w7.heap.size + 1 + 1) (by simp) X
  rw [show checkM [funX [letX s, setX s, ifX [letX s, ifX [letX s]]]] = (53, 0) from scopeC s true] at KC
  have HKC : Hid (Calls Tryz.prog 15 #[.agg #[.slice (some ⟨w7.heap.size + 1, 0, none⟩) 1 1]] ((w7.alloc (.cells #[.int .i64 1, .string (strN s), .slice (some ⟨e7, 0, none⟩) 1 1, .slice none 0 0, .slice none 0 0, .int .i64 0, .int .i64 2, .string (strN s), .slice (some ⟨e10, 0, none⟩) 1 1, .slice none 0 0, .slice none 0 0, .int .i64 9, .int .i64 3, .string ⟨#[]⟩, .slice (some ⟨e8, 0, none⟩) 1 1, .slice (some ⟨g8, 0, none⟩) 2 2, .slice none 0 0, .int .i64 0] 48)).alloc (.cells #[.string ⟨#[]⟩, .slice none 0 0, .int .i64 0, .slice (some ⟨w7.heap.size, 0, none⟩) 3 3, .int .i64 0] 36)) _) := KC
  have HB : Hid (Below w7.heap.size w7 ((w7.alloc (.cells #[.int .i64 1, .string (strN s), .slice (some ⟨e7, 0, none⟩) 1 1, .slice none 0 0, .slice none 0 0, .int .i64 0, .int .i64 2, .string (strN s), .slice (some ⟨e10, 0, none⟩) 1 1, .slice none 0 0, .slice none 0 0, .int .i64 9, .int .i64 3, .string ⟨#[]⟩, .slice (some ⟨e8, 0, none⟩) 1 1, .slice (some ⟨g8, 0, none⟩) 2 2, .slice none 0 0, .int .i64 0] 48)).alloc (.cells #[.string ⟨#[]⟩, .slice none 0 0, .int .i64 0, .slice (some ⟨w7.heap.size, 0, none⟩) 3 3, .int .i64 0] 36))) := (below_alloc _ _).trans ((below_alloc _ _).mono (by simp))
  clear X KC hz
  go_wp2_with fail
  clear zL0 zL1 zL2 zL3 zL4 zL5
  clear zS0 zS1 zS2 zS3 zS4 zS5
  clear zI0 zI1 zI2 zI3 zI4 zI5
  generalize (w7.alloc (.cells #[.int .i64 1, .string (strN s), .slice (some ⟨e7, 0, none⟩) 1 1, .slice none 0 0, .slice none 0 0, .int .i64 0, .int .i64 2, .string (strN s), .slice (some ⟨e10, 0, none⟩) 1 1, .slice none 0 0, .slice none 0 0, .int .i64 9, .int .i64 3, .string ⟨#[]⟩, .slice (some ⟨e8, 0, none⟩) 1 1, .slice (some ⟨g8, 0, none⟩) 2 2, .slice none 0 0, .int .i64 0] 48)).alloc (.cells #[.string ⟨#[]⟩, .slice none 0 0, .int .i64 0, .slice (some ⟨w7.heap.size, 0, none⟩) 3 3, .int .i64 0] 36) = v7 at *
  with_reducible refine HKC.out.mono ?_
  clear HKC
  rintro e w8 ⟨rfl, bb⟩
  have HB2 := HB.out.trans (bb.mono HB.out.size)
  have HK78 := Lib.hid (HK77.out.below HB2)
  have HK88 := Lib.hid (HK87.out.below HB2)
  have HK108 := Lib.hid (HK107.out.below HB2)
  have B8 := Lib.hid (B7.out.trans (HB2.mono B7.out.size))
  clear HB bb HB2 B7 HK77 HK87 HK107
  go_upto_region 12 with fail
  go_wp2
  go_ret
  exact ⟨rfl, B8.out⟩
theorem scope_walk (s : List Nat) (b : Bool) (w : World) (hs : Byn s) (ht : Tab w) : Calls Tryz.prog 7 #[.string (strN s), .bool b] w fun e w' => e = .returned (.bool true) ∧ Below w.heap.size w w' := by
  cases b
  · exact scope_no s w hs ht
  · exact scope_yes s w hs ht
end Go.Proofs.YtfcpabhkconjmaaGreatDoor
