/- A part of the proof. -/
import Derived.Test.YtcilgkdnjgmogaaGreatDoorKb
namespace Go.Proofs.YtcilgkdnjgmogaaGreatDoor
set_option maxRecDepth 100000
set_option maxHeartbeats 12800000
set_option linter.all false
variable {w w' w1 w2:World}
section
open Go.RowKit Go.MapKept
abbrev TupV (t n e:Int):Value:=.tuple #[.agg #[.int .i64 t,.int .i64 n,.slice none 0 0],.int .i64 e]
theorem zwd {t n:Int} {k:Value} (hb:Below w.heap.size w w1) (hs:VSt w.heap.size t n k w1 w2):Below w.heap.size w w2:=hb.trans (hs.below (Nat.le_refl _))
theorem nrT (n:Int) (w:World):Calls Tryz.prog 94 #[.int .i64 n,.bool true] w fun e w'=>e =.returned (TupV 1 n 0)/\Below w.heap.size w w':=by
 go_enter Tryz.func94,Tryz.ntmps94
 go_wp2_with fail
 refine (numR n _).mono ?_;rintro e w1 ⟨rfl,b1⟩;have hz:=zg b1 (heap_alloc_new w (.cells #[.int .i64 0,.int .i64 0,.slice none 0 0] 41)) (by simp);have hb:Below w.heap.size w w1:=(za w _).trans (b1.mono (za w _).size);clear b1
 go_wp2_with (refine zm rfl (.tmp 4) (.tmp 10) rfl rfl w.heap.size rfl 1 n none 0 0 rfl hz ?_;intro w7 g1)
 refine bodyPost_ret (qW Tryz.results94 _ _ w.heap.size rfl g1.here) rfl ?_;exact ⟨rfl,zwd hb g1⟩
theorem nrF (n:Int) (w:World):Calls Tryz.prog 94 #[.int .i64 n,.bool false] w fun e w'=>e =.returned (TupV 0 0 3)/\Below w.heap.size w w':=by
 go_enter Tryz.func94,Tryz.ntmps94
 go_wp2
 refine bodyPost_ret (qW Tryz.results94 _ _ w.heap.size rfl (heap_alloc_new w _)) rfl ?_;exact ⟨rfl,za w _⟩
def TimO (a b:Int) (w:World) (e:Ending) (w':World):Prop:=(∃ n is,e =.returned (.tuple #[.int .i64 n,.bool is])/\(is =true ↔ fits (a*b))/\(is =true->n =a*b))/\Below w.heap.size w w'
theorem zw3 {a b n:Int} {is:Bool} (h1:is =true ↔ fits (a*b)) (h2:is =true->n =a*b) (hb:Below w.heap.size w w'):TimO a b w (.returned (.tuple #[.int .i64 n,.bool is])) w':=⟨⟨n,is,rfl,h1,h2⟩,hb⟩
theorem zw8:fits 0:=by unfold fits;decide
theorem zyr (a b:Int) (ha:fits a) (hb:fits b) (w:World):Calls Tryz.prog 95 #[.int .i64 a,.int .i64 b] w (TimO a b w):=by
 by_cases a0:a =0
 ·subst a0
  go_enter Tryz.func95,Tryz.ntmps95
  go_wp2
  go_ret2
  exact zw3 (by simp [zw8]) (by simp) (Below.refl _ _)
 have a0':(a == 0) =false:=by simpa using a0
 by_cases b0:b =0
 ·subst b0
  go_enter Tryz.func95,Tryz.ntmps95
  go_wp2
  go_ret2
  exact zw3 (by simp [zw8]) (by simp) (Below.refl _ _)
 have b0':(b == 0) =false:=by simpa using b0
 by_cases s1:a = -1/\b = -9223372036854775808
 ·obtain ⟨rfl,rfl⟩:=s1
  go_enter Tryz.func95,Tryz.ntmps95
  go_wp2
  go_ret2
  exact zw3 (by unfold fits;decide) (by simp) (Below.refl _ _)
 by_cases s2:b = -1/\a = -9223372036854775808
 ·obtain ⟨rfl,rfl⟩:=s2
  go_enter Tryz.func95,Tryz.ntmps95
  go_wp2
  go_ret2
  exact zw3 (by unfold fits;decide) (by simp) (Below.refl _ _)
 have HP:=zz9 (zie b a hb ha b0 s2);have hmul:b*a =a*b:=Int.mul_comm b a;rw [hmul] at HP;clear hmul;by_cases hf:fits (a*b)
 ·have hd:((wrap64 ((wrap64 (a*b)).tdiv b)) == a) =true:=by rw [HP.out.2 hf];simp
  have HF:=zz9 hf;have HW:=zz9 (xQ hf);have hd2:=hd;rw [<- zjt] at hd2;clear hf a0 HP ha hb;rcases Bool.eq_false_or_eq_true (a == -1) with c1|c1 <;> rcases Bool.eq_false_or_eq_true (b == -1) with c3|c3 <;> rcases Bool.eq_false_or_eq_true (b == -9223372036854775808) with c2|c2 <;> rcases Bool.eq_false_or_eq_true (a == -9223372036854775808) with c4|c4
  all_goals
   first
    | exact absurd (And.intro (beq_iff_eq.1 c1) (beq_iff_eq.1 c2)) s1
    | exact absurd (And.intro (beq_iff_eq.1 c3) (beq_iff_eq.1 c4)) s2
    | exact absurd ((beq_iff_eq.1 c1).symm.trans (beq_iff_eq.1 c4)) (by decide)
    | exact absurd ((beq_iff_eq.1 c3).symm.trans (beq_iff_eq.1 c2)) (by decide)
    | skip
  all_goals
   clear s1 s2;go_enter Tryz.func95,Tryz.ntmps95
   go_wp2
   go_region
   go_wp2
   go_ret2
   exact zw3 (by simpa using HF.out) (fun _=>HW.out) (Below.refl _ _).drew
 ·have hd:((wrap64 ((wrap64 (a*b)).tdiv b)) == a) =false:=by simpa using fun h=>hf (HP.out.1 h)
  have HF:=zz9 hf;have hd2:=hd;rw [<- zjt] at hd2;clear hf a0 HP ha hb;rcases Bool.eq_false_or_eq_true (a == -1) with c1|c1 <;> rcases Bool.eq_false_or_eq_true (b == -1) with c3|c3 <;> rcases Bool.eq_false_or_eq_true (b == -9223372036854775808) with c2|c2 <;> rcases Bool.eq_false_or_eq_true (a == -9223372036854775808) with c4|c4
  all_goals
   first
    | exact absurd (And.intro (beq_iff_eq.1 c1) (beq_iff_eq.1 c2)) s1
    | exact absurd (And.intro (beq_iff_eq.1 c3) (beq_iff_eq.1 c4)) s2
    | exact absurd ((beq_iff_eq.1 c1).symm.trans (beq_iff_eq.1 c4)) (by decide)
    | exact absurd ((beq_iff_eq.1 c3).symm.trans (beq_iff_eq.1 c2)) (by decide)
    | skip
  all_goals
   clear s1 s2;go_enter Tryz.func95,Tryz.ntmps95
   go_wp2
   go_region
   go_wp2
   go_ret2
   exact zw3 (by simpa using HF.out) (by simp) (Below.refl _ _).drew
end
end Go.Proofs.YtcilgkdnjgmogaaGreatDoor
