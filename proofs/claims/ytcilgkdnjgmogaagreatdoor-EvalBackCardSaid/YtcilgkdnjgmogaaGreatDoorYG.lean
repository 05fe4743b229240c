/- A part of the proof. -/
import Derived.Deep.DeepCutAuto
import Derived.Test.YtcilgkdnjgmogaaGreatDoorYF
namespace Go.Proofs.YtcilgkdnjgmogaaGreatDoor
open Go.Proofs.Tryz
set_option maxRecDepth 100000
set_option maxHeartbeats 12800000
set_option linter.all false
variable {D:Nat->Prop} {b1 b2:Nat} {w w' w0:World}
section
section
open Go.RowKit
abbrev xsO(op:Int)(aZ:List Nat)(E Y F:Value)(aW:Int):Obj:=.cells #[.int .i64 op,.string (strN aZ),E,Y,F,.int .i64 aW] 145
def qA(w:World)(op:Int)(aZ:List Nat)(E Y F:Value)(aW:Int):(w.alloc (xsO op aZ E Y F aW)).cell? ⟨w.heap.size,0,none⟩=some (.int .i64 op)/\(w.alloc (xsO op aZ E Y F aW)).cell? ⟨w.heap.size,1,none⟩=some (.string (strN aZ))/\(w.alloc (xsO op aZ E Y F aW)).cell? ⟨w.heap.size,2,none⟩=some E/\(w.alloc (xsO op aZ E Y F aW)).cell? ⟨w.heap.size,3,none⟩=some Y/\(w.alloc (xsO op aZ E Y F aW)).cell? ⟨w.heap.size,4,none⟩=some F/\(w.alloc (xsO op aZ E Y F aW)).cell? ⟨w.heap.size,5,none⟩=some (.int .i64 aW):=by
 refine⟨?_,?_,?_,?_,?_,?_⟩<;>(rw[wy _ _ _ _ _ _ (ye w _)];rfl)
def xI(op:Int)(aZ:List Nat)(A1 A2 A3:Option Addr)(n nb ne c1 c2 c3:Nat)(aW:Int)(w:World):Calls prog 243 #[.agg #[.int .i64 op,.string (strN aZ),.slice A1 n c1,.slice A2 nb c2,.slice A3 ne c3,.int .i64 aW]] w fun e w'=>e=.returned (.bool (zj op n (nb==0) (ne==0)))/\Below w.heap.size w w':=by
 have BA:=aQ (za w (xsO op aZ (.slice A1 n c1) (.slice A2 nb c2) (.slice A3 ne c3) aW));obtain⟨z0,z1,z2,z3,z4,z5⟩:=qA w op aZ (.slice A1 n c1) (.slice A2 nb c2) (.slice A3 ne c3) aW;go_enter func243,ntmps243;go_upto_region 1 with fail
 generalize w.alloc (.cells #[.int .i64 op,.string (strN aZ),.slice A1 n c1,.slice A2 nb c2,.slice A3 ne c3,.int .i64 aW] 145)=w0 at *
 go_cut [3,4] (fun a b wx=>a=.int .i64 n/\b=.bool (nb==0&&ne==0)/\∃k,wx=w0.drewN k)
 case first=>
  by_cases hb:nb=0
  ·have q:((nb:Int)==0)=true:=by rw[hb];rfl
   have HE:Hid ((nb==0&&ne==0)=((ne:Int)==0)):=by show _=_;rw[hb,zaq];rfl
   clear hb z1 z5 z0;go_quiet (fail)
   (go_wp2_with fail);go_meet
   exact⟨rfl,by rw[HE.out],_,rfl⟩
  ·have q:((nb:Int)==0)=false:=z9 hb;have HE:Hid ((nb==0&&ne==0)=false):=by show _=_;rw[show(nb==0)=false by rw[yI];exact hb];rfl
   clear hb z1 z5 z0;go_quiet (fail)
   (go_wp2_with fail);go_meet
   exact⟨rfl,by rw[HE.out],_,rfl⟩
 case rest=>
  obtain⟨rfl,rfl,kk,rfl⟩:=hcut;have bd:=zW (Below.refl w0.heap.size w0) kk;have y0:=zb z0 bd;have y4:=zb z4 bd;have HB:=aQ (zd BA.out bd BA.out.size);have HE:Hid (∀m k:Bool,(nb==0)=m->(ne==0)=k->zj op n (nb==0) (ne==0)=zj op n m k):=fun m k h1 h2=>by rw[h1,h2]
  clear z0 z1 z2 z3 z4 z5 bd BA
  generalize w0.drewN kk=w1 at *
  cases hp1:(nb==0)<;>cases hp2:(ne==0)
  ·replace HE:=aQ (HE.out false false hp1 hp2);have q9:((ne:Int)==0)=false:=by rw[zaq];exact hp2
   clear hp1 hp2
   simp only[Bool.and_true,Bool.and_false,Bool.true_and,Bool.false_and]at *
   by_cases h1:op=1
   ·subst h1;by_cases hn:n=1
    ·have q:((n:Int)==1)=true:=by rw[hn];rfl
     have HE2:Hid (zj 1 n false false=false):=by show _=_;rw[hn];rfl
     clear hn;go_wp2;go_ret;exact⟨by rw[HE.out,HE2.out];rfl,HB.out⟩
    ·have q:((n:Int)==1)=false:=z9 hn;have HE2:Hid (zj 1 n false false=false):=by show _=_;simp[zj,show(n==1)=false by rw[yI];exact hn]
     clear hn;go_wp2;go_ret;exact⟨by rw[HE.out,HE2.out];rfl,HB.out⟩
   by_cases h2:op=2
   ·subst h2;by_cases hn:n=1
    ·have q:((n:Int)==1)=true:=by rw[hn];rfl
     have HE2:Hid (zj 2 n false false=false):=by show _=_;rw[hn];rfl
     clear hn;go_wp2;go_ret;exact⟨by rw[HE.out,HE2.out];rfl,HB.out⟩
    ·have q:((n:Int)==1)=false:=z9 hn;have HE2:Hid (zj 2 n false false=false):=by show _=_;simp[zj,show(n==1)=false by rw[yI];exact hn]
     clear hn;go_wp2;go_ret;exact⟨by rw[HE.out,HE2.out];rfl,HB.out⟩
   by_cases h7:op=7
   ·subst h7;by_cases hn:n=1
    ·have q:((n:Int)==1)=true:=by rw[hn];rfl
     have HE2:Hid (zj 7 n false false=false):=by show _=_;rw[hn];rfl
     clear hn;go_wp2;go_ret;exact⟨by rw[HE.out,HE2.out];rfl,HB.out⟩
    ·have q:((n:Int)==1)=false:=z9 hn;have HE2:Hid (zj 7 n false false=false):=by show _=_;simp[zj,show(n==1)=false by rw[yI];exact hn]
     clear hn;go_wp2;go_ret;exact⟨by rw[HE.out,HE2.out];rfl,HB.out⟩
   by_cases h8:op=8
   ·subst h8;by_cases hn:n=1
    ·have q:((n:Int)==1)=true:=by rw[hn];rfl
     have HE2:Hid (zj 8 n false false=false):=by show _=_;rw[hn];rfl
     clear hn;go_wp2;go_ret;exact⟨by rw[HE.out,HE2.out];rfl,HB.out⟩
    ·have q:((n:Int)==1)=false:=z9 hn;have HE2:Hid (zj 8 n false false=false):=by show _=_;simp[zj,show(n==1)=false by rw[yI];exact hn]
     clear hn;go_wp2;go_ret;exact⟨by rw[HE.out,HE2.out];rfl,HB.out⟩
   by_cases h6:op=6
   ·subst h6;by_cases hn:n=2
    ·have q:((n:Int)==2)=true:=by rw[hn];rfl
     have HE2:Hid (zj 6 n false false=false):=by show _=_;rw[hn];rfl
     clear hn;go_wp2;go_ret;exact⟨by rw[HE.out,HE2.out];rfl,HB.out⟩
    ·have q:((n:Int)==2)=false:=z9 hn;have HE2:Hid (zj 6 n false false=false):=by show _=_;simp[zj,show(n==2)=false by rw[yI];exact hn]
     clear hn;go_wp2;go_ret;exact⟨by rw[HE.out,HE2.out];rfl,HB.out⟩
   by_cases h5:op=5
   ·subst h5;by_cases hn:n<=1
    ·have q:¬(1:Int)<n:=by omega
     have HE2:Hid (zj 5 n false false=false):=by show _=_;simp[zj,hn]
     have hn':(n:Int)<=1:=by omega
     clear hn;go_wp2;go_ret;exact⟨by rw[HE.out,HE2.out];rfl,HB.out⟩
    ·have q:(1:Int)<n:=by omega
     have HE2:Hid (zj 5 n false false=false):=by show _=_;first|(simp[zj];done)|(simp[zj];omega)
     clear hn;go_wp2;go_ret;exact⟨by rw[HE.out,HE2.out];rfl,HB.out⟩
   by_cases h3:op=3
   ·subst h3;by_cases hn:n=1
    ·have q:((n:Int)==1)=true:=by rw[hn];rfl
     have HE2:Hid (zj 3 n false false=true):=by show _=_;rw[hn];rfl
     clear hn;go_wp2;go_ret;exact⟨by rw[HE.out,HE2.out];rfl,HB.out⟩
    ·have q:((n:Int)==1)=false:=z9 hn;have HE2:Hid (zj 3 n false false=false):=by show _=_;simp[zj,show(n==1)=false by rw[yI];exact hn]
     clear hn;go_wp2;go_ret;exact⟨by rw[HE.out,HE2.out];rfl,HB.out⟩
   by_cases h4:op=4
   ·subst h4;by_cases hn:n=2
    ·have q:((n:Int)==2)=true:=by rw[hn];rfl
     have HE2:Hid (zj 4 n false false=false):=by show _=_;rw[hn];rfl
     clear hn;go_wp2;go_ret;exact⟨by rw[HE.out,HE2.out];rfl,HB.out⟩
    ·have q:((n:Int)==2)=false:=z9 hn;have HE2:Hid (zj 4 n false false=false):=by show _=_;simp[zj,show(n==2)=false by rw[yI];exact hn]
     clear hn;go_wp2;go_ret;exact⟨by rw[HE.out,HE2.out];rfl,HB.out⟩
   have e1:(op==1)=false:=zI h1;have e2:(op==2)=false:=zI h2;have e3:(op==3)=false:=zI h3;have e4:(op==4)=false:=zI h4;have e5:(op==5)=false:=zI h5;have e6:(op==6)=false:=zI h6;have e7:(op==7)=false:=zI h7;have e8:(op==8)=false:=zI h8;have HE2:Hid (zj op n false false=false):=by show _=_;unfold zj;rw[if_neg (by omega),if_neg h6,if_neg h5,if_neg h3,if_neg h4]
   clear h1 h2 h3 h4 h5 h6 h7 h8;go_wp2;go_ret;exact⟨by rw[HE.out,HE2.out];rfl,HB.out⟩
  ·replace HE:=aQ (HE.out false true hp1 hp2);have q9:((ne:Int)==0)=true:=by rw[zaq];exact hp2
   clear hp1 hp2
   simp only[Bool.and_true,Bool.and_false,Bool.true_and,Bool.false_and]at *
   by_cases h1:op=1
   ·subst h1;by_cases hn:n=1
    ·have q:((n:Int)==1)=true:=by rw[hn];rfl
     have HE2:Hid (zj 1 n false true=false):=by show _=_;rw[hn];rfl
     clear hn;go_wp2;go_ret;exact⟨by rw[HE.out,HE2.out];rfl,HB.out⟩
    ·have q:((n:Int)==1)=false:=z9 hn;have HE2:Hid (zj 1 n false true=false):=by show _=_;simp[zj,show(n==1)=false by rw[yI];exact hn]
     clear hn;go_wp2;go_ret;exact⟨by rw[HE.out,HE2.out];rfl,HB.out⟩
   by_cases h2:op=2
   ·subst h2;by_cases hn:n=1
    ·have q:((n:Int)==1)=true:=by rw[hn];rfl
     have HE2:Hid (zj 2 n false true=false):=by show _=_;rw[hn];rfl
     clear hn;go_wp2;go_ret;exact⟨by rw[HE.out,HE2.out];rfl,HB.out⟩
    ·have q:((n:Int)==1)=false:=z9 hn;have HE2:Hid (zj 2 n false true=false):=by show _=_;simp[zj,show(n==1)=false by rw[yI];exact hn]
     clear hn;go_wp2;go_ret;exact⟨by rw[HE.out,HE2.out];rfl,HB.out⟩
   by_cases h7:op=7
   ·subst h7;by_cases hn:n=1
    ·have q:((n:Int)==1)=true:=by rw[hn];rfl
     have HE2:Hid (zj 7 n false true=false):=by show _=_;rw[hn];rfl
     clear hn;go_wp2;go_ret;exact⟨by rw[HE.out,HE2.out];rfl,HB.out⟩
    ·have q:((n:Int)==1)=false:=z9 hn;have HE2:Hid (zj 7 n false true=false):=by show _=_;simp[zj,show(n==1)=false by rw[yI];exact hn]
     clear hn;go_wp2;go_ret;exact⟨by rw[HE.out,HE2.out];rfl,HB.out⟩
   by_cases h8:op=8
   ·subst h8;by_cases hn:n=1
    ·have q:((n:Int)==1)=true:=by rw[hn];rfl
     have HE2:Hid (zj 8 n false true=false):=by show _=_;rw[hn];rfl
     clear hn;go_wp2;go_ret;exact⟨by rw[HE.out,HE2.out];rfl,HB.out⟩
    ·have q:((n:Int)==1)=false:=z9 hn;have HE2:Hid (zj 8 n false true=false):=by show _=_;simp[zj,show(n==1)=false by rw[yI];exact hn]
     clear hn;go_wp2;go_ret;exact⟨by rw[HE.out,HE2.out];rfl,HB.out⟩
   by_cases h6:op=6
   ·subst h6;by_cases hn:n=2
    ·have q:((n:Int)==2)=true:=by rw[hn];rfl
     have HE2:Hid (zj 6 n false true=false):=by show _=_;rw[hn];rfl
     clear hn;go_wp2;go_ret;exact⟨by rw[HE.out,HE2.out];rfl,HB.out⟩
    ·have q:((n:Int)==2)=false:=z9 hn;have HE2:Hid (zj 6 n false true=false):=by show _=_;simp[zj,show(n==2)=false by rw[yI];exact hn]
     clear hn;go_wp2;go_ret;exact⟨by rw[HE.out,HE2.out];rfl,HB.out⟩
   by_cases h5:op=5
   ·subst h5;by_cases hn:n<=1
    ·have q:¬(1:Int)<n:=by omega
     have HE2:Hid (zj 5 n false true=false):=by show _=_;simp[zj,hn]
     have hn':(n:Int)<=1:=by omega
     clear hn;go_wp2;go_ret;exact⟨by rw[HE.out,HE2.out];rfl,HB.out⟩
    ·have q:(1:Int)<n:=by omega
     have HE2:Hid (zj 5 n false true=false):=by show _=_;first|(simp[zj];done)|(simp[zj];omega)
     clear hn;go_wp2;go_ret;exact⟨by rw[HE.out,HE2.out];rfl,HB.out⟩
   by_cases h3:op=3
   ·subst h3;by_cases hn:n=1
    ·have q:((n:Int)==1)=true:=by rw[hn];rfl
     have HE2:Hid (zj 3 n false true=true):=by show _=_;rw[hn];rfl
     clear hn;go_wp2;go_ret;exact⟨by rw[HE.out,HE2.out];rfl,HB.out⟩
    ·have q:((n:Int)==1)=false:=z9 hn;have HE2:Hid (zj 3 n false true=false):=by show _=_;simp[zj,show(n==1)=false by rw[yI];exact hn]
     clear hn;go_wp2;go_ret;exact⟨by rw[HE.out,HE2.out];rfl,HB.out⟩
   by_cases h4:op=4
   ·subst h4;by_cases hn:n=2
    ·have q:((n:Int)==2)=true:=by rw[hn];rfl
     have HE2:Hid (zj 4 n false true=true):=by show _=_;rw[hn];rfl
     clear hn;go_wp2;go_ret;exact⟨by rw[HE.out,HE2.out];rfl,HB.out⟩
    ·have q:((n:Int)==2)=false:=z9 hn;have HE2:Hid (zj 4 n false true=false):=by show _=_;simp[zj,show(n==2)=false by rw[yI];exact hn]
     clear hn;go_wp2;go_ret;exact⟨by rw[HE.out,HE2.out];rfl,HB.out⟩
   have e1:(op==1)=false:=zI h1;have e2:(op==2)=false:=zI h2;have e3:(op==3)=false:=zI h3;have e4:(op==4)=false:=zI h4;have e5:(op==5)=false:=zI h5;have e6:(op==6)=false:=zI h6;have e7:(op==7)=false:=zI h7;have e8:(op==8)=false:=zI h8;have HE2:Hid (zj op n false true=false):=by show _=_;unfold zj;rw[if_neg (by omega),if_neg h6,if_neg h5,if_neg h3,if_neg h4]
   clear h1 h2 h3 h4 h5 h6 h7 h8;go_wp2;go_ret;exact⟨by rw[HE.out,HE2.out];rfl,HB.out⟩
  ·replace HE:=aQ (HE.out true false hp1 hp2);have q9:((ne:Int)==0)=false:=by rw[zaq];exact hp2
   clear hp1 hp2
   simp only[Bool.and_true,Bool.and_false,Bool.true_and,Bool.false_and]at *
   by_cases h1:op=1
   ·subst h1;by_cases hn:n=1
    ·have q:((n:Int)==1)=true:=by rw[hn];rfl
     have HE2:Hid (zj 1 n true false=false):=by show _=_;rw[hn];rfl
     clear hn;go_wp2;go_ret;exact⟨by rw[HE.out,HE2.out];rfl,HB.out⟩
    ·have q:((n:Int)==1)=false:=z9 hn;have HE2:Hid (zj 1 n true false=false):=by show _=_;simp[zj,show(n==1)=false by rw[yI];exact hn]
     clear hn;go_wp2;go_ret;exact⟨by rw[HE.out,HE2.out];rfl,HB.out⟩
   by_cases h2:op=2
   ·subst h2;by_cases hn:n=1
    ·have q:((n:Int)==1)=true:=by rw[hn];rfl
     have HE2:Hid (zj 2 n true false=false):=by show _=_;rw[hn];rfl
     clear hn;go_wp2;go_ret;exact⟨by rw[HE.out,HE2.out];rfl,HB.out⟩
    ·have q:((n:Int)==1)=false:=z9 hn;have HE2:Hid (zj 2 n true false=false):=by show _=_;simp[zj,show(n==1)=false by rw[yI];exact hn]
     clear hn;go_wp2;go_ret;exact⟨by rw[HE.out,HE2.out];rfl,HB.out⟩
   by_cases h7:op=7
   ·subst h7;by_cases hn:n=1
    ·have q:((n:Int)==1)=true:=by rw[hn];rfl
     have HE2:Hid (zj 7 n true false=false):=by show _=_;rw[hn];rfl
     clear hn;go_wp2;go_ret;exact⟨by rw[HE.out,HE2.out];rfl,HB.out⟩
    ·have q:((n:Int)==1)=false:=z9 hn;have HE2:Hid (zj 7 n true false=false):=by show _=_;simp[zj,show(n==1)=false by rw[yI];exact hn]
     clear hn;go_wp2;go_ret;exact⟨by rw[HE.out,HE2.out];rfl,HB.out⟩
   by_cases h8:op=8
   ·subst h8;by_cases hn:n=1
    ·have q:((n:Int)==1)=true:=by rw[hn];rfl
     have HE2:Hid (zj 8 n true false=false):=by show _=_;rw[hn];rfl
     clear hn;go_wp2;go_ret;exact⟨by rw[HE.out,HE2.out];rfl,HB.out⟩
    ·have q:((n:Int)==1)=false:=z9 hn;have HE2:Hid (zj 8 n true false=false):=by show _=_;simp[zj,show(n==1)=false by rw[yI];exact hn]
     clear hn;go_wp2;go_ret;exact⟨by rw[HE.out,HE2.out];rfl,HB.out⟩
   by_cases h6:op=6
   ·subst h6;by_cases hn:n=2
    ·have q:((n:Int)==2)=true:=by rw[hn];rfl
     have HE2:Hid (zj 6 n true false=false):=by show _=_;rw[hn];rfl
     clear hn;go_wp2;go_ret;exact⟨by rw[HE.out,HE2.out];rfl,HB.out⟩
    ·have q:((n:Int)==2)=false:=z9 hn;have HE2:Hid (zj 6 n true false=false):=by show _=_;simp[zj,show(n==2)=false by rw[yI];exact hn]
     clear hn;go_wp2;go_ret;exact⟨by rw[HE.out,HE2.out];rfl,HB.out⟩
   by_cases h5:op=5
   ·subst h5;by_cases hn:n<=1
    ·have q:¬(1:Int)<n:=by omega
     have HE2:Hid (zj 5 n true false=false):=by show _=_;simp[zj,hn]
     have hn':(n:Int)<=1:=by omega
     clear hn;go_wp2;go_ret;exact⟨by rw[HE.out,HE2.out];rfl,HB.out⟩
    ·have q:(1:Int)<n:=by omega
     have HE2:Hid (zj 5 n true false=false):=by show _=_;first|(simp[zj];done)|(simp[zj];omega)
     clear hn;go_wp2;go_ret;exact⟨by rw[HE.out,HE2.out];rfl,HB.out⟩
   by_cases h3:op=3
   ·subst h3;by_cases hn:n=1
    ·have q:((n:Int)==1)=true:=by rw[hn];rfl
     have HE2:Hid (zj 3 n true false=true):=by show _=_;rw[hn];rfl
     clear hn;go_wp2;go_ret;exact⟨by rw[HE.out,HE2.out];rfl,HB.out⟩
    ·have q:((n:Int)==1)=false:=z9 hn;have HE2:Hid (zj 3 n true false=false):=by show _=_;simp[zj,show(n==1)=false by rw[yI];exact hn]
     clear hn;go_wp2;go_ret;exact⟨by rw[HE.out,HE2.out];rfl,HB.out⟩
   by_cases h4:op=4
   ·subst h4;by_cases hn:n=2
    ·have q:((n:Int)==2)=true:=by rw[hn];rfl
     have HE2:Hid (zj 4 n true false=false):=by show _=_;rw[hn];rfl
     clear hn;go_wp2;go_ret;exact⟨by rw[HE.out,HE2.out];rfl,HB.out⟩
    ·have q:((n:Int)==2)=false:=z9 hn;have HE2:Hid (zj 4 n true false=false):=by show _=_;simp[zj,show(n==2)=false by rw[yI];exact hn]
     clear hn;go_wp2;go_ret;exact⟨by rw[HE.out,HE2.out];rfl,HB.out⟩
   have e1:(op==1)=false:=zI h1;have e2:(op==2)=false:=zI h2;have e3:(op==3)=false:=zI h3;have e4:(op==4)=false:=zI h4;have e5:(op==5)=false:=zI h5;have e6:(op==6)=false:=zI h6;have e7:(op==7)=false:=zI h7;have e8:(op==8)=false:=zI h8;have HE2:Hid (zj op n true false=false):=by show _=_;unfold zj;rw[if_neg (by omega),if_neg h6,if_neg h5,if_neg h3,if_neg h4]
   clear h1 h2 h3 h4 h5 h6 h7 h8;go_wp2;go_ret;exact⟨by rw[HE.out,HE2.out];rfl,HB.out⟩
  ·replace HE:=aQ (HE.out true true hp1 hp2);have q9:((ne:Int)==0)=true:=by rw[zaq];exact hp2
   clear hp1 hp2
   simp only[Bool.and_true,Bool.and_false,Bool.true_and,Bool.false_and]at *
   by_cases h1:op=1
   ·subst h1;by_cases hn:n=1
    ·have q:((n:Int)==1)=true:=by rw[hn];rfl
     have HE2:Hid (zj 1 n true true=true):=by show _=_;rw[hn];rfl
     clear hn;go_wp2;go_ret;exact⟨by rw[HE.out,HE2.out];rfl,HB.out⟩
    ·have q:((n:Int)==1)=false:=z9 hn;have HE2:Hid (zj 1 n true true=false):=by show _=_;simp[zj,show(n==1)=false by rw[yI];exact hn]
     clear hn;go_wp2;go_ret;exact⟨by rw[HE.out,HE2.out];rfl,HB.out⟩
   by_cases h2:op=2
   ·subst h2;by_cases hn:n=1
    ·have q:((n:Int)==1)=true:=by rw[hn];rfl
     have HE2:Hid (zj 2 n true true=true):=by show _=_;rw[hn];rfl
     clear hn;go_wp2;go_ret;exact⟨by rw[HE.out,HE2.out];rfl,HB.out⟩
    ·have q:((n:Int)==1)=false:=z9 hn;have HE2:Hid (zj 2 n true true=false):=by show _=_;simp[zj,show(n==1)=false by rw[yI];exact hn]
     clear hn;go_wp2;go_ret;exact⟨by rw[HE.out,HE2.out];rfl,HB.out⟩
   by_cases h7:op=7
   ·subst h7;by_cases hn:n=1
    ·have q:((n:Int)==1)=true:=by rw[hn];rfl
     have HE2:Hid (zj 7 n true true=true):=by show _=_;rw[hn];rfl
     clear hn;go_wp2;go_ret;exact⟨by rw[HE.out,HE2.out];rfl,HB.out⟩
    ·have q:((n:Int)==1)=false:=z9 hn;have HE2:Hid (zj 7 n true true=false):=by show _=_;simp[zj,show(n==1)=false by rw[yI];exact hn]
     clear hn;go_wp2;go_ret;exact⟨by rw[HE.out,HE2.out];rfl,HB.out⟩
   by_cases h8:op=8
   ·subst h8;by_cases hn:n=1
    ·have q:((n:Int)==1)=true:=by rw[hn];rfl
     have HE2:Hid (zj 8 n true true=true):=by show _=_;rw[hn];rfl
     clear hn;go_wp2;go_ret;exact⟨by rw[HE.out,HE2.out];rfl,HB.out⟩
    ·have q:((n:Int)==1)=false:=z9 hn;have HE2:Hid (zj 8 n true true=false):=by show _=_;simp[zj,show(n==1)=false by rw[yI];exact hn]
     clear hn;go_wp2;go_ret;exact⟨by rw[HE.out,HE2.out];rfl,HB.out⟩
   by_cases h6:op=6
   ·subst h6;by_cases hn:n=2
    ·have q:((n:Int)==2)=true:=by rw[hn];rfl
     have HE2:Hid (zj 6 n true true=true):=by show _=_;rw[hn];rfl
     clear hn;go_wp2;go_ret;exact⟨by rw[HE.out,HE2.out];rfl,HB.out⟩
    ·have q:((n:Int)==2)=false:=z9 hn;have HE2:Hid (zj 6 n true true=false):=by show _=_;simp[zj,show(n==2)=false by rw[yI];exact hn]
     clear hn;go_wp2;go_ret;exact⟨by rw[HE.out,HE2.out];rfl,HB.out⟩
   by_cases h5:op=5
   ·subst h5;by_cases hn:n<=1
    ·have q:¬(1:Int)<n:=by omega
     have HE2:Hid (zj 5 n true true=true):=by show _=_;simp[zj,hn]
     have hn':(n:Int)<=1:=by omega
     clear hn;go_wp2;go_ret;exact⟨by rw[HE.out,HE2.out];rfl,HB.out⟩
    ·have q:(1:Int)<n:=by omega
     have HE2:Hid (zj 5 n true true=false):=by show _=_;first|(simp[zj];done)|(simp[zj];omega)
     clear hn;go_wp2;go_ret;exact⟨by rw[HE.out,HE2.out];rfl,HB.out⟩
   by_cases h3:op=3
   ·subst h3;by_cases hn:n=1
    ·have q:((n:Int)==1)=true:=by rw[hn];rfl
     have HE2:Hid (zj 3 n true true=true):=by show _=_;rw[hn];rfl
     clear hn;go_wp2;go_ret;exact⟨by rw[HE.out,HE2.out];rfl,HB.out⟩
    ·have q:((n:Int)==1)=false:=z9 hn;have HE2:Hid (zj 3 n true true=false):=by show _=_;simp[zj,show(n==1)=false by rw[yI];exact hn]
     clear hn;go_wp2;go_ret;exact⟨by rw[HE.out,HE2.out];rfl,HB.out⟩
   by_cases h4:op=4
   ·subst h4;by_cases hn:n=2
    ·have q:((n:Int)==2)=true:=by rw[hn];rfl
     have HE2:Hid (zj 4 n true true=true):=by show _=_;rw[hn];rfl
     clear hn;go_wp2;go_ret;exact⟨by rw[HE.out,HE2.out];rfl,HB.out⟩
    ·have q:((n:Int)==2)=false:=z9 hn;have HE2:Hid (zj 4 n true true=false):=by show _=_;simp[zj,show(n==2)=false by rw[yI];exact hn]
     clear hn;go_wp2;go_ret;exact⟨by rw[HE.out,HE2.out];rfl,HB.out⟩
   have e1:(op==1)=false:=zI h1;have e2:(op==2)=false:=zI h2;have e3:(op==3)=false:=zI h3;have e4:(op==4)=false:=zI h4;have e5:(op==5)=false:=zI h5;have e6:(op==6)=false:=zI h6;have e7:(op==7)=false:=zI h7;have e8:(op==8)=false:=zI h8;have HE2:Hid (zj op n true true=false):=by show _=_;unfold zj;rw[if_neg (by omega),if_neg h6,if_neg h5,if_neg h3,if_neg h4]
   clear h1 h2 h3 h4 h5 h6 h7 h8;go_wp2;go_ret;exact⟨by rw[HE.out,HE2.out];rfl,HB.out⟩
def ze5{e:Xe}{l:List Xe}{V:Value}(h:XesC w D (e::l) V):∃(kb ko c:Nat) (A0:Option Addr) (c0:Nat),V=.slice (some ⟨kb,ko,none⟩) (l.length+1) c/\l.length+1<=c/\c<=9223372036854775807 /\
  w.rangeAt kb ko (xeC e (.slice A0 e.aX.length c0))/\XeV w D e (.agg (xeC e (.slice A0 e.aX.length c0)).toArray):=by
 cases h with
 | mk _ ks _ hk h1 ht h2=>
  match ks,hk with
  | k0::ks,_=>
   have g0:=h2 0 e k0 rfl rfl;obtain⟨A0,c0,rfl⟩:=zu g0;obtain⟨kb,ko,c,rfl,e1,e2,_,e4⟩:=h1.plain5 (by simp[xesC,xeC]);refine⟨kb,ko,c,A0,c0,rfl,e1,by unfold maxLen at e2;omega,fun j v hv=>e4 j v ?_,⟨_,rfl,ht e (by simp),g0⟩⟩;have hj:j<5:=by
    have:=(vm.1 hv).1;simpa[xeC]using this
   simp only[xesC,List.zipWith_cons_cons,List.flatten_cons];rw[aF (by simpa[xeC]using hj)];exact hv
def letC(op:Int)(aZ:List Nat)(e:Xe)(A2 A3:Option Addr)(nb ne c2 c3:Nat)(aW:Int)(B cB g b:Nat)(fs:List Xf)(res:Int)(sc:zX)(w:World)(V:Value)
  (hc:Cx w B cB g fs res) (hs:Sco w b sc) (ht:Byn aZ) (hk:XesC w (Lo B) [e] V) :
  Calls prog 244 #[.pointer (some ⟨cB,0,none⟩),.agg #[.int .i64 op,.string (strN aZ),V,.slice A2 nb c2,.slice A3 ne c3,.int .i64 aW],.map (some b)] w fun x w'=>FOut (letR sc aZ aW (e.aW,qk (zh fs) sc e)).1 x w'/\Sco w' b (letR sc aZ aW (e.aW,qk (zh fs) sc e)).2/\w.grownBy w' (some b):=by
 have hB:B<=w.heap.size:=by have:=hc.lt;have:=hc.hc;omega
 obtain⟨kb,ko,c,A0,c0,rfl,hn1,hn2,hr,hv⟩:=ze5 hk
 simp only[List.length_nil,Nat.zero_add]at *
 have BA:=aQ (za w (xsO op aZ (.slice (some ⟨kb,ko,none⟩) 1 c) (.slice A2 nb c2) (.slice A3 ne c3) aW));obtain⟨z0,z1,z2,z3,z4,z5⟩:=qA w op aZ (.slice (some ⟨kb,ko,none⟩) 1 c) (.slice A2 nb c2) (.slice A3 ne c3) aW
 have K0:Hid (∀w' fv,Below w.heap.size w w'->FitV w' fv (fun t=>t != 0)->Calls prog 273 #[.pointer (some ⟨cB,0,none⟩),.agg (xeC e (.slice A0 e.aX.length c0)).toArray,.map (some b),fv] w' fun x w''=>TOut (zM (fun t=>t != 0) (e.aW,qk (zh fs) sc e)) x w''/\Below w'.heap.size w' w''):=
  fun w' fv hb hf=>vQ e (ec e) B cB g b fs res sc w' _ fv _ (hc.below hb) (hs.below hb) (hv.same (zk hb hB)) hf
 have R0:=aQ (zag hr BA.out);have HS:=aQ hs;have HT:=aQ ht;have HM:Hid (∀c p,zM (fun t=>t != 0) (e.aW,qk (zh fs) sc e)=.bad c p->letR sc aZ aW (e.aW,qk (zh fs) sc e)=(some (c,p),sc)):=fun c p h=>by simp[letR,h]
 have HM2:Hid (∀t,zM (fun t=>t != 0) (e.aW,qk (zh fs) sc e)=.ok t->letR sc aZ aW (e.aW,qk (zh fs) sc e)=zY sc aZ (t,false) aW):=fun t h=>by simp[letR,h]
 generalize letR sc aZ aW (e.aW,qk (zh fs) sc e)=m at *
 generalize zM (fun t=>t != 0) (e.aW,qk (zh fs) sc e)=r at *
 unfold xeC at *
 clear hc hs hk ht hr hv;go_enter func244,ntmps244;go_upto_region 1 with fail
 have L0:Hid (w.heap.size<(w.alloc (xsO op aZ (.slice (some ⟨kb,ko,none⟩) 1 c) (.slice A2 nb c2) (.slice A3 ne c3) aW)).heap.size):=by show _<_;simp
 generalize w.alloc (.cells #[.int .i64 op,.string (strN aZ),.slice (some ⟨kb,ko,none⟩) 1 c,.slice A2 nb c2,.slice A3 ne c3,.int .i64 aW] 145)=w0 at *
 obtain⟨k0,k1,k2,k3,k4⟩:=zmh R0.out
 go_wp2_with fail
 refine(K0.out _ _ BA.out (zdc _ _)).mono ?_;rintro x w1 ⟨⟨v,rfl,hv⟩,b1⟩;have y1:=zb z1 b1;have y5:=zb z5 b1;have HV:=aQ hv;have B1:=aQ (zd BA.out b1 BA.out.size);have HS1:=aQ (HS.out.below B1.out);clear z0 z1 z2 z3 z4 z5 b1 k0 k1 k2 k3 k4 R0 K0 HS;cases r with
 | bad cc pp=>
  obtain⟨bf,rfl,_⟩:=hv;have HE:Hid (m=(some (cc,pp),sc)):=HM.out cc pp rfl;go_wp2;go_ret;exact⟨⟨_,rfl,by rw[HE.out];exact HV.out⟩,by rw[HE.out];exact HS1.out,zT B1.out _⟩
 | ok t=>
  obtain rfl:v=.pointer none:=hv;have HE:Hid (m=zY sc aZ (t,false) aW):=HM2.out t rfl;have KD:=aQ (zc3 b sc aZ HT.out t false aW w1 HS1.out)
  simp only[Rt.val]at *
  (go_wp2_with fail);refine KD.out.mono ?_;rintro x w2 ⟨⟨v,rfl,hv⟩,hs2,hg⟩;have HV2:=aQ hv;have HS2:=aQ hs2;have HG:=aQ (zQ (zT B1.out (some b)) hg);clear hv hs2 hg
  go_wp2;go_ret;exact⟨⟨_,rfl,by rw[HE.out];exact HV2.out⟩,by rw[HE.out];exact HS2.out,HG.out⟩
def setC(op:Int)(aZ:List Nat)(l:List Xe)(A1 A2 A3:Option Addr)(nb ne c1 c2 c3:Nat)(aW:Int)(B cB g b:Nat)(fs:List Xf)(res:Int)(sc:zX)(w:World)
  (hc:Cx w B cB g fs res) (hs:Sco w b sc) (ht:Byn aZ) (hk:XesC w (Lo B) l (.slice A1 l.length c1)) :
  Calls prog 245 #[.pointer (some ⟨cB,0,none⟩),.agg #[.int .i64 op,.string (strN aZ),.slice A1 l.length c1,.slice A2 nb c2,.slice A3 ne c3,.int .i64 aW],.map (some b)] w fun x w'=>FOut (setR sc aZ aW (zE (zh fs) sc l)) x w'/\Below w.heap.size w w':=by
 have hB:B<=w.heap.size:=by have:=hc.lt;have:=hc.hc;omega
 have BA:=aQ (za w (xsO op aZ (.slice A1 l.length c1) (.slice A2 nb c2) (.slice A3 ne c3) aW));obtain⟨z0,z1,z2,z3,z4,z5⟩:=qA w op aZ (.slice A1 l.length c1) (.slice A2 nb c2) (.slice A3 ne c3) aW
 have HKO:Hid (∀w' fv fits,Below w.heap.size w w'->FitV w' fv fits->Calls prog 250 #[.pointer (some ⟨cB,0,none⟩),.slice A1 l.length c1,.map (some b),fv] w' fun x w''=>FOut (allR fits (zE (zh fs) sc l)) x w''/\Below w'.heap.size w' w''):=
  fun w' fv fits hb hf=>kn l (fun e _=>ec e) B cB g b fs res sc w' _ fv fits (hc.below hb) (hs.below hb) (hk.same (zk hb hB)) hf
 have HS:=aQ (hs.below BA.out);clear hc hk
 generalize zE (zh fs) sc l=rs at *
 go_enter func245,ntmps245;go_upto_region 1 with fail
 generalize w.alloc (.cells #[.int .i64 op,.string (strN aZ),.slice A1 l.length c1,.slice A2 nb c2,.slice A3 ne c3,.int .i64 aW] 145)=w0 at *
 have hrun:=vh HS.out ht;cases hsk:seek sc aZ with
 | none=>
  rw[hsk]at hrun;simp only[Option.map_none,Option.getD_none,Option.isSome_none]at hrun;have HE:Hid (setR sc aZ aW rs=some (52,aW)):=by show _=_;simp[setR,hsk]
  clear hsk HS hs HKO;(go_upto_region 3 with fail);have B2:=za w0 (.cells #[.int .i64 0,.bool false] 270);have z5':=zb z5 B2;have HB:=aQ (zd BA.out B2 BA.out.size);clear z0 z1 z2 z3 z4 z5 hrun B2 BA
  generalize w0.alloc (.cells #[.int .i64 0,.bool false] 270)=w1 at *
  go_wp2;go_ret;exact⟨⟨_,rfl,by rw[HE.out];exact xK w1 52 aW⟩,HB.out.alloc HB.out.size _⟩
 | some d=>
  obtain⟨dk,dl⟩:=d;rw[hsk]at hrun;simp only[Option.map_some,Option.getD_some,Option.isSome_some]at hrun;cases dl with
  | true=>
   have HE:Hid (setR sc aZ aW rs=some (51,aW)):=by show _=_;simp[setR,hsk]
   clear hsk HS hs HKO;(go_upto_region 4 with fail);have B2:=za w0 (.cells #[.int .i64 dk,.bool true] 270);have z5':=zb z5 B2;have x1:(w0.alloc (.cells #[.int .i64 dk,.bool true] 270)).cell? ⟨w0.heap.size,1,none⟩=some (.bool true):=by rw[wy _ _ _ _ _ _ (ye w0 _)];rfl
   have HB:=aQ (zd BA.out B2 BA.out.size);clear z0 z1 z2 z3 z4 z5 hrun B2 BA
   generalize w0.alloc (.cells #[.int .i64 dk,.bool true] 270)=w1 at *
   generalize w0.heap.size=b0 at *
   go_wp2;go_ret;exact⟨⟨_,rfl,by rw[HE.out];exact xK w1 51 aW⟩,HB.out.alloc HB.out.size _⟩
  | false=>
   have HE:Hid (setR sc aZ aW rs=allR (fun x=>x==dk) rs):=by show _=_;simp[setR,hsk]
   clear hsk HS hs;(go_upto_region 4 with fail);have B2:=za w0 (.cells #[.int .i64 dk,.bool false] 270);have z2':=zb z2 B2;have x0:(w0.alloc (.cells #[.int .i64 dk,.bool false] 270)).cell? ⟨w0.heap.size,0,none⟩=some (.int .i64 dk):=by rw[wy _ _ _ _ _ _ (ye w0 _)];rfl
   have x1:(w0.alloc (.cells #[.int .i64 dk,.bool false] 270)).cell? ⟨w0.heap.size,1,none⟩=some (.bool false):=by rw[wy _ _ _ _ _ _ (ye w0 _)];rfl
   have HB:=aQ (zd BA.out B2 BA.out.size);clear z0 z1 z2 z3 z4 z5 hrun B2 BA
   generalize w0.alloc (.cells #[.int .i64 dk,.bool false] 270)=w1 at *
   generalize w0.heap.size=b0 at *
   (go_upto_region 6 with fail);have HQ:Hid (∀w',Below w1.heap.size w1 w'->w'.cell? ⟨b0,0,none⟩=some (.int .i64 dk)/\w'.cell? ⟨w.heap.size,2,none⟩=some (.slice A1 l.length c1)):=fun w' hb=>⟨zb x0 hb,zb z2' hb⟩;clear x0 x1 z2';have hbl:Below w1.heap.size w1 w1.drew:=(Below.refl _ _).drew
   go_region_held3(fun w'=>w'.cell? ⟨b0,0,none⟩=some (.int .i64 dk)/\w'.cell? ⟨w.heap.size,2,none⟩=some (.slice A1 l.length c1))
    (with_reducible exact HQ.out _ hbl)
    (first|(go_at_call 251;refine(isC _ _).mono ?_;rintro e wn ⟨v,rfl,hf,hbn⟩;have HF:=aQ hf.less;obtain⟨fn,caps,D,rfl,_⟩:=hf;replace hbl:=zd hbl hbn hbl.size)|(go_at_call 250;refine(HKO.out _ _ _ (zd HB.out hbl HB.out.size) HF.out).mono ?_;rintro e wn2 ⟨⟨v,rfl,hv⟩,hbn2⟩;replace hbl:=zd hbl hbn2 hbl.size))
   have HV:=aQ hv;have HB3:=aQ (zd HB.out hbl HB.out.size);clear hbn hbn2 hbl hv;go_wp2;go_ret;exact⟨⟨_,rfl,by rw[HE.out];exact HV.out⟩,HB3.out⟩
def zwc(t:Int)(bc cB:Nat)(res:Int)(w:World)(h1:w.cell? ⟨bc,0,none⟩=some (.pointer (some ⟨cB,0,none⟩)))(h2:w.cell? ⟨cB,1,none⟩=some (.int .i64 res)):Calls prog 276 #[.int .i64 t,.pointer (some ⟨bc,0,none⟩)] w fun e w'=>e=.returned (.bool (t != 0&&t==res))/\w'=w:=by
 by_cases h0:t=0
 ·have q:(t != 0)=false:=by rw[h0];rfl
  have HE:Hid ((t != 0&&t==res)=false):=by show _=_;rw[q];rfl
  have KV:=aQ (zdb t w);rw[q]at KV;clear h0 q;go_enter func276,ntmps276
  (go_wp2_with fail);refine KV.out.mono ?_;rintro e w1 ⟨rfl,rfl⟩
  go_wp2;go_ret;exact⟨by rw[HE.out];rfl,rfl⟩
 ·have q:(t != 0)=true:=by rw[bne_iff_ne];exact h0
  have HE:Hid ((t != 0&&t==res)=(t==res)):=by show _=_;rw[q];rfl
  have KV:=aQ (zdb t w);rw[q]at KV;clear h0 q;go_enter func276,ntmps276
  (go_wp2_with fail);refine KV.out.mono ?_;rintro e w1 ⟨rfl,rfl⟩
  go_wp2;go_ret;exact⟨by rw[HE.out];rfl,rfl⟩
def zus{bc cB:Nat}{res:Int}(h1:w.cell? ⟨bc,0,none⟩=some (.pointer (some ⟨cB,0,none⟩)))(h2:w.cell? ⟨cB,1,none⟩=some (.int .i64 res)):FitV w (.func (.func 276) #[] #[.pointer (some ⟨bc,0,none⟩)]) (fun t=>t != 0&&t==res):=
 ⟨276,_,fun k=>k=bc\/k=cB,rfl,by intro args w;simp,fun k hk=>⟨aK _,by rcases hk with rfl|rfl;exact wW w _ h1;exact wW w _ h2⟩,
  fun t w1 hs _=>(zwc t bc cB res w1 (by rw[yp (hs bc (.inl rfl))];exact h1) (by rw[yp (hs cB (.inr rfl))];exact h2)).mono fun e w' ⟨g1,g2⟩=>⟨g1,by subst g2;exact Below.refl _ _⟩⟩
def do1C(t:Int)(bc:Nat)(x:Bool)(w:World)(h1:w.cell? ⟨bc,0,none⟩=some (.bool x)):Calls prog 277 #[.int .i64 t,.pointer (some ⟨bc,0,none⟩)] w fun e w'=>e=.returned (.bool x)/\w'=w:=by
 go_enter func277,ntmps277;go_wp2;go_ret;exact⟨rfl,rfl⟩
def do1V{bc:Nat}{x:Bool}(h1:w.cell? ⟨bc,0,none⟩=some (.bool x)):FitV w (.func (.func 277) #[] #[.pointer (some ⟨bc,0,none⟩)]) (fun _=>x):=
 ⟨277,_,fun k=>k=bc,rfl,by intro args w;simp,fun k hk=>⟨aK _,by subst hk;exact wW w _ h1⟩,
  fun t w1 hs _=>(do1C t bc x w1 (by rw[yp (hs bc rfl)];exact h1)).mono fun e w' ⟨g1,g2⟩=>⟨g1,by subst g2;exact Below.refl _ _⟩⟩
def endC(op:Int)(aZ:List Nat)(l:List Xe)(A1 A2 A3:Option Addr)(nb ne c1 c2 c3:Nat)(aW:Int)(B cB g b:Nat)(fs:List Xf)(res:Int)(sc:zX)(w:World)
  (hc:Cx w B cB g fs res) (hs:Sco w b sc) (ht:Byn aZ) (hk:XesC w (Lo B) l (.slice A1 l.length c1)) :
  Calls prog 248 #[.pointer (some ⟨cB,0,none⟩),.agg #[.int .i64 op,.string (strN aZ),.slice A1 l.length c1,.slice A2 nb c2,.slice A3 ne c3,.int .i64 aW],.map (some b)] w fun x w'=>FOut (endR res aW (zE (zh fs) sc l)) x w'/\Below w.heap.size w w':=by
 have hB:B<=w.heap.size:=by have:=hc.lt;have:=hc.hc;omega
 have BA1:=za w (.cells #[.pointer (some ⟨cB,0,none⟩)] 241);have BA2:=za (w.alloc (.cells #[.pointer (some ⟨cB,0,none⟩)] 241)) (xsO op aZ (.slice A1 l.length c1) (.slice A2 nb c2) (.slice A3 ne c3) aW);have BA:=aQ (zd BA1 BA2 BA1.size);have xs:=qA (w.alloc (.cells #[.pointer (some ⟨cB,0,none⟩)] 241)) op aZ (.slice A1 l.length c1) (.slice A2 nb c2) (.slice A3 ne c3) aW;rw[show(w.alloc (.cells #[.pointer (some ⟨cB,0,none⟩)] 241)).heap.size=w.heap.size+1 by simp]at xs;obtain⟨z0,z1,z2,z3,z4,z5⟩:=xs;have x0:=zb (show(w.alloc (.cells #[.pointer (some ⟨cB,0,none⟩)] 241)).cell? ⟨w.heap.size,0,none⟩=some (.pointer (some ⟨cB,0,none⟩)) by rw[wy _ _ _ _ _ _ (ye w _)];rfl) BA2;have k1:=zb (zb hc.cells.2 BA1) BA2
 have HKO:Hid (∀w' fv fits,Below w.heap.size w w'->FitV w' fv fits->Calls prog 250 #[.pointer (some ⟨cB,0,none⟩),.slice A1 l.length c1,.map (some b),fv] w' fun x w''=>FOut (allR fits (zE (zh fs) sc l)) x w''/\Below w'.heap.size w' w''):=
  fun w' fv fits hb hf=>kn l (fun e _=>ec e) B cB g b fs res sc w' _ fv fits (hc.below hb) (hs.below hb) (hk.same (zk hb hB)) hf
 have HLen:Hid ((zE (zh fs) sc l).length=l.length):=qf _ _ _
 generalize zE (zh fs) sc l=rs at *
 have hmf:=hmf5;clear hc hs hk ht BA1 BA2;go_enter func248,ntmps248;go_upto_region 1 with fail
 generalize(w.alloc (.cells #[.pointer (some ⟨cB,0,none⟩)] 241)).alloc (.cells #[.int .i64 op,.string (strN aZ),.slice A1 l.length c1,.slice A2 nb c2,.slice A3 ne c3,.int .i64 aW] 145)=w0 at *
 by_cases hn:l.length=0
 ·have q:((l.length:Int)==0)=true:=by rw[hn];rfl
  by_cases hr:res=0
  ·have q2:(res != 0)=false:=by rw[hr];rfl
   have HE:Hid (endR res aW rs=allR (fun t=>t != 0&&t==res) rs):=by show _=_;unfold endR;rw[if_neg (by omega)]
   have HR:=aQ hr;clear hn hr;have HF:=aQ (zus x0 k1)
   (go_wp2_with fail);refine(HKO.out _ _ _ BA.out HF.out).mono ?_;rintro e w1 ⟨⟨v,rfl,hv⟩,b1⟩;have HV:=aQ hv;have B1:=aQ (zd BA.out b1 BA.out.size);clear hv b1
   go_wp2;go_ret;exact⟨⟨_,rfl,by rw[HE.out];exact HV.out⟩,B1.out⟩
  ·have q2:(res != 0)=true:=by rw[bne_iff_ne];exact hr
   have HE:Hid (endR res aW rs=some (51,aW)):=by show _=_;unfold endR;rw[if_pos ⟨HLen.out.trans hn,hr⟩]
   clear hn hr HKO;go_wp2;go_ret;exact⟨⟨_,rfl,by rw[HE.out];exact xK w0 51 aW⟩,BA.out.alloc BA.out.size _⟩
 ·have q:((l.length:Int)==0)=false:=z9 hn;have HE:Hid (endR res aW rs=allR (fun t=>t != 0&&t==res) rs):=by show _=_;unfold endR;rw[if_neg (by rw[HLen.out];omega)]
  clear hn;have HF:=aQ (zus x0 k1)
  (go_wp2_with fail);refine(HKO.out _ _ _ BA.out HF.out).mono ?_;rintro e w1 ⟨⟨v,rfl,hv⟩,b1⟩;have HV:=aQ hv;have B1:=aQ (zd BA.out b1 BA.out.size);clear hv b1
  go_wp2;go_ret;exact⟨⟨_,rfl,by rw[HE.out];exact HV.out⟩,B1.out⟩
def doC(op:Int)(aZ:List Nat)(e:Xe)(A2 A3:Option Addr)(nb ne c2 c3:Nat)(aW:Int)(B cB g b:Nat)(fs:List Xf)(res:Int)(sc:zX)(w:World)(V:Value)
  (hc:Cx w B cB g fs res) (hs:Sco w b sc) (hk:XesC w (Lo B) [e] V) :
  Calls prog 249 #[.pointer (some ⟨cB,0,none⟩),.agg #[.int .i64 op,.string (strN aZ),V,.slice A2 nb c2,.slice A3 ne c3,.int .i64 aW],.map (some b)] w fun x w'=>FOut (allR (fun _=>e.op==5) (zE (zh fs) sc [e])) x w'/\Below w.heap.size w w':=by
 have hB:B<=w.heap.size:=by have:=hc.lt;have:=hc.hc;omega
 have hk0:=hk;obtain⟨kb,ko,c,A0,c0,rfl,hn1,hn2,hr,hv⟩:=ze5 hk
 simp only[List.length_nil,Nat.zero_add]at *
 have BA1:=za w (xsO op aZ (.slice (some ⟨kb,ko,none⟩) 1 c) (.slice A2 nb c2) (.slice A3 ne c3) aW);have BA:=aQ BA1;obtain⟨z0,z1,z2,z3,z4,z5⟩:=qA w op aZ (.slice (some ⟨kb,ko,none⟩) 1 c) (.slice A2 nb c2) (.slice A3 ne c3) aW;have k0:(w.alloc (xsO op aZ (.slice (some ⟨kb,ko,none⟩) 1 c) (.slice A2 nb c2) (.slice A3 ne c3) aW)).cell? ⟨kb,ko,none⟩=some (.int .i64 e.op):=zb (hr 0 _ rfl) BA1
 have HKO:Hid (∀w' fv fits,Below w.heap.size w w'->FitV w' fv fits->Calls prog 250 #[.pointer (some ⟨cB,0,none⟩),.slice (some ⟨kb,ko,none⟩) 1 c,.map (some b),fv] w' fun x w''=>FOut (allR fits (zE (zh fs) sc [e])) x w''/\Below w'.heap.size w' w''):=
  fun w' fv fits hb hf=>kn [e] (fun e _=>ec e) B cB g b fs res sc w' _ fv fits (hc.below hb) (hs.below hb) (hk0.same (zk hb hB)) hf
 generalize zE (zh fs) sc [e]=rs at *
 have hmf:=hmf5;clear hc hs hk hk0 hr hv BA1;go_enter func249,ntmps249;go_upto_region 1 with fail
 generalize w.alloc (.cells #[.int .i64 op,.string (strN aZ),.slice (some ⟨kb,ko,none⟩) 1 c,.slice A2 nb c2,.slice A3 ne c3,.int .i64 aW] 145)=w0 at *
 go_upto_region 2 with fail
 have B2:=za w0 (.cells #[.bool (e.op==5)] 4);have z2':=zb z2 B2;have HF:=aQ (do1V (show(w0.alloc (.cells #[.bool (e.op==5)] 4)).cell? ⟨w0.heap.size,0,none⟩=some (.bool (e.op==5)) by rw[wy _ _ _ _ _ _ (ye w0 _)];rfl));have HB:=aQ (zd BA.out B2 BA.out.size);clear z0 z1 z2 z3 z4 z5 k0 B2
 generalize w0.alloc (.cells #[.bool (e.op==5)] 4)=w1 at *
 go_wp2_with fail
 refine(HKO.out _ _ _ HB.out HF.out).mono ?_;rintro x w2 ⟨⟨v,rfl,hv⟩,b1⟩;have HV:=aQ hv;have B1:=aQ (zd HB.out b1 HB.out.size);clear hv b1;go_wp2;go_ret;exact⟨⟨_,rfl,HV.out⟩,B1.out⟩
def zt{l:List Xs}{V:Value}(h:XssC w D l V):∃A c,V=.slice A l.length c:=by
 cases h with
 | mk _ ks _ hk h1 ht he hb hf=>exact h1.slice5
def km{b B0:Nat}(h0:Below B0 w0 w)(hg:w.grownBy w' (some b))(hb:B0<=b)(hB:B0<=w.heap.size):Below B0 w0 w':=
 h0.trans ⟨hg.os,hg.tape,hg.output,hg.size,fun k hk=>hg.block k (by omega) (by intro e;injection e with e;omega)⟩
def SC(s:Xs):Prop:=∀(B cB g b:Nat) (fs:List Xf) (res:Int) (sc:zX) (w:World) (v:Value),Cx w B cB g fs res->Sco w b sc->B<=b->cB≠b->g≠b->XsV w (Lo B) s v ->
 Calls prog 213 #[.pointer (some ⟨cB,0,none⟩),v,.map (some b)] w fun x w'=>FOut (stmM (zh fs) res s sc).1 x w'/\((stmM (zh fs) res s sc).1=none->Sco w' b (stmM (zh fs) res s sc).2)/\w.grownBy w' (some b)
def zhd:∀(l:List Xs) (ks:List qM),xssC l ks=(l.zip ks).flatMap fun a=>xsC a.1 a.2.e a.2.b a.2.f
 | [],_=>by simp[xssC]
 | _::_,[]=>by simp[xssC]
 | e::l,k::ks=>by
  have:=zhd l ks;unfold xssC at this⊢;rw[List.zipWith_cons_cons,List.flatten_cons,this,List.zip_cons_cons,List.flatMap_cons]
def zgx(T:Tab5)(res:Int):zX->Xs×qM->Er×zX:=fun sc a=>stmM T res a.1 sc
def zbe(T:Tab5)(res:Int):∀(l:List Xs) (ks:List qM) (sc:zX),ks.length=l.length->runL (zgx T res) sc (l.zip ks)=z7 T res l sc
 | [],[],_,_=>by simp[runL,z7]
 | [],k::ks,_,h=>by simp at h
 | e::l,[],_,h=>by simp at h
 | e::l,k::ks,sc,h=>by
  have ih:=fun sc'=>zbe T res l ks sc' (by simpa using h);rw[List.zip_cons_cons];unfold runL z7;rcases hm:stmM T res e sc with⟨_|er,sc'⟩
  ·have h1:zgx T res sc (e,k)=(none,sc'):=hm;rw[h1];exact ih sc'
  ·have h1:zgx T res sc (e,k)=(some er,sc'):=hm;rw[h1]
structure SsK(w:World)(D:Nat->Prop)(l:List Xs)(ks:List qM)(V:Value):Prop where
 len:ks.length=l.length
 row:RowF w D l.length (xssC l ks) V
 txt:∀s∈l,Byn s.aZ
 e:∀(i:Nat) (s:Xs) (k:qM),l[i]? =some s->ks[i]? =some k->XesC w D s.aY k.e
 b:∀(i:Nat) (s:Xs) (k:qM),l[i]? =some s->ks[i]? =some k->XssC w D s.body k.b
 f:∀(i:Nat) (s:Xs) (k:qM),l[i]? =some s->ks[i]? =some k->XssC w D s.els k.f
def XssC.ks{l:List Xs}{V:Value}(h:XssC w D l V):∃ks,SsK w D l ks V:=by
 cases h with
 | mk _ ks _ hk h1 ht he hb hf=>exact⟨ks,hk,h1,ht,he,hb,hf⟩
def SsK.same{l:List Xs}{ks:List qM}{V:Value}(h:SsK w D l ks V)(hs:Same D w w'):SsK w' D l ks V:=
 ⟨h.len,h.row.same hs,h.txt,fun i s k a b=>(h.e i s k a b).same hs,fun i s k a b=>(h.b i s k a b).same hs,fun i s k a b=>(h.f i s k a b).same hs⟩
structure BlkI(B cB g b:Nat)(fs:List Xf)(res:Int)(b1 b2:Nat)(l:List Xs)(ks:List qM)(V:Value)(sc:zX)(w:World):Prop where
 cx:Cx w B cB g fs res
 sco:Sco w b sc
 c1:w.cell? ⟨b1,0,none⟩=some (.pointer (some ⟨cB,0,none⟩))
 c2:w.cell? ⟨b2,0,none⟩=some (.map (some b))
 st:SsK w (Lo B) l ks V
 n1:b≠b1
 n2:b≠b2
 n3:B<=b
 n4:cB≠b
 n5:g≠b
def BlkI.below{B cB g b:Nat}{fs:List Xf}{res:Int}{l:List Xs}{ks:List qM}{V:Value}{sc:zX}(h:BlkI B cB g b fs res b1 b2 l ks V sc w)(hb:Below w.heap.size w w'):BlkI B cB g b fs res b1 b2 l ks V sc w':=
 ⟨h.cx.below hb,h.sco.below hb,zb h.c1 hb,zb h.c2 hb,h.st.same (zk hb (by have:=h.cx.lt;have:=h.cx.hc;omega)),h.n1,h.n2,h.n3,h.n4,h.n5⟩
def qp{b:Nat}{a:Addr}{v:Value}(h:w.cell? a=some v)(hg:w.grownBy w' (some b))(hn:b≠a.block):w'.cell? a=some v:=by
 rw[yp (hg.block a.block (wW w _ h) (by intro e;injection e with e;exact hn e.symm))];exact h
def BlkI.moves{B cB g b:Nat}{fs:List Xf}{res:Int}{l:List Xs}{ks:List qM}{V:Value}{sc sc':zX}(h:BlkI B cB g b fs res b1 b2 l ks V sc w)(hg:w.grownBy w' (some b))(hs:Sco w' b sc'):BlkI B cB g b fs res b1 b2 l ks V sc' w':=
 ⟨h.cx.moves hg h.n4 h.n5 h.n3,hs,qp h.c1 hg h.n1,qp h.c2 hg h.n2,h.st.same fun k hk=>hg.block k (by have:=h.cx.lt;have:=h.cx.hc;unfold Lo at hk;omega) (by intro e;injection e with e;have:=h.n3;unfold Lo at hk;omega),h.n1,h.n2,h.n3,h.n4,h.n5⟩
def zpq(s:Xs)(hS:SC s)(B cB g b:Nat)(fs:List Xf)(res:Int)(sc:zX)(w:World)(A1 A2 A3:Option Addr)(c1 c2 c3:Nat)(b1 b2:Nat)
  (hc:Cx w B cB g fs res) (hs:Sco w b sc) (n3:B<=b) (n4:cB≠b) (n5:g≠b) (hv:XsV w (Lo B) s (.agg (xsC s (.slice A1 s.aY.length c1) (.slice A2 s.body.length c2) (.slice A3 s.els.length c3)).toArray))
  (h1:w.cell? ⟨b1,0,none⟩=some (.pointer (some ⟨cB,0,none⟩))) (h2:w.cell? ⟨b2,0,none⟩=some (.map (some b))) :
  Calls prog 212 #[.agg (xsC s (.slice A1 s.aY.length c1) (.slice A2 s.body.length c2) (.slice A3 s.els.length c3)).toArray,.pointer (some ⟨b1,0,none⟩),.pointer (some ⟨b2,0,none⟩)] w fun x w'=>FOut (stmM (zh fs) res s sc).1 x w'/\((stmM (zh fs) res s sc).1=none->Sco w' b (stmM (zh fs) res s sc).2)/\w.grownBy w' (some b):=by
 have hB:B<=w.heap.size:=by have:=hc.lt;have:=hc.hc;omega
 have BA:=aQ (za w (xsO s.op s.aZ (.slice A1 s.aY.length c1) (.slice A2 s.body.length c2) (.slice A3 s.els.length c3) s.aW));have HK:=aQ (hS B cB g b fs res sc _ _ (hc.below BA.out) (hs.below BA.out) n3 n4 n5 (hv.same (zk BA.out hB)));obtain⟨z0,z1,z2,z3,z4,z5⟩:=qA w s.op s.aZ (.slice A1 s.aY.length c1) (.slice A2 s.body.length c2) (.slice A3 s.els.length c3) s.aW;have g1:=zb h1 BA.out;have g2:=zb h2 BA.out
 generalize stmM (zh fs) res s sc=m at *
 unfold xsC at *
 clear hc hs hv hS h1 h2 n3 n4 n5;go_enter func212,ntmps212;go_upto_region 1 with fail
 generalize w.alloc (.cells #[.int .i64 s.op,.string (strN s.aZ),.slice A1 s.aY.length c1,.slice A2 s.body.length c2,.slice A3 s.els.length c3,.int .i64 s.aW] 145)=w0 at *
 go_wp2_with fail
 with_reducible refine HK.out.mono ?_
 rintro x w1⟨⟨vf,rfl,hvf⟩,hn,hg⟩;have HV:=aQ hvf;have HN:=aQ hn;have HG:=aQ (zQ (zT BA.out (some b)) hg);clear hvf hn hg HK g1 g2 z0 z1 z2 z3 z4 z5;go_wp2;go_ret;exact⟨⟨_,rfl,HV.out⟩,HN.out,HG.out⟩
def zny(l:List Xs)(hS:∀s∈l,SC s)(B cB g b:Nat)(fs:List Xf)(res:Int)(b1 b2:Nat)(ks:List qM)(V:Value)(sc:zX)(w:World)(h:BlkI B cB g b fs res b1 b2 l ks V sc w):Calls prog 211 #[V,.func (.func 212) #[] #[.pointer (some ⟨b1,0,none⟩),.pointer (some ⟨b2,0,none⟩)]] w fun x w'=>FOut (z7 (zh fs) res l sc).1 x w'/\((z7 (zh fs) res l sc).1=none->Sco w' b (z7 (zh fs) res l sc).2)/\w.grownBy w' (some b):=by
 have hk:=h.st.len;have hz:(l.zip ks).length=l.length:=by rw[List.length_zip];omega
 rw[<- zbe (zh fs) res l ks sc hk]
 refine(zt5 (zgx (zh fs) res) (fun a=>.int .i64 a.1.op) (fun a=>.string (strN a.1.aZ)) (fun a=>a.2.e) (fun a=>a.2.b) (fun a=>a.2.f) (fun a=>.int .i64 a.1.aW)
  (fun sc w=>BlkI B cB g b fs res b1 b2 l ks V sc w) (some b) (l.zip ks) V B 212 #[.pointer (some ⟨b1,0,none⟩),.pointer (some ⟨b2,0,none⟩)] (by intro args w;simp)
  (fun _ _ _ h hb=>h.below hb) (fun _ w h=>?_) ?_ ?_ sc w h).mono ?_
 ·rw[hz];have:=h.st.row;rw[zhd]at this;exact this
 ·intro a ha u hu;obtain⟨i,g1,g2⟩:=jm ha;obtain⟨A1,c1,e1⟩:=zu (h.st.e i a.1 a.2 g1 g2);obtain⟨A2,c2,e2⟩:=zt (h.st.b i a.1 a.2 g1 g2);obtain⟨A3,c3,e3⟩:=zt (h.st.f i a.1 a.2 g1 g2);simp at hu;rcases hu with rfl|rfl|rfl|rfl|rfl|rfl<;>first|rfl|(rw[e1];rfl)|(rw[e2];rfl)|(rw[e3];rfl)
 ·intro sc1 a w1 ha h1;obtain⟨i,g1,g2⟩:=jm ha;have x1:=h1.st.e i a.1 a.2 g1 g2;have x2:=h1.st.b i a.1 a.2 g1 g2;have x3:=h1.st.f i a.1 a.2 g1 g2;obtain⟨A1,c1,e1⟩:=zu x1;obtain⟨A2,c2,e2⟩:=zt x2;obtain⟨A3,c3,e3⟩:=zt x3;rw[e1,e2,e3];rw[e1]at x1;rw[e2]at x2;rw[e3]at x3;refine(zpq a.1 (hS _ (wM g1)) B cB g b fs res sc1 w1 A1 A2 A3 c1 c2 c3 b1 b2 h1.cx h1.sco h1.n3 h1.n4 h1.n5 ⟨⟨_,_,_⟩,rfl,h1.st.txt _ (wM g1),x1,x2,x3⟩ h1.c1 h1.c2).mono ?_;rintro e w2 ⟨ho,hn,hg⟩;exact⟨ho,fun hh=>h1.moves hg (hn hh),hg⟩
 ·rintro e w' ⟨ho,hn,hg⟩;exact⟨ho,fun hh=>(hn hh).sco,hg⟩
def zdl(l:List Xs)(hS:∀s∈l,SC s)(B cB g b:Nat)(fs:List Xf)(res:Int)(sc:zX)(w:World)(V:Value)
  (hc:Cx w B cB g fs res) (hs:Sco w b sc) (n3:B<=b) (n4:cB≠b) (n5:g≠b) (hv:XssC w (Lo B) l V) :
  Calls prog 174 #[.pointer (some ⟨cB,0,none⟩),V,.map (some b)] w fun x w'=>FOut (z7 (zh fs) res l sc).1 x w'/\((z7 (zh fs) res l sc).1=none->Sco w' b (z7 (zh fs) res l sc).2)/\w.grownBy w' (some b):=by
 obtain⟨A,c,rfl⟩:=zt hv;obtain⟨ks,hst⟩:=hv.ks;have hB:B<=w.heap.size:=by have:=hc.lt;have:=hc.hc;omega
 have hbl:=hs.lt;have BA1:=za w (.cells #[.pointer (some ⟨cB,0,none⟩)] 241);have BA2:=za (w.alloc (.cells #[.pointer (some ⟨cB,0,none⟩)] 241)) (.cells #[.map (some b)] 238);have e1:=zb (show(w.alloc (.cells #[.pointer (some ⟨cB,0,none⟩)] 241)).cell? ⟨w.heap.size,0,none⟩=some (.pointer (some ⟨cB,0,none⟩)) by rw[wy _ _ _ _ _ _ (ye w _)];rfl) BA2;have e2:((w.alloc (.cells #[.pointer (some ⟨cB,0,none⟩)] 241)).alloc (.cells #[.map (some b)] 238)).cell? ⟨w.heap.size+1,0,none⟩=some (.map (some b)):=by
  rw[show w.heap.size+1=(w.alloc (.cells #[.pointer (some ⟨cB,0,none⟩)] 241)).heap.size by simp,wy _ _ _ _ _ _ (ye _ _)];rfl
 have BA:=zd BA1 BA2 BA1.size;have HB:=aQ BA;have K:=aQ (zny l hS B cB g b fs res w.heap.size (w.heap.size+1) ks (.slice A l.length c) sc _ ⟨hc.below BA,hs.below BA,e1,e2,hst.same (zk BA hB),by omega,by omega,n3,n4,n5⟩);have hmf:=hmf5
 generalize z7 (zh fs) res l sc=m at *
 clear hc hs hv hst BA1 BA2 BA e1 e2 hS hbl n3 n4 n5;go_enter func174,ntmps174
 go_wp2_with fail
 with_reducible refine K.out.mono ?_
 rintro e w1⟨⟨v,rfl,hv⟩,hn,hg⟩;have HV:=aQ hv;have HN:=aQ hn;have HG:=aQ (zQ (zT HB.out (some b)) hg);clear hv hn hg K HB;go_wp2;go_ret;exact⟨⟨_,rfl,HV.out⟩,HN.out,HG.out⟩
end
end
end Go.Proofs.YtcilgkdnjgmogaaGreatDoor
