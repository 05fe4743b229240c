/- A part of the proof. -/
import Derived.Test.YtcilgkdnjgmogaaGreatDoorYD
import Derived.Deep.DeepCutAuto
namespace Go.Proofs.YtcilgkdnjgmogaaGreatDoor
open Go.Proofs.Tryz
set_option maxRecDepth 100000
set_option maxHeartbeats 12800000
set_option linter.all false
variable {D:Nat->Prop} {k n:Nat} {w w':World} {xs:List Value}
section
section
open Go.RowKit
def beqI(n:Nat)(k:Nat):((n:Int)==(k:Int))=(n==k):=by
 rw[Bool.eq_iff_iff,beq_iff_eq,beq_iff_eq];omega
def zaq(n:Nat):((n:Int)==0)=(n==0):=beqI n 0
def zrp(n:Nat):((n:Int)==1)=(n==1):=beqI n 1
def zI{a b:Int}(h:¬a=b):(a==b)=false:=by rw[yI];exact h
def z9(h:¬n=k):((n:Int)==(k:Int))=false:=by rw[beqI,yI];exact h
def zuv(num:Int)(aZ:List Nat)(A:Option Addr)(n c:Nat)(aW:Int)(w:World):Calls prog 321 #[.agg #[.int .i64 1,.int .i64 num,.string (strN aZ),.slice A n c,.int .i64 aW]] w fun e w'=>e=.returned (.bool (zJ 1 aZ n))/\Below w.heap.size w w':=by
 go_enter func321,ntmps321;go_wp2;go_ret;exact⟨zd1 (zaq n),za _ _⟩
def zsa(num:Int)(aZ:List Nat)(A:Option Addr)(n c:Nat)(aW:Int)(w:World):Calls prog 321 #[.agg #[.int .i64 2,.int .i64 num,.string (strN aZ),.slice A n c,.int .i64 aW]] w fun e w'=>e=.returned (.bool (zJ 2 aZ n))/\Below w.heap.size w w':=by
 go_enter func321,ntmps321;go_wp2;go_ret;exact⟨zd1 (zaq n),za _ _⟩
def zuq(num:Int)(aZ:List Nat)(A:Option Addr)(n c:Nat)(aW:Int)(w:World):Calls prog 321 #[.agg #[.int .i64 3,.int .i64 num,.string (strN aZ),.slice A n c,.int .i64 aW]] w fun e w'=>e=.returned (.bool (zJ 3 aZ n))/\Below w.heap.size w w':=by
 go_enter func321,ntmps321;go_wp2;go_ret;exact⟨zd1 (zaq n),za _ _⟩
def ztp(num:Int)(aZ:List Nat)(A:Option Addr)(n c:Nat)(aW:Int)(w:World):Calls prog 321 #[.agg #[.int .i64 4,.int .i64 num,.string (strN aZ),.slice A n c,.int .i64 aW]] w fun e w'=>e=.returned (.bool (zJ 4 aZ n))/\Below w.heap.size w w':=by
 go_enter func321,ntmps321;go_wp2;go_ret;exact⟨zd1 (zaq n),za _ _⟩
def zup(num:Int)(aZ:List Nat)(A:Option Addr)(n c:Nat)(aW:Int)(w:World):Calls prog 321 #[.agg #[.int .i64 5,.int .i64 num,.string (strN aZ),.slice A n c,.int .i64 aW]] w fun e w'=>e=.returned (.bool (zJ 5 aZ n))/\Below w.heap.size w w':=by
 go_enter func321,ntmps321;go_wp2;go_ret;exact⟨rfl,za _ _⟩
def zs7(num:Int)(aZ:List Nat)(A:Option Addr)(n c:Nat)(aW:Int)(w:World):Calls prog 321 #[.agg #[.int .i64 8,.int .i64 num,.string (strN aZ),.slice A n c,.int .i64 aW]] w fun e w'=>e=.returned (.bool (zJ 8 aZ n))/\Below w.heap.size w w':=by
 go_enter func321,ntmps321;go_wp2;go_ret;exact⟨zd1 (zrp n),za _ _⟩
def zsr(num:Int)(aZ:List Nat)(A:Option Addr)(n c:Nat)(aW:Int)(w:World):Calls prog 321 #[.agg #[.int .i64 9,.int .i64 num,.string (strN aZ),.slice A n c,.int .i64 aW]] w fun e w'=>e=.returned (.bool (zJ 9 aZ n))/\Below w.heap.size w w':=by
 go_enter func321,ntmps321;go_wp2;go_ret;exact⟨zd1 (zrp n),za _ _⟩
def zqi(num:Int)(aZ:List Nat)(A:Option Addr)(n c:Nat)(aW:Int)(w:World):Calls prog 321 #[.agg #[.int .i64 10,.int .i64 num,.string (strN aZ),.slice A n c,.int .i64 aW]] w fun e w'=>e=.returned (.bool (zJ 10 aZ n))/\Below w.heap.size w w':=by
 go_enter func321,ntmps321;go_wp2;go_ret;exact⟨zd1 (zrp n),za _ _⟩
def zs1(num:Int)(aZ:List Nat)(A:Option Addr)(n c:Nat)(aW:Int)(w:World)(ht:Byn aZ):Calls prog 321 #[.agg #[.int .i64 6,.int .i64 num,.string (strN aZ),.slice A n c,.int .i64 aW]] w fun e w'=>e=.returned (.bool (zJ 6 aZ n))/\Below w.heap.size w w':=by
 have KS:=aQ (ztv aZ ht);have HB0:=aQ (za w (.cells #[.int .i64 6,.int .i64 num,.string (strN aZ),.slice A n c,.int .i64 aW] 202));have HE:Hid (zJ 6 aZ n=(n==2&&(qN aZ).isSome)):=rfl;by_cases hn:n=2
 ·have q:((n:Int)==2)=true:=by subst hn;rfl
  have HE2:Hid (zJ 6 aZ n=(qN aZ).isSome):=by show _=_;rw[HE.out,hn];rfl
  clear hn ht HE;go_enter func321,ntmps321
  go_wp2_with fail
  generalize w.alloc (.cells #[.int .i64 6,.int .i64 num,.string (strN aZ),.slice A n c,.int .i64 aW] 202)=w0 at *
  refine(KS.out _).mono ?_;rintro e w1 (⟨g,hg,v1,v2,rfl,f1,f2,b1⟩|⟨hg,rfl,b1⟩)
  ·have HB:=aQ (zd HB0.out b1 HB0.out.size);have hr:zJ 6 aZ n=true:=by rw[HE2.out,hg];rfl
   have HR:=aQ hr;obtain⟨fn1,caps1,D1,rfl,_⟩:=f1;obtain⟨fn2,caps2,D2,rfl,_⟩:=f2;clear hg b1 hr KS HB0
   go_wp2_with(refine zc zL rfl (.tmp 4) (.tmp 26) rfl rfl w1.heap.size rfl [_,_] rfl rfl (zD (cs:=[_,_]) (ye w1 _) rfl) (by simp[Value.oneCell']) ?_;intro w2 g1 g2 g3 g4 g5)
   go_ret;exact⟨by rw[HR.out];rfl,HB.out.trans (((za w1 opO).trans g3).mono HB.out.size)⟩
  ·have HB:=aQ (zd HB0.out b1 HB0.out.size);have hr:zJ 6 aZ n=false:=by rw[HE2.out,hg];rfl
   have HR:=aQ hr;clear hg b1 hr KS HB0
   go_wp2_with(refine zc zL rfl (.tmp 4) (.tmp 26) rfl rfl w1.heap.size rfl [_,_] rfl rfl (zD (cs:=[_,_]) (ye w1 _) rfl) (by simp[Value.oneCell']) ?_;intro w2 g1 g2 g3 g4 g5)
   go_ret;exact⟨by rw[HR.out];rfl,HB.out.trans (((za w1 opO).trans g3).mono HB.out.size)⟩
 ·have q:((n:Int)==2)=false:=z9 hn;have HE2:Hid (zJ 6 aZ n=false):=by show _=_;rw[HE.out,show(n==2)=false by rw[yI];exact hn];rfl
  clear hn ht HE;go_enter func321,ntmps321
  go_wp2_with fail
  generalize w.alloc (.cells #[.int .i64 6,.int .i64 num,.string (strN aZ),.slice A n c,.int .i64 aW] 202)=w0 at *
  refine(KS.out _).mono ?_;rintro e w1 (⟨g,hg,v1,v2,rfl,f1,f2,b1⟩|⟨hg,rfl,b1⟩)
  ·have HB:=aQ (zd HB0.out b1 HB0.out.size);obtain⟨fn1,caps1,D1,rfl,_⟩:=f1;obtain⟨fn2,caps2,D2,rfl,_⟩:=f2;clear hg b1 KS HB0
   go_wp2_with(refine zc zL rfl (.tmp 4) (.tmp 26) rfl rfl w1.heap.size rfl [_,_] rfl rfl (zD (cs:=[_,_]) (ye w1 _) rfl) (by simp[Value.oneCell']) ?_;intro w2 g1 g2 g3 g4 g5)
   go_ret;exact⟨by rw[HE2.out];rfl,HB.out.trans (((za w1 opO).trans g3).mono HB.out.size)⟩
  ·have HB:=aQ (zd HB0.out b1 HB0.out.size);clear hg b1 KS HB0
   go_wp2_with(refine zc zL rfl (.tmp 4) (.tmp 26) rfl rfl w1.heap.size rfl [_,_] rfl rfl (zD (cs:=[_,_]) (ye w1 _) rfl) (by simp[Value.oneCell']) ?_;intro w2 g1 g2 g3 g4 g5)
   go_ret;exact⟨by rw[HE2.out];rfl,HB.out.trans (((za w1 opO).trans g3).mono HB.out.size)⟩
def zs2(num:Int)(aZ:List Nat)(A:Option Addr)(n c:Nat)(aW:Int)(w:World)(ht:Byn aZ):Calls prog 321 #[.agg #[.int .i64 7,.int .i64 num,.string (strN aZ),.slice A n c,.int .i64 aW]] w fun e w'=>e=.returned (.bool (zJ 7 aZ n))/\Below w.heap.size w w':=by
 have q1:=kZ ht [45] (by unfold Byn;decide);have q2:=kZ ht [33] (by unfold Byn;decide);have HE:Hid (zJ 7 aZ n=(n==1&&(aZ == [45] || aZ == [33]))):=rfl;have p1:((strN aZ).toList == [45])=decide (aZ=[45]):=q1;have p2:((strN aZ).toList == [33])=decide (aZ=[33]):=q2;clear q1 q2 ht;by_cases hn:n=1
 ·have q:((n:Int)==1)=true:=by subst hn;rfl
  by_cases h1:aZ=[45]
  ·rw[decide_eq_true h1]at p1;have HE2:Hid (zJ 7 aZ n=true):=by show _=_;rw[HE.out,hn,h1];rfl
   clear hn h1 HE p2;go_enter func321,ntmps321;go_wp2;go_ret;exact⟨by rw[HE2.out];rfl,za _ _⟩
  ·rw[decide_eq_false h1]at p1;have h3:(aZ == [45])=false:=by rw[yI];exact h1
   have HE2:Hid (zJ 7 aZ n=(aZ == [33])):=by show _=_;rw[HE.out,hn,h3];rfl
   have HP:Hid (((strN aZ).toList == [33])=(aZ == [33])):=by
    show _=_;rw[p2,Bool.eq_iff_iff,decide_eq_true_eq,beq_iff_eq]
   clear hn h1 h3 HE p2;go_enter func321,ntmps321;go_wp2;go_ret;exact⟨by rw[HE2.out];exact zd1 HP.out,za _ _⟩
 ·have q:((n:Int)==1)=false:=z9 hn;have HE2:Hid (zJ 7 aZ n=false):=by show _=_;rw[HE.out,show(n==1)=false by rw[yI];exact hn];rfl
  clear hn HE p1 p2;go_enter func321,ntmps321;go_wp2;go_ret;exact⟨by rw[HE2.out];rfl,za _ _⟩
def zi3(op num:Int)(aZ:List Nat)(A:Option Addr)(n c:Nat)(aW:Int)(w:World)(hn:∀k:Nat,1<=k->k<=10->¬op=k):Calls prog 321 #[.agg #[.int .i64 op,.int .i64 num,.string (strN aZ),.slice A n c,.int .i64 aW]] w fun e w'=>e=.returned (.bool (zJ op aZ n))/\Below w.heap.size w w':=by
 have q1:(op==1)=false:=zI (hn 1 (by omega) (by omega));have q2:(op==2)=false:=zI (hn 2 (by omega) (by omega));have q3:(op==3)=false:=zI (hn 3 (by omega) (by omega));have q4:(op==4)=false:=zI (hn 4 (by omega) (by omega));have q5:(op==5)=false:=zI (hn 5 (by omega) (by omega));have q6:(op==6)=false:=zI (hn 6 (by omega) (by omega));have q7:(op==7)=false:=zI (hn 7 (by omega) (by omega));have q8:(op==8)=false:=zI (hn 8 (by omega) (by omega));have q9:(op==9)=false:=zI (hn 9 (by omega) (by omega));have q10:(op==10)=false:=zI (hn 10 (by omega) (by omega));have HE:Hid (zJ op aZ n=false):=by
  show _=_;have:=fun k h1 h2=>hn k h1 h2;simp only[yI]at q1 q2 q3 q4 q5 q6 q7 q8 q9 q10;unfold zJ;rw[if_neg (by omega),if_neg (by omega),if_neg (by omega),if_neg (by omega),if_neg (by omega)]
 clear hn;go_enter func321,ntmps321;go_wp2;go_ret;exact⟨by rw[HE.out];rfl,za _ _⟩
def kq(op num:Int)(aZ:List Nat)(A:Option Addr)(n c:Nat)(aW:Int)(w:World)(ht:Byn aZ):Calls prog 321 #[.agg #[.int .i64 op,.int .i64 num,.string (strN aZ),.slice A n c,.int .i64 aW]] w fun e w'=>e=.returned (.bool (zJ op aZ n))/\Below w.heap.size w w':=by
 by_cases h1:op=1
 ·subst h1;exact zuv num aZ A n c aW w
 by_cases h2:op=2
 ·subst h2;exact zsa num aZ A n c aW w
 by_cases h3:op=3
 ·subst h3;exact zuq num aZ A n c aW w
 by_cases h4:op=4
 ·subst h4;exact ztp num aZ A n c aW w
 by_cases h5:op=5
 ·subst h5;exact zup num aZ A n c aW w
 by_cases h6:op=6
 ·subst h6;exact zs1 num aZ A n c aW w ht
 by_cases h7:op=7
 ·subst h7;exact zs2 num aZ A n c aW w ht
 by_cases h8:op=8
 ·subst h8;exact zs7 num aZ A n c aW w
 by_cases h9:op=9
 ·subst h9;exact zsr num aZ A n c aW w
 by_cases h10:op=10
 ·subst h10;exact zqi num aZ A n c aW w
 exact zi3 op num aZ A n c aW w (by
  intro k h1 h2 e;have:k=1\/k=2\/k=3\/k=4\/k=5\/k=6\/k=7\/k=8\/k=9\/k=10:=by omega
  omega)
def RowF.plain5{V:Value}(h:RowF w D n xs V)(hx:xs≠[]):∃b o c,V=.slice (some ⟨b,o,none⟩) n c/\n<=c/\c<=maxLen/\D b/\w.rangeAt b o xs:=by
 obtain⟨A,c,rfl,h2,h3,h4,h5⟩:=h;cases xs with
 | nil=>exact absurd rfl hx
 | cons x r=>
  obtain⟨ad,rfl,hD,hc⟩:=h5 0 x rfl;have hs:ad.spot=none:=by
   unfold World.cell? at hc;rw[show ad.add 0=ad from rfl]at hc
   split at hc
   ·split at hc
    ·cases hc
    ·rename_i hh
     cases hsp:ad.spot with
     | none=>rfl
     | some q=>rw[hsp]at hh;simp at hh
   ·cases hc
  obtain⟨b,o,sp⟩:=ad;simp at hs;subst hs;refine⟨b,o,c,rfl,h2,h3,hD,fun j v hv=>?_⟩;obtain⟨ad',e,_,hc'⟩:=h5 j v hv;injection e with e
  subst e;rw[Addr.add_lit]at hc';exact hc'
def RowF.slice5{V:Value}(h:RowF w D n xs V):∃A c,V=.slice A n c:=by
 obtain⟨A,c,h1,_⟩:=h;exact⟨A,c,h1⟩
def RowF.len5{V:Value}(h:RowF w D n xs V):n<=9223372036854775807:=by
 obtain⟨A,c,h1,h2,h3,_⟩:=h;unfold maxLen at h3;omega
def jF{α:Type}{cel:α->List Value}(hc:∀a,(cel a).length=n):∀(l:List α) (i j:Nat) (a:α),l[i]? =some a->j<n->(l.flatMap cel)[i*n+j]? =(cel a)[j]?
 | [],i,j,a,h,_=>by simp at h
 | x::l,0,j,a,h,hj=>by
  simp at h;subst h;rw[List.flatMap_cons,aF (by rw[hc];omega)];simp
 | x::l,i+1,j,a,h,hj=>by
  have ih:=jF hc l i j a (by simpa using h) hj;rw[List.flatMap_cons,aG (by rw[hc,Nat.succ_mul];omega)];rw[show(i+1)*n+j-(cel x).length=i*n+j by rw[hc,Nat.succ_mul];omega];exact ih
def zeq{σ α:Type}(step:σ->α->Er×σ)(s:σ)(a:α)(l:List α):runL step s (a::l)=(match step s a with|(some e,s')=>(some e,s')|(none,s')=>runL step s' l):=rfl
def jt{σ α:Type}{step:σ->α->Er×σ}{s:σ}{a:α}{l:List α}(h:(step s a).1=none):runL step s (a::l)=runL step (step s a).2 l:=by
 rw[zeq];rcases hs:step s a with⟨_|e,s'⟩
 ·rfl
 ·rw[hs]at h;cases h
def jB{σ α:Type}{step:σ->α->Er×σ}{s:σ}{a:α}{l:List α}{e:Int×Int}(h:(step s a).1=some e):(runL step s (a::l)).1=some e:=by
 rw[zeq];rcases hs:step s a with⟨_|e',s'⟩
 ·rw[hs]at h;cases h
 ·rw[hs]at h;exact h
def zcc:(prog.info? 202).map (·.size)=some 5:=by kernel_rfl
def ztl{σ α:Type}(step:σ->α->Er×σ)(c0 c1 c2 c3 c4:α->Value)(I:σ->World->Prop)(ro:Option Nat)(l:List α)(V:Value)(B:Nat)(fn:Nat)(caps:Array Value)(he:Ent fn)
  (hI:∀s w w',I s w->Below w.heap.size w w'->I s w')
  (hrow:∀s w,I s w->RowF w (Lo B) l.length (l.flatMap fun a=>[c0 a,c1 a,c2 a,c3 a,c4 a]) V)
  (hone:∀a∈l,∀u∈[c0 a,c1 a,c2 a,c3 a,c4 a],u.oneCell'=true)
  (hf:∀s a w,a∈l->I s w->Calls prog fn (#[.agg #[c0 a,c1 a,c2 a,c3 a,c4 a]]++caps) w fun e w'=>FOut (step s a).1 e w'/\((step s a).1=none->I (step s a).2 w')/\w.grownBy w' ro)
  (s:σ) (w:World) (h:I s w) :
  Calls prog 278 #[V,.func (.func fn) #[] caps] w fun e w'=>FOut (runL step s l).1 e w'/\((runL step s l).1=none->I (runL step s l).2 w')/\w.grownBy w' ro:=by
 have he':∀(args:Array Value) (w:World),(callFunc fn args).run prog w=.ok (.enter fn args) w:=he;obtain⟨A,c,rfl⟩:=(hrow s w h).slice5;have hmx:=(hrow s w h).len5;have HI:=aQ hI;have HR:=aQ hrow;have HO:=aQ hone;have HF:=aQ hf;have H0:=aQ h;clear hI hrow hone hf h;go_enter func278,ntmps278;go_wp2
 go_loopw [6,7,10] (fun _ _ i wr=>∃(k:Nat) (s':σ),k<=l.length/\i=.int .i64 k/\Hid (I s' wr/\w.grownBy wr ro/\runL step s l=runL step s' (l.drop k))) (fun _ _ i _=>l.length-(intOf i).toNat)
 case atStart=>exact⟨0,s,aK _,rfl,H0.out,World.grownBy.refl _ _,rfl⟩
 case round=>
  obtain⟨k,s',hk,rfl,HRel⟩:=hrel;by_cases hlt:k<l.length
  ·obtain⟨a,ha⟩:∃a,l[k]? =some a:=⟨_,vp hlt⟩;have hmem:a∈l:=wM ha;have hget:=fun j hj=>jF (cel:=fun a=>[c0 a,c1 a,c2 a,c3 a,c4 a]) (n:=5) (fun _=>rfl) l k j a ha hj
   obtain⟨b,o,c',hV,a1,a2,a3,a4⟩:=(HR.out s' wr HRel.out.1).plain5 (by
    intro e0;have:=hget 0 (by omega);rw[e0]at this
    simp at this)
   injection hV with hV1 hV2 hV3
   subst hV1 hV3;have hrg:wr.rangeAt b (o+k*5) [c0 a,c1 a,c2 a,c3 a,c4 a]:=fun j v hv=>by
    have hj:j<5:=by
     have:=(vm.1 hv).1;simpa using this
    rw[Nat.add_assoc];exact a4 _ v ((hget j hj).trans hv)
   have HRG:=aQ hrg;have hdrop:l.drop k=a::l.drop (k+1):=by
    rw[wv hlt];rw[vp hlt]at ha;injection ha with ha
    rw[ha]
   have HD:=aQ hdrop;have hon:=HO.out a hmem;have HK:Hid (∀w1,Below wr.heap.size wr w1->Calls prog fn (#[.agg #[c0 a,c1 a,c2 a,c3 a,c4 a]]++caps) w1 fun e w'=>FOut (step s' a).1 e w'/\((step s' a).1=none->I (step s' a).2 w')/\w1.grownBy w' ro):=fun w1 hb=>HF.out s' a w1 hmem (HI.out s' wr w1 HRel.out.1 hb);unfold maxLen at a2;clear hV2 a3 a4 hget hrg hdrop ha hmem HF HO HR H0
   go_wp2_with(first|(refine wpList_load_mid rfl 202 (.tmp 12) rfl b (o+k*5) rfl [c0 a,c1 a,c2 a,c3 a,c4 a] _ HRG.out underlying202 rfl zcc ?_;refine Hid.out ?_)|fail)
   refine aQ ?_
   go_wp2_with(refine zc zcc rfl (.tmp 6) (.tmp 13) rfl rfl wr.heap.size rfl [c0 a,c1 a,c2 a,c3 a,c4 a] rfl rfl (zD (cs:=[_,_,_,_,_]) (ye wr _) rfl) hon ?_;intro w2 g1 g2 g3 g4 g5;refine Hid.out ?_)
   refine aQ ?_;have G1:=aQ g1;have B2:=aQ ((za wr (.cells #[_,_,_,_,_] 202)).trans g3);clear g1 g2 g3 g4 g5
   go_wp2_with(first|(refine wpList_load_mid rfl 202 (.tmp 6) rfl wr.heap.size 0 rfl [c0 a,c1 a,c2 a,c3 a,c4 a] _ G1.out underlying202 rfl zcc ?_;refine Hid.out ?_)|fail)
   refine aQ ?_
   (go_wp2_with fail);refine(HK.out _ B2.out).mono ?_;clear HK;rintro e w3 ⟨⟨v,rfl,hv⟩,hn,hg⟩;have HN:=aQ hn;have HG:Hid (w.grownBy w3 ro):=zQ HRel.out.2.1 (zQ (zT B2.out ro) hg);clear hn hg hon;cases hst:(step s' a).1 with
   | none=>
    rw[hst]at hv;obtain rfl:v=.pointer none:=hv;have HE:Hid (runL step s l=runL step (step s' a).2 (l.drop (k+1))):=HRel.out.2.2.trans (by rw[HD.out];exact jt hst);have HN2:Hid (I (step s' a).2 w3):=HN.out hst;clear hst HN HRel HD;go_wp2
    go_roundw
    case rel=>exact⟨k+1,(step s' a).2,by omega,by go_num,HN2.out,HG.out,HE.out⟩
    case measure=>simp[intOf];omega
   | some er=>
    rw[hst]at hv;have HV:=aQ hv;have HE:Hid ((runL step s l).1=some er):=by show _=_;rw[HRel.out.2.2,HD.out];exact jB hst
    obtain⟨b',rfl,hb'⟩:=hv;clear hst HN HRel HD hb';go_wp2;go_ret;exact⟨⟨_,rfl,by rw[HE.out];exact HV.out⟩,fun h=>(by rw[HE.out]at h;cases h),HG.out⟩
  ·obtain rfl:k=l.length:=by omega
   have HT:Hid (runL step s l=(none,s')):=HRel.out.2.2.trans (by rw[List.drop_length];rfl);have HZ:Hid (I s' wr/\w.grownBy wr ro):=⟨HRel.out.1,HRel.out.2.1⟩;clear HRel;go_wp2;go_ret;exact⟨⟨_,rfl,by rw[HT.out];rfl⟩,fun _=>by rw[HT.out];exact HZ.out.1,HZ.out.2⟩
def zfd:(prog.info? 87).map (·.size)=some 2:=by kernel_rfl
def zt8{σ α:Type}(step:σ->α->Er×σ)(c0 c1:α->Value)(I:σ->World->Prop)(ro:Option Nat)(l:List α)(V:Value)(B:Nat)(fn:Nat)(caps:Array Value)(he:Ent fn)
  (hI:∀s w w',I s w->Below w.heap.size w w'->I s w')
  (hrow:∀s w,I s w->RowF w (Lo B) l.length (l.flatMap fun a=>[c0 a,c1 a]) V)
  (hone:∀a∈l,∀u∈[c0 a,c1 a],u.oneCell'=true)
  (hf:∀s a w,a∈l->I s w->Calls prog fn (#[.agg #[c0 a,c1 a]]++caps) w fun e w'=>FOut (step s a).1 e w'/\((step s a).1=none->I (step s a).2 w')/\w.grownBy w' ro)
  (s:σ) (w:World) (h:I s w) :
  Calls prog 208 #[V,.func (.func fn) #[] caps] w fun e w'=>FOut (runL step s l).1 e w'/\((runL step s l).1=none->I (runL step s l).2 w')/\w.grownBy w' ro:=by
 have he':∀(args:Array Value) (w:World),(callFunc fn args).run prog w=.ok (.enter fn args) w:=he;obtain⟨A,c,rfl⟩:=(hrow s w h).slice5;have hmx:=(hrow s w h).len5;have HI:=aQ hI;have HR:=aQ hrow;have HO:=aQ hone;have HF:=aQ hf;have H0:=aQ h;clear hI hrow hone hf h;go_enter func208,ntmps208;go_wp2
 go_loopw [6,7,10] (fun _ _ i wr=>∃(k:Nat) (s':σ),k<=l.length/\i=.int .i64 k/\Hid (I s' wr/\w.grownBy wr ro/\runL step s l=runL step s' (l.drop k))) (fun _ _ i _=>l.length-(intOf i).toNat)
 case atStart=>exact⟨0,s,aK _,rfl,H0.out,World.grownBy.refl _ _,rfl⟩
 case round=>
  obtain⟨k,s',hk,rfl,HRel⟩:=hrel;by_cases hlt:k<l.length
  ·obtain⟨a,ha⟩:∃a,l[k]? =some a:=⟨_,vp hlt⟩;have hmem:a∈l:=wM ha;have hget:=fun j hj=>jF (cel:=fun a=>[c0 a,c1 a]) (n:=2) (fun _=>rfl) l k j a ha hj
   obtain⟨b,o,c',hV,a1,a2,a3,a4⟩:=(HR.out s' wr HRel.out.1).plain5 (by
    intro e0;have:=hget 0 (by omega);rw[e0]at this
    simp at this)
   injection hV with hV1 hV2 hV3
   subst hV1 hV3;have hrg:wr.rangeAt b (o+k*2) [c0 a,c1 a]:=fun j v hv=>by
    have hj:j<2:=by
     have:=(vm.1 hv).1;simpa using this
    rw[Nat.add_assoc];exact a4 _ v ((hget j hj).trans hv)
   have HRG:=aQ hrg;have hdrop:l.drop k=a::l.drop (k+1):=by
    rw[wv hlt];rw[vp hlt]at ha;injection ha with ha
    rw[ha]
   have HD:=aQ hdrop;have hon:=HO.out a hmem;have HK:Hid (∀w1,Below wr.heap.size wr w1->Calls prog fn (#[.agg #[c0 a,c1 a]]++caps) w1 fun e w'=>FOut (step s' a).1 e w'/\((step s' a).1=none->I (step s' a).2 w')/\w1.grownBy w' ro):=fun w1 hb=>HF.out s' a w1 hmem (HI.out s' wr w1 HRel.out.1 hb);unfold maxLen at a2;clear hV2 a3 a4 hget hrg hdrop ha hmem HF HO HR H0
   go_wp2_with(first|(refine wpList_load_mid rfl 87 (.tmp 12) rfl b (o+k*2) rfl [c0 a,c1 a] _ HRG.out underlying87 rfl zfd ?_;refine Hid.out ?_)|fail)
   refine aQ ?_
   go_wp2_with(refine zc zfd rfl (.tmp 6) (.tmp 13) rfl rfl wr.heap.size rfl [c0 a,c1 a] rfl rfl (zD (cs:=[_,_]) (ye wr _) rfl) hon ?_;intro w2 g1 g2 g3 g4 g5;refine Hid.out ?_)
   refine aQ ?_;have G1:=aQ g1;have B2:=aQ ((za wr (.cells #[_,_] 87)).trans g3);clear g1 g2 g3 g4 g5
   go_wp2_with(first|(refine wpList_load_mid rfl 87 (.tmp 6) rfl wr.heap.size 0 rfl [c0 a,c1 a] _ G1.out underlying87 rfl zfd ?_;refine Hid.out ?_)|fail)
   refine aQ ?_
   (go_wp2_with fail);refine(HK.out _ B2.out).mono ?_;clear HK;rintro e w3 ⟨⟨v,rfl,hv⟩,hn,hg⟩;have HN:=aQ hn;have HG:Hid (w.grownBy w3 ro):=zQ HRel.out.2.1 (zQ (zT B2.out ro) hg);clear hn hg hon;cases hst:(step s' a).1 with
   | none=>
    rw[hst]at hv;obtain rfl:v=.pointer none:=hv;have HE:Hid (runL step s l=runL step (step s' a).2 (l.drop (k+1))):=HRel.out.2.2.trans (by rw[HD.out];exact jt hst);have HN2:Hid (I (step s' a).2 w3):=HN.out hst;clear hst HN HRel HD;go_wp2
    go_roundw
    case rel=>exact⟨k+1,(step s' a).2,by omega,by go_num,HN2.out,HG.out,HE.out⟩
    case measure=>simp[intOf];omega
   | some er=>
    rw[hst]at hv;have HV:=aQ hv;have HE:Hid ((runL step s l).1=some er):=by show _=_;rw[HRel.out.2.2,HD.out];exact jB hst
    obtain⟨b',rfl,hb'⟩:=hv;clear hst HN HRel HD hb';go_wp2;go_ret;exact⟨⟨_,rfl,by rw[HE.out];exact HV.out⟩,fun h=>(by rw[HE.out]at h;cases h),HG.out⟩
  ·obtain rfl:k=l.length:=by omega
   have HT:Hid (runL step s l=(none,s')):=HRel.out.2.2.trans (by rw[List.drop_length];rfl);have HZ:Hid (I s' wr/\w.grownBy wr ro):=⟨HRel.out.1,HRel.out.2.1⟩;clear HRel;go_wp2;go_ret;exact⟨⟨_,rfl,by rw[HT.out];rfl⟩,fun _=>by rw[HT.out];exact HZ.out.1,HZ.out.2⟩
def zf8:(prog.info? 145).map (·.size)=some 6:=by kernel_rfl
def zt5{σ α:Type}(step:σ->α->Er×σ)(c0 c1 c2 c3 c4 c5:α->Value)(I:σ->World->Prop)(ro:Option Nat)(l:List α)(V:Value)(B:Nat)(fn:Nat)(caps:Array Value)(he:Ent fn)
  (hI:∀s w w',I s w->Below w.heap.size w w'->I s w')
  (hrow:∀s w,I s w->RowF w (Lo B) l.length (l.flatMap fun a=>[c0 a,c1 a,c2 a,c3 a,c4 a,c5 a]) V)
  (hone:∀a∈l,∀u∈[c0 a,c1 a,c2 a,c3 a,c4 a,c5 a],u.oneCell'=true)
  (hf:∀s a w,a∈l->I s w->Calls prog fn (#[.agg #[c0 a,c1 a,c2 a,c3 a,c4 a,c5 a]]++caps) w fun e w'=>FOut (step s a).1 e w'/\((step s a).1=none->I (step s a).2 w')/\w.grownBy w' ro)
  (s:σ) (w:World) (h:I s w) :
  Calls prog 211 #[V,.func (.func fn) #[] caps] w fun e w'=>FOut (runL step s l).1 e w'/\((runL step s l).1=none->I (runL step s l).2 w')/\w.grownBy w' ro:=by
 have he':∀(args:Array Value) (w:World),(callFunc fn args).run prog w=.ok (.enter fn args) w:=he;obtain⟨A,c,rfl⟩:=(hrow s w h).slice5;have hmx:=(hrow s w h).len5;have HI:=aQ hI;have HR:=aQ hrow;have HO:=aQ hone;have HF:=aQ hf;have H0:=aQ h;clear hI hrow hone hf h;go_enter func211,ntmps211;go_wp2
 go_loopw [6,7,10] (fun _ _ i wr=>∃(k:Nat) (s':σ),k<=l.length/\i=.int .i64 k/\Hid (I s' wr/\w.grownBy wr ro/\runL step s l=runL step s' (l.drop k))) (fun _ _ i _=>l.length-(intOf i).toNat)
 case atStart=>exact⟨0,s,aK _,rfl,H0.out,World.grownBy.refl _ _,rfl⟩
 case round=>
  obtain⟨k,s',hk,rfl,HRel⟩:=hrel;by_cases hlt:k<l.length
  ·obtain⟨a,ha⟩:∃a,l[k]? =some a:=⟨_,vp hlt⟩;have hmem:a∈l:=wM ha;have hget:=fun j hj=>jF (cel:=fun a=>[c0 a,c1 a,c2 a,c3 a,c4 a,c5 a]) (n:=6) (fun _=>rfl) l k j a ha hj
   obtain⟨b,o,c',hV,a1,a2,a3,a4⟩:=(HR.out s' wr HRel.out.1).plain5 (by
    intro e0;have:=hget 0 (by omega);rw[e0]at this
    simp at this)
   injection hV with hV1 hV2 hV3
   subst hV1 hV3;have hrg:wr.rangeAt b (o+k*6) [c0 a,c1 a,c2 a,c3 a,c4 a,c5 a]:=fun j v hv=>by
    have hj:j<6:=by
     have:=(vm.1 hv).1;simpa using this
    rw[Nat.add_assoc];exact a4 _ v ((hget j hj).trans hv)
   have HRG:=aQ hrg;have hdrop:l.drop k=a::l.drop (k+1):=by
    rw[wv hlt];rw[vp hlt]at ha;injection ha with ha
    rw[ha]
   have HD:=aQ hdrop;have hon:=HO.out a hmem;have HK:Hid (∀w1,Below wr.heap.size wr w1->Calls prog fn (#[.agg #[c0 a,c1 a,c2 a,c3 a,c4 a,c5 a]]++caps) w1 fun e w'=>FOut (step s' a).1 e w'/\((step s' a).1=none->I (step s' a).2 w')/\w1.grownBy w' ro):=fun w1 hb=>HF.out s' a w1 hmem (HI.out s' wr w1 HRel.out.1 hb);unfold maxLen at a2;clear hV2 a3 a4 hget hrg hdrop ha hmem HF HO HR H0
   go_wp2_with(first|(refine wpList_load_mid rfl 145 (.tmp 12) rfl b (o+k*6) rfl [c0 a,c1 a,c2 a,c3 a,c4 a,c5 a] _ HRG.out underlying145 rfl zf8 ?_;refine Hid.out ?_)|fail)
   refine aQ ?_
   go_wp2_with(refine zc zf8 rfl (.tmp 6) (.tmp 13) rfl rfl wr.heap.size rfl [c0 a,c1 a,c2 a,c3 a,c4 a,c5 a] rfl rfl (zD (cs:=[_,_,_,_,_,_]) (ye wr _) rfl) hon ?_;intro w2 g1 g2 g3 g4 g5;refine Hid.out ?_)
   refine aQ ?_;have G1:=aQ g1;have B2:=aQ ((za wr (.cells #[_,_,_,_,_,_] 145)).trans g3);clear g1 g2 g3 g4 g5
   go_wp2_with(first|(refine wpList_load_mid rfl 145 (.tmp 6) rfl wr.heap.size 0 rfl [c0 a,c1 a,c2 a,c3 a,c4 a,c5 a] _ G1.out underlying145 rfl zf8 ?_;refine Hid.out ?_)|fail)
   refine aQ ?_
   (go_wp2_with fail);refine(HK.out _ B2.out).mono ?_;clear HK;rintro e w3 ⟨⟨v,rfl,hv⟩,hn,hg⟩;have HN:=aQ hn;have HG:Hid (w.grownBy w3 ro):=zQ HRel.out.2.1 (zQ (zT B2.out ro) hg);clear hn hg hon;cases hst:(step s' a).1 with
   | none=>
    rw[hst]at hv;obtain rfl:v=.pointer none:=hv;have HE:Hid (runL step s l=runL step (step s' a).2 (l.drop (k+1))):=HRel.out.2.2.trans (by rw[HD.out];exact jt hst);have HN2:Hid (I (step s' a).2 w3):=HN.out hst;clear hst HN HRel HD;go_wp2
    go_roundw
    case rel=>exact⟨k+1,(step s' a).2,by omega,by go_num,HN2.out,HG.out,HE.out⟩
    case measure=>simp[intOf];omega
   | some er=>
    rw[hst]at hv;have HV:=aQ hv;have HE:Hid ((runL step s l).1=some er):=by show _=_;rw[HRel.out.2.2,HD.out];exact jB hst
    obtain⟨b',rfl,hb'⟩:=hv;clear hst HN HRel HD hb';go_wp2;go_ret;exact⟨⟨_,rfl,by rw[HE.out];exact HV.out⟩,fun h=>(by rw[HE.out]at h;cases h),HG.out⟩
  ·obtain rfl:k=l.length:=by omega
   have HT:Hid (runL step s l=(none,s')):=HRel.out.2.2.trans (by rw[List.drop_length];rfl);have HZ:Hid (I s' wr/\w.grownBy wr ro):=⟨HRel.out.1,HRel.out.2.1⟩;clear HRel;go_wp2;go_ret;exact⟨⟨_,rfl,by rw[HT.out];rfl⟩,fun _=>by rw[HT.out];exact HZ.out.1,HZ.out.2⟩
def zf0:(prog.info? 69).map (·.size)=some 5:=by kernel_rfl
def zpa{σ α:Type}(step:σ->α->Er×σ)(c0 c1 c2 c3 c4:α->Value)(I:σ->World->Prop)(ro:Option Nat)(l:List α)(V:Value)(B:Nat)(fn:Nat)(caps:Array Value)(he:Ent fn)
  (hI:∀s w w',I s w->Below w.heap.size w w'->I s w')
  (hrow:∀s w,I s w->RowF w (Lo B) l.length (l.flatMap fun a=>[c0 a,c1 a,c2 a,c3 a,c4 a]) V)
  (hone:∀a∈l,∀u∈[c0 a,c1 a,c2 a,c3 a,c4 a],u.oneCell'=true)
  (hf:∀s a w,a∈l->I s w->Calls prog fn (#[.agg #[c0 a,c1 a,c2 a,c3 a,c4 a]]++caps) w fun e w'=>FOut (step s a).1 e w'/\((step s a).1=none->I (step s a).2 w')/\w.grownBy w' ro)
  (s:σ) (w:World) (h:I s w) :
  Calls prog 133 #[V,.func (.func fn) #[] caps] w fun e w'=>FOut (runL step s l).1 e w'/\((runL step s l).1=none->I (runL step s l).2 w')/\w.grownBy w' ro:=by
 have he':∀(args:Array Value) (w:World),(callFunc fn args).run prog w=.ok (.enter fn args) w:=he;obtain⟨A,c,rfl⟩:=(hrow s w h).slice5;have hmx:=(hrow s w h).len5;have HI:=aQ hI;have HR:=aQ hrow;have HO:=aQ hone;have HF:=aQ hf;have H0:=aQ h;clear hI hrow hone hf h;go_enter func133,ntmps133;go_wp2
 go_loopw [6,7,10] (fun _ _ i wr=>∃(k:Nat) (s':σ),k<=l.length/\i=.int .i64 k/\Hid (I s' wr/\w.grownBy wr ro/\runL step s l=runL step s' (l.drop k))) (fun _ _ i _=>l.length-(intOf i).toNat)
 case atStart=>exact⟨0,s,aK _,rfl,H0.out,World.grownBy.refl _ _,rfl⟩
 case round=>
  obtain⟨k,s',hk,rfl,HRel⟩:=hrel;by_cases hlt:k<l.length
  ·obtain⟨a,ha⟩:∃a,l[k]? =some a:=⟨_,vp hlt⟩;have hmem:a∈l:=wM ha;have hget:=fun j hj=>jF (cel:=fun a=>[c0 a,c1 a,c2 a,c3 a,c4 a]) (n:=5) (fun _=>rfl) l k j a ha hj
   obtain⟨b,o,c',hV,a1,a2,a3,a4⟩:=(HR.out s' wr HRel.out.1).plain5 (by
    intro e0;have:=hget 0 (by omega);rw[e0]at this
    simp at this)
   injection hV with hV1 hV2 hV3
   subst hV1 hV3;have hrg:wr.rangeAt b (o+k*5) [c0 a,c1 a,c2 a,c3 a,c4 a]:=fun j v hv=>by
    have hj:j<5:=by
     have:=(vm.1 hv).1;simpa using this
    rw[Nat.add_assoc];exact a4 _ v ((hget j hj).trans hv)
   have HRG:=aQ hrg;have hdrop:l.drop k=a::l.drop (k+1):=by
    rw[wv hlt];rw[vp hlt]at ha;injection ha with ha
    rw[ha]
   have HD:=aQ hdrop;have hon:=HO.out a hmem;have HK:Hid (∀w1,Below wr.heap.size wr w1->Calls prog fn (#[.agg #[c0 a,c1 a,c2 a,c3 a,c4 a]]++caps) w1 fun e w'=>FOut (step s' a).1 e w'/\((step s' a).1=none->I (step s' a).2 w')/\w1.grownBy w' ro):=fun w1 hb=>HF.out s' a w1 hmem (HI.out s' wr w1 HRel.out.1 hb);unfold maxLen at a2;clear hV2 a3 a4 hget hrg hdrop ha hmem HF HO HR H0
   go_wp2_with(first|(refine wpList_load_mid rfl 69 (.tmp 12) rfl b (o+k*5) rfl [c0 a,c1 a,c2 a,c3 a,c4 a] _ HRG.out underlying69 rfl zf0 ?_;refine Hid.out ?_)|fail)
   refine aQ ?_
   go_wp2_with(refine zc zf0 rfl (.tmp 6) (.tmp 13) rfl rfl wr.heap.size rfl [c0 a,c1 a,c2 a,c3 a,c4 a] rfl rfl (zD (cs:=[_,_,_,_,_]) (ye wr _) rfl) hon ?_;intro w2 g1 g2 g3 g4 g5;refine Hid.out ?_)
   refine aQ ?_;have G1:=aQ g1;have B2:=aQ ((za wr (.cells #[_,_,_,_,_] 69)).trans g3);clear g1 g2 g3 g4 g5
   go_wp2_with(first|(refine wpList_load_mid rfl 69 (.tmp 6) rfl wr.heap.size 0 rfl [c0 a,c1 a,c2 a,c3 a,c4 a] _ G1.out underlying69 rfl zf0 ?_;refine Hid.out ?_)|fail)
   refine aQ ?_
   (go_wp2_with fail);refine(HK.out _ B2.out).mono ?_;clear HK;rintro e w3 ⟨⟨v,rfl,hv⟩,hn,hg⟩;have HN:=aQ hn;have HG:Hid (w.grownBy w3 ro):=zQ HRel.out.2.1 (zQ (zT B2.out ro) hg);clear hn hg hon;cases hst:(step s' a).1 with
   | none=>
    rw[hst]at hv;obtain rfl:v=.pointer none:=hv;have HE:Hid (runL step s l=runL step (step s' a).2 (l.drop (k+1))):=HRel.out.2.2.trans (by rw[HD.out];exact jt hst);have HN2:Hid (I (step s' a).2 w3):=HN.out hst;clear hst HN HRel HD;go_wp2
    go_roundw
    case rel=>exact⟨k+1,(step s' a).2,by omega,by go_num,HN2.out,HG.out,HE.out⟩
    case measure=>simp[intOf];omega
   | some er=>
    rw[hst]at hv;have HV:=aQ hv;have HE:Hid ((runL step s l).1=some er):=by show _=_;rw[HRel.out.2.2,HD.out];exact jB hst
    obtain⟨b',rfl,hb'⟩:=hv;clear hst HN HRel HD hb';go_wp2;go_ret;exact⟨⟨_,rfl,by rw[HE.out];exact HV.out⟩,fun h=>(by rw[HE.out]at h;cases h),HG.out⟩
  ·obtain rfl:k=l.length:=by omega
   have HT:Hid (runL step s l=(none,s')):=HRel.out.2.2.trans (by rw[List.drop_length];rfl);have HZ:Hid (I s' wr/\w.grownBy wr ro):=⟨HRel.out.1,HRel.out.2.1⟩;clear HRel;go_wp2;go_ret;exact⟨⟨_,rfl,by rw[HT.out];rfl⟩,fun _=>by rw[HT.out];exact HZ.out.1,HZ.out.2⟩
def zu{l:List Xe}{V:Value}(h:XesC w D l V):∃A c,V=.slice A l.length c:=by
 cases h with
 | mk _ ks _ hk h1 ht h2=>exact h1.slice5
def EC(e:Xe):Prop:=∀(B cB g b:Nat) (fs:List Xf) (res:Int) (sc:zX) (w:World) (v:Value),Cx w B cB g fs res->Sco w b sc->XeV w (Lo B) e v ->
 Calls prog 297 #[.pointer (some ⟨cB,0,none⟩),v,.map (some b)] w fun x w'=>TOut (qk (zh fs) sc e) x w'/\Below w.heap.size w w'
abbrev xeO(op num:Int)(aZ:List Nat)(K:Value)(aW:Int):Obj:=.cells #[.int .i64 op,.int .i64 num,.string (strN aZ),K,.int .i64 aW] 202
def qx(w:World)(op num:Int)(aZ:List Nat)(K:Value)(aW:Int):(w.alloc (xeO op num aZ K aW)).cell? ⟨w.heap.size,0,none⟩=some (.int .i64 op)/\(w.alloc (xeO op num aZ K aW)).cell? ⟨w.heap.size,1,none⟩=some (.int .i64 num)/\(w.alloc (xeO op num aZ K aW)).cell? ⟨w.heap.size,2,none⟩=some (.string (strN aZ))/\(w.alloc (xeO op num aZ K aW)).cell? ⟨w.heap.size,3,none⟩=some K/\(w.alloc (xeO op num aZ K aW)).cell? ⟨w.heap.size,4,none⟩=some (.int .i64 aW):=by
 refine⟨?_,?_,?_,?_,?_⟩<;>(rw[wy _ _ _ _ _ _ (ye w _)];rfl)
def znh(op num:Int)(aZ:List Nat)(aX:List Xe)(aW:Int)(hE:EC (.mk op num aZ aX aW))(B cB g b:Nat)(fs:List Xf)(res:Int)(sc:zX)(w:World)(v:Value)(fv:Value)(fits:Int->Bool)
  (hc:Cx w B cB g fs res) (hs:Sco w b sc) (hv:XeV w (Lo B) (.mk op num aZ aX aW) v) (hf:FitV w fv fits) :
  Calls prog 273 #[.pointer (some ⟨cB,0,none⟩),v,.map (some b),fv] w fun x w'=>TOut (zM fits (aW,qk (zh fs) sc (.mk op num aZ aX aW))) x w'/\Below w.heap.size w w':=by
 have hv0:=hv;obtain⟨K,rfl,ht,hk⟩:=hv;obtain⟨A,c,rfl⟩:=zu hk;have hB:B<=w.heap.size:=by have:=hc.lt;have:=hc.hc;omega
 have BA:=aQ (za w (xeO op num aZ (.slice A aX.length c) aW));have HC:=aQ (hc.below BA.out);have HK:=aQ (hE B cB g b fs res sc _ _ (hc.below BA.out) (hs.below BA.out) (hv0.same (zk BA.out hB)));have HF:=aQ (hf.below BA.out);have c4:=(qx w op num aZ (.slice A aX.length c) aW).2.2.2.2;obtain⟨fn,caps,D,rfl,hent,_⟩:=hf;have he':∀(args:Array Value) (w:World),(callFunc fn args).run prog w=.ok (.enter fn args) w:=hent
 unfold xeC at *
 simp only[Xe.op,Xe.num,Xe.aZ,Xe.aX,Xe.aW]at *
 clear hv0 hc hs ht hk hE hent
 generalize qk (zh fs) sc (.mk op num aZ aX aW)=r at *
 go_enter func273,ntmps273
 go_wp2_with fail
 have HSZ:Hid (w.heap.size<(w.alloc (xeO op num aZ (.slice A aX.length c) aW)).heap.size):=by show _<_;simp
 generalize w.alloc (.cells #[.int .i64 op,.int .i64 num,.string (strN aZ),.slice A aX.length c,.int .i64 aW] 202)=w0 at *
 refine HK.out.mono ?_;rintro x w1 ⟨⟨vf,rfl,hvf⟩,b1⟩;have HV:=aQ hvf;have B1:=aQ (zd BA.out b1 BA.out.size);have d4:w1.cell? ⟨w.heap.size,4,none⟩=some (.int .i64 aW):=by rw[b1.cell (by exact HSZ.out)];exact c4
 have HF1:=aQ (HF.out.below b1);clear c4 b1 HK HF;cases r with
 | bad cc pp=>
  obtain⟨bf,rfl,_⟩:=hvf;have HE:Hid (zM fits (aW,Rt.bad cc pp)=.bad cc pp):=rfl;clear HF1;go_wp2
  go_ret2
  exact⟨⟨_,rfl,by rw[HE.out];exact HV.out⟩,B1.out⟩
 | ok t=>
  obtain rfl:vf=.pointer none:=hvf;have HK2:Hid (Calls prog fn (#[.int .i64 t]++caps) w1 fun e w'=>e=.returned (.bool (fits t))/\Below w1.heap.size w1 w'):=by
   obtain⟨fn2,caps2,D2,e,_,h1,h2⟩:=HF1.out;injection e with e1 e2 e3
   injection e1 with e1
   subst e1 e3;exact h2 t w1 (fun k _=>rfl) (aR _)
  have HL:Hid (w.heap.size<w1.heap.size):=wW w1 _ d4;clear HF1;simp only[Rt.val]
  (go_wp2_with fail);refine HK2.out.mono ?_;rintro x w2 ⟨rfl,b2⟩;have B2:=aQ (zd B1.out b2 B1.out.size);have d4':w2.cell? ⟨w.heap.size,4,none⟩=some (.int .i64 aW):=by rw[b2.cell (by exact HL.out)];exact d4
  clear d4 b2 HK2;cases hft:fits t with
  | true=>
   have HE:Hid (zM fits (aW,Rt.ok t)=.ok t):=by show _=_;simp[zM,hft]
   clear hft;go_wp2
   go_ret2
   exact⟨⟨_,by rw[HE.out];rfl,by rw[HE.out];rfl⟩,B2.out⟩
  | false=>
   have HE:Hid (zM fits (aW,Rt.ok t)=.bad 51 aW):=by show _=_;simp[zM,hft]
   clear hft
   go_wp2_with fail
   go_region
   go_wp2
   go_ret2
   exact⟨⟨_,by rw[HE.out];rfl,by rw[HE.out];exact xK w2 51 aW⟩,(B2.out.alloc B2.out.size _).drew⟩
def vQ(e:Xe)(hE:EC e)(B cB g b:Nat)(fs:List Xf)(res:Int)(sc:zX)(w:World)(v:Value)(fv:Value)(fits:Int->Bool)
  (hc:Cx w B cB g fs res) (hs:Sco w b sc) (hv:XeV w (Lo B) e v) (hf:FitV w fv fits) :
  Calls prog 273 #[.pointer (some ⟨cB,0,none⟩),v,.map (some b),fv] w fun x w'=>TOut (zM fits (e.aW,qk (zh fs) sc e)) x w'/\Below w.heap.size w w':=by
 obtain⟨op,num,aZ,aX,aW⟩:=e;exact znh op num aZ aX aW hE B cB g b fs res sc w v fv fits hc hs hv hf
def OpsI(B cB g b:Nat)(fs:List Xf)(res:Int)(sc:zX)(fits:Int->Bool)(fv:Value)(b1 b2 b3:Nat)(l:List Xe)(ks:List Value)(V:Value)(w:World):Prop:=
 Cx w B cB g fs res/\Sco w b sc/\FitV w fv fits/\w.cell? ⟨b1,0,none⟩=some (.pointer (some ⟨cB,0,none⟩))/\w.cell? ⟨b2,0,none⟩=some (.map (some b))/\w.cell? ⟨b3,0,none⟩=some fv /\
  ks.length=l.length/\RowF w (Lo B) l.length (xesC l ks) V/\(∀e∈l,Byn e.aZ)/\∀(i:Nat) (e:Xe) (k:Value),l[i]? =some e->ks[i]? =some k->XesC w (Lo B) e.aX k
def zb{a:Addr}{v:Value}(h:w.cell? a=some v)(hb:Below w.heap.size w w'):w'.cell? a=some v:=by rw[hb.cell (wW w _ h)];exact h
def OpsI.below{B cB g b:Nat}{fs:List Xf}{res:Int}{sc:zX}{fits:Int->Bool}{fv:Value}{b1 b2 b3:Nat}{l:List Xe}{ks:List Value}{V:Value}
  (h:OpsI B cB g b fs res sc fits fv b1 b2 b3 l ks V w) (hb:Below w.heap.size w w'):OpsI B cB g b fs res sc fits fv b1 b2 b3 l ks V w':=by
 obtain⟨h1,h2,h3,h4,h5,h6,h7,h8,h9,h10⟩:=h;have hs:=zk hb (B:=B) (by have:=h1.lt;have:=h1.hc;omega);exact⟨h1.below hb,h2.below hb,h3.below hb,zb h4 hb,zb h5 hb,zb h6 hb,h7,h8.same hs,h9,fun i e k he hk=>(h10 i e k he hk).same hs⟩
def zh9(e:Xe)(hE:EC e)(B cB g b:Nat)(fs:List Xf)(res:Int)(sc:zX)(w:World)(k:Value)(A:Option Addr)(c:Nat)(hkk:k=.slice A e.aX.length c)(fv:Value)(fits:Int->Bool)(b1 b2 b3:Nat)
  (hc:Cx w B cB g fs res) (hs:Sco w b sc) (hv:XeV w (Lo B) e (.agg (xeC e k).toArray)) (hf:FitV w fv fits)
  (h1:w.cell? ⟨b1,0,none⟩=some (.pointer (some ⟨cB,0,none⟩))) (h2:w.cell? ⟨b2,0,none⟩=some (.map (some b))) (h3:w.cell? ⟨b3,0,none⟩=some fv) :
  Calls prog 279 #[.agg (xeC e k).toArray,.pointer (some ⟨b1,0,none⟩),.pointer (some ⟨b2,0,none⟩),.pointer (some ⟨b3,0,none⟩)] w fun x w'=>FOut (zM fits (e.aW,qk (zh fs) sc e)).err x w'/\Below w.heap.size w w':=by
 subst hkk;have hB:B<=w.heap.size:=by have:=hc.lt;have:=hc.hc;omega
 have BA:=aQ (za w (.cells (xeC e (.slice A e.aX.length c)).toArray 202));have HK:=aQ (vQ e hE B cB g b fs res sc _ _ fv fits (hc.below BA.out) (hs.below BA.out) (hv.same (zk BA.out hB)) (hf.below BA.out));have g1:=zb h1 BA.out;have g2:=zb h2 BA.out;have g3:=zb h3 BA.out;obtain⟨fn,caps,D,rfl,_⟩:=hf
 generalize zM fits (e.aW,qk (zh fs) sc e)=r at *
 unfold xeC at *
 clear hc hs hv hE h1 h2 h3;go_enter func279,ntmps279;go_upto_region 1 with fail
 have hz:(w.alloc (.cells (#[Value.int .i64 e.op,.int .i64 e.num,.string (strN e.aZ),.slice A e.aX.length c,.int .i64 e.aW]) 202)).cell? ⟨w.heap.size,0,none⟩=some (.int .i64 e.op):=(qx w e.op e.num e.aZ (.slice A e.aX.length c) e.aW).1;have hz1:=(qx w e.op e.num e.aZ (.slice A e.aX.length c) e.aW).2.1;have hz2:=(qx w e.op e.num e.aZ (.slice A e.aX.length c) e.aW).2.2.1;have hz3:=(qx w e.op e.num e.aZ (.slice A e.aX.length c) e.aW).2.2.2.1;have hz4:=(qx w e.op e.num e.aZ (.slice A e.aX.length c) e.aW).2.2.2.2
 generalize w.alloc (.cells #[.int .i64 e.op,.int .i64 e.num,.string (strN e.aZ),.slice A e.aX.length c,.int .i64 e.aW] 202)=w0 at *
 go_wp2_with fail
 refine HK.out.mono ?_;rintro x w1 ⟨⟨vf,rfl,hvf⟩,b1⟩;have HV:=aQ hvf;have B1:=aQ (zd BA.out b1 BA.out.size);clear b1 HK g1 g2 g3 hz hz1 hz2 hz3 hz4;cases r with
 | bad cc pp=>
  obtain⟨bf,rfl,_⟩:=hvf;go_wp2;go_ret;exact⟨⟨_,rfl,HV.out⟩,B1.out⟩
 | ok t=>
  obtain rfl:vf=.pointer none:=hvf;go_wp2;go_ret;exact⟨⟨_,rfl,HV.out⟩,B1.out⟩
def zg3:∀(l:List Xe) (ks:List Value),xesC l ks=(l.zip ks).flatMap fun a=>xeC a.1 a.2
 | [],_=>by simp[xesC]
 | _::_,[]=>by simp[xesC]
 | e::l,k::ks=>by
  have:=zg3 l ks;unfold xesC at this⊢;rw[List.zipWith_cons_cons,List.flatten_cons,this,List.zip_cons_cons,List.flatMap_cons]
def jm{α β:Type}{l:List α}{ks:List β}{a:α×β}(h:a∈l.zip ks):∃i:Nat,l[i]? =some a.1/\ks[i]? =some a.2:=by
 obtain⟨i,hi⟩:=List.getElem?_of_mem h;rw[List.getElem?_zip_eq_some]at hi;exact⟨i,hi⟩
def zgh(T:Tab5)(sc:zX)(fits:Int->Bool):Unit->Xe×Value->Er×Unit:=fun _ a=>((zM fits (a.1.aW,qk T sc a.1)).err,())
def zbd(T:Tab5)(sc:zX)(fits:Int->Bool):∀(l:List Xe) (ks:List Value),ks.length=l.length->(runL (zgh T sc fits) () (l.zip ks)).1=allR fits (zE T sc l)
 | [],[],_=>by simp[runL,zE,allR]
 | [],k::ks,h=>by simp at h
 | e::l,[],h=>by simp at h
 | e::l,k::ks,h=>by
  have ih:=zbd T sc fits l ks (by simpa using h);rw[List.zip_cons_cons];simp only[zE,allR];cases hr:zM fits (e.aW,qk T sc e)with
  | bad c p=>exact jB (by simp[zgh,hr,Rt.err])
  | ok t=>rw[jt (by simp[zgh,hr,Rt.err])];exact ih
def zlu{e:Xe}{k:Value}(h:XesC w D e.aX k):k.oneCell'=true:=by obtain⟨A,c,rfl⟩:=zu h;rfl
def zm7(l:List Xe)(hE:∀e∈l,EC e)(B cB g b:Nat)(fs:List Xf)(res:Int)(sc:zX)(fits:Int->Bool)(fv:Value)(b1 b2 b3:Nat)(ks:List Value)(V:Value)(w:World)(h:OpsI B cB g b fs res sc fits fv b1 b2 b3 l ks V w):Calls prog 278 #[V,.func (.func 279) #[] #[.pointer (some ⟨b1,0,none⟩),.pointer (some ⟨b2,0,none⟩),.pointer (some ⟨b3,0,none⟩)]] w fun x w'=>FOut (allR fits (zE (zh fs) sc l)) x w'/\Below w.heap.size w w':=by
 have hk:ks.length=l.length:=h.2.2.2.2.2.2.1;have hz:(l.zip ks).length=l.length:=by rw[List.length_zip];omega
 refine(ztl (zgh (zh fs) sc fits) (fun a=>.int .i64 a.1.op) (fun a=>.int .i64 a.1.num) (fun a=>.string (strN a.1.aZ)) (fun a=>a.2) (fun a=>.int .i64 a.1.aW)
  (fun _ w=>OpsI B cB g b fs res sc fits fv b1 b2 b3 l ks V w) none (l.zip ks) V B 279 #[.pointer (some ⟨b1,0,none⟩),.pointer (some ⟨b2,0,none⟩),.pointer (some ⟨b3,0,none⟩)] (by intro args w;simp)
  (fun _ _ _ h hb=>h.below hb) (fun _ w h=>?_) ?_ ?_ () w h).mono ?_
 ·rw[hz];have:=h.2.2.2.2.2.2.2.1;rw[zg3]at this;exact this
 ·intro a ha u hu;obtain⟨i,g1,g2⟩:=jm ha;have:=zlu (h.2.2.2.2.2.2.2.2.2 i a.1 a.2 g1 g2);simp at hu;rcases hu with rfl|rfl|rfl|rfl|rfl<;>first|rfl|exact this
 ·intro _ a w1 ha h1;obtain⟨i,g1,g2⟩:=jm ha;have hkid:=h1.2.2.2.2.2.2.2.2.2 i a.1 a.2 g1 g2;obtain⟨A,c,hA⟩:=zu hkid;refine(zh9 a.1 (hE _ (wM g1)) B cB g b fs res sc w1 a.2 A c hA fv fits b1 b2 b3 h1.1 h1.2.1 ⟨a.2,rfl,h1.2.2.2.2.2.2.2.2.1 _ (wM g1),hkid⟩ h1.2.2.1 h1.2.2.2.1 h1.2.2.2.2.1 h1.2.2.2.2.2.1).mono ?_;rintro e w2 ⟨ho,hb⟩;exact⟨ho,fun _=>h1.below hb,wK hb⟩
 ·rintro e w' ⟨ho,_,hg⟩;exact⟨by rw[<- zbd (zh fs) sc fits l ks hk];exact ho,j6 hg⟩
def kn(l:List Xe)(hE:∀e∈l,EC e)(B cB g b:Nat)(fs:List Xf)(res:Int)(sc:zX)(w:World)(V:Value)(fv:Value)(fits:Int->Bool)
  (hc:Cx w B cB g fs res) (hs:Sco w b sc) (hv:XesC w (Lo B) l V) (hf:FitV w fv fits) :
  Calls prog 250 #[.pointer (some ⟨cB,0,none⟩),V,.map (some b),fv] w fun x w'=>FOut (allR fits (zE (zh fs) sc l)) x w'/\Below w.heap.size w w':=by
 obtain⟨A,c,hV⟩:=zu hv;subst hV;obtain⟨ks,hk,hrow,htx,hkids⟩:∃ks:List Value,ks.length=l.length/\RowF w (Lo B) l.length (xesC l ks) (.slice A l.length c)/\(∀e∈l,Byn e.aZ)/\∀(i:Nat) (e:Xe) (k:Value),l[i]? =some e->ks[i]? =some k->XesC w (Lo B) e.aX k:=by
  cases hv with
  | mk _ ks _ hk h1 ht h2=>exact⟨ks,hk,h1,ht,h2⟩
 have hB:B<=w.heap.size:=by have:=hc.lt;have:=hc.hc;omega
 obtain⟨fn,caps,D,hfv,hfr⟩:=hf;have hf:FitV w fv fits:=⟨fn,caps,D,hfv,hfr⟩;subst hfv;have BA1:=za w (.cells #[.pointer (some ⟨cB,0,none⟩)] 241);have BA2:=za (w.alloc (.cells #[.pointer (some ⟨cB,0,none⟩)] 241)) (.cells #[.map (some b)] 238);have BA3:=za ((w.alloc (.cells #[.pointer (some ⟨cB,0,none⟩)] 241)).alloc (.cells #[.map (some b)] 238)) (.cells #[.func (.func fn) #[] caps] 240);have e1:=zb (zb (show(w.alloc (.cells #[.pointer (some ⟨cB,0,none⟩)] 241)).cell? ⟨w.heap.size,0,none⟩=some (.pointer (some ⟨cB,0,none⟩)) by rw[wy _ _ _ _ _ _ (ye w _)];rfl) BA2) BA3
 have e2:=zb (show((w.alloc (.cells #[.pointer (some ⟨cB,0,none⟩)] 241)).alloc (.cells #[.map (some b)] 238)).cell? ⟨w.heap.size+1,0,none⟩=some (.map (some b)) by
  rw[show w.heap.size+1=(w.alloc (.cells #[.pointer (some ⟨cB,0,none⟩)] 241)).heap.size by simp,wy _ _ _ _ _ _ (ye _ _)];rfl) BA3
 have e3:(((w.alloc (.cells #[.pointer (some ⟨cB,0,none⟩)] 241)).alloc (.cells #[.map (some b)] 238)).alloc (.cells #[.func (.func fn) #[] caps] 240)).cell? ⟨w.heap.size+1+1,0,none⟩=some (.func (.func fn) #[] caps):=by
  rw[show w.heap.size+1+1=((w.alloc (.cells #[.pointer (some ⟨cB,0,none⟩)] 241)).alloc (.cells #[.map (some b)] 238)).heap.size by simp,wy _ _ _ _ _ _ (ye _ _)];rfl
 have BA:=zd (zd BA1 BA2 BA1.size) BA3 (zd BA1 BA2 BA1.size).size;have HB:=aQ BA
 have K:=aQ (zm7 l hE B cB g b fs res sc fits (.func (.func fn) #[] caps) w.heap.size (w.heap.size+1) (w.heap.size+1+1) ks (.slice A l.length c) _
  ⟨hc.below BA,hs.below BA,hf.below BA,e1,e2,e3,hk,hrow.same (zk BA hB),htx,fun i e k he hk=>(hkids i e k he hk).same (zk BA hB)⟩)
 have hmf:=hmf5;clear hc hs hv hrow htx hkids hfr hf BA1 BA2 BA3 BA e1 e2 e3 hk hE;go_enter func250,ntmps250
 go_wp2_with fail
 with_reducible refine K.out.mono ?_
 rintro e w1⟨⟨v,rfl,hv⟩,b1⟩;have HV:=aQ hv;have B1:=aQ (zd HB.out b1 HB.out.size);clear hv b1 K HB;go_wp2;go_ret;exact⟨⟨_,rfl,HV.out⟩,B1.out⟩
def zwa(op num:Int)(aZ:List Nat)(aX:List Xe)(aW:Int)(cB:Nat)(b:Nat)(sc:zX)(w:World)(A:Option Addr)(c:Nat)(ht:Byn aZ)(hs:Sco w b sc):Calls prog 322 #[.pointer (some ⟨cB,0,none⟩),.agg #[.int .i64 op,.int .i64 num,.string (strN aZ),.slice A aX.length c,.int .i64 aW],.map (some b)] w fun x w'=>TOut (zfj sc aZ aW) x w'/\Below w.heap.size w w':=by
 have BA:=aQ (za w (xeO op num aZ (.slice A aX.length c) aW));have HS:=aQ (hs.below BA.out);obtain⟨z0,z1,z2,z3,z4⟩:=qx w op num aZ (.slice A aX.length c) aW;have hl:w.heap.size<(w.alloc (xeO op num aZ (.slice A aX.length c) aW)).heap.size:=by simp
 clear hs;go_enter func322,ntmps322;go_upto_region 1 with fail
 generalize w.alloc (.cells #[.int .i64 op,.int .i64 num,.string (strN aZ),.slice A aX.length c,.int .i64 aW] 202)=w0 at *
 have hrun:=vh HS.out ht;have HL:=aQ hl;clear hl;cases hk:seek sc aZ with
 | none=>
  rw[hk]at hrun;simp only[Option.map_none,Option.getD_none,Option.isSome_none]at hrun;have HE:Hid (zfj sc aZ aW=.bad 52 aW):=by show _=_;simp[zfj,hk]
  clear hk HS;(go_upto_region 3 with fail);have B2:=za w0 (.cells #[.int .i64 0,.bool false] 270);have z4':=zb z4 B2;have HB:=aQ (zd BA.out B2 BA.out.size);clear z0 z1 z2 z3 z4 hrun B2 BA HL
  generalize w0.alloc (.cells #[.int .i64 0,.bool false] 270)=w1 at *
  go_region
  go_wp2
  go_ret2
  exact⟨⟨_,by rw[HE.out];rfl,by rw[HE.out];exact xK w1 52 aW⟩,(HB.out.alloc HB.out.size _).drew⟩
 | some d=>
  rw[hk]at hrun;simp only[Option.map_some,Option.getD_some,Option.isSome_some]at hrun;have HE:Hid (zfj sc aZ aW=.ok d.1):=by show _=_;simp[zfj,hk]
  clear hk HS z0 z1 z3 z4 HL;go_wp2
  go_ret2
  exact⟨⟨_,by rw[HE.out];rfl,by rw[HE.out];rfl⟩,BA.out.alloc BA.out.size _⟩
def oneC(op num:Int)(aZ:List Nat)(aX:List Xe)(aW:Int)(hE:∀e∈aX,EC e)(B cB g b:Nat)(fs:List Xf)(res:Int)(sc:zX)(w:World)(A:Option Addr)(c:Nat)
  (hc:Cx w B cB g fs res) (hs:Sco w b sc) (ht:Byn aZ) (hk:XesC w (Lo B) aX (.slice A aX.length c)) :
  Calls prog 325 #[.pointer (some ⟨cB,0,none⟩),.agg #[.int .i64 op,.int .i64 num,.string (strN aZ),.slice A aX.length c,.int .i64 aW],.map (some b)] w fun x w'=>TOut (oneR (jT op aZ) (zE (zh fs) sc aX)) x w'/\Below w.heap.size w w':=by
 have hB:B<=w.heap.size:=by have:=hc.lt;have:=hc.hc;omega
 have BA:=aQ (za w (xeO op num aZ (.slice A aX.length c) aW));have KU:=aQ (zsc op num aZ (.slice A aX.length c) aW · ht)
 have HKO:Hid (∀w' fv fits,Below w.heap.size w w'->FitV w' fv fits->Calls prog 250 #[.pointer (some ⟨cB,0,none⟩),.slice A aX.length c,.map (some b),fv] w' fun x w''=>FOut (allR fits (zE (zh fs) sc aX)) x w''/\Below w'.heap.size w' w''):=
  fun w' fv fits hb hf=>kn aX hE B cB g b fs res sc w' _ fv fits (hc.below hb) (hs.below hb) (hk.same (zk hb hB)) hf
 obtain⟨z0,z1,z2,z3,z4⟩:=qx w op num aZ (.slice A aX.length c) aW
 generalize jT op aZ=u at *
 generalize zE (zh fs) sc aX=rs at *
 clear hc hs hk hE ht;go_enter func325,ntmps325;go_upto_region 1 with fail
 generalize w.alloc (.cells #[.int .i64 op,.int .i64 num,.string (strN aZ),.slice A aX.length c,.int .i64 aW] 202)=w0 at *
 go_wp2_with fail
 refine(KU.out _).mono ?_;rintro x w1 ⟨rfl,b1⟩;have y3:=zb z3 b1;have B1:=aQ (zd BA.out b1 BA.out.size);clear z0 z1 z2 z3 z4 b1 BA KU;go_upto_region 2 with fail
 have hbl:Below w1.heap.size w1 w1.drew:=(Below.refl _ _).drew;have HQ:Hid (∀w',Below w1.heap.size w1 w'->w'.cell? ⟨w.heap.size,3,none⟩=some (.slice A aX.length c)):=fun w' hb=>zb y3 hb;clear y3
 go_region_held3(fun w'=>w'.cell? ⟨w.heap.size,3,none⟩=some (.slice A aX.length c))
  (with_reducible exact HQ.out _ hbl)
  (first|(go_at_call 251;refine(isC _ _).mono ?_;rintro e wn ⟨v,rfl,hf,hbn⟩;have HF:=aQ hf.less;obtain⟨fn,caps,D,rfl,_⟩:=hf;replace hbl:=zd hbl hbn hbl.size)|(go_at_call 250;refine(HKO.out _ _ _ (zd B1.out hbl B1.out.size) HF.out).mono ?_;rintro e wn2 ⟨⟨v,rfl,hv⟩,hbn2⟩;replace hbl:=zd hbl hbn2 hbl.size))
 have HV:=aQ hv;have B2:=aQ (zd B1.out hbl B1.out.size);clear hbn hbn2 hbl HQ;cases hr:allR (fun t=>t==u.1) rs with
 | none=>
  rw[hr]at hv;obtain rfl:v=.pointer none:=hv;have HE:Hid (oneR u rs=.ok u.2):=by show _=_;simp[oneR,hr]
  clear hr;go_wp2
  go_ret2
  exact⟨⟨_,by rw[HE.out];rfl,by rw[HE.out];rfl⟩,B2.out⟩
 | some er=>
  rw[hr]at hv HV;obtain⟨b',rfl,_⟩:=hv;have HE:Hid (oneR u rs=.bad er.1 er.2):=by show _=_;simp[oneR,hr]
  clear hr;go_wp2
  go_ret2
  exact⟨⟨_,by rw[HE.out];rfl,by rw[HE.out];exact HV.out⟩,B2.out⟩
end
end
end Go.Proofs.YtcilgkdnjgmogaaGreatDoor
