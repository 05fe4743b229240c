/- A part of the proof. -/
import Derived.Test.YtcilgkdnjgmogaaGreatDoorYO
import Derived.Deep.DeepCutAuto
import Derived.Lib.AppendZeros
namespace Go.Proofs.YtcilgkdnjgmogaaGreatDoor
open Go.Proofs.Tryz
set_option maxRecDepth 100000
set_option maxHeartbeats 12800000
set_option linter.all false
variable {A A0:Option Addr} {B c cp g i k m n n0:Nat} {M:Nat->Prop} {e:TypeId} {n1 t0:Int} {s:List Nat} {u:Value} {w w' w0 w1 w2:World} {xs:List Value}
section
section
open Go.RowKit
def zg4{base:Nat}{v:Value}(h:w.ownsRow base e 1 v n xs):∀ad k c,v=.slice (some ad) k c->base<=ad.block:=by
 intro ad k c hv;rcases h.2 with⟨rfl,_⟩|⟨g,cap,cur,rfl,hb,_⟩
 ·cases hv
 ·injection hv with h1
  injection h1 with h1
  subst h1;exact hb
def Lies.other{l:List Value}(h:Lies w B A c l)(hA:∀ad,A=some ad->ad.block≠g)(hk:∀k,k≠g->w'.heap[k]? =w.heap[k]?):Lies w' B A c l:=
 ⟨h.1,fun j u hu=>by
  obtain⟨ad,e,hb,hc⟩:=h.2 j u hu
  exact⟨ad,e,hb,by rw[yp (hk _ (by rw[qh];exact hA ad e))];exact hc⟩⟩
def zk2(w:World)(l:List Int)(e:Ending)(w':World):Prop:=
 ∃A' c',e=.returned (.slice A' l.length c')/\l.length<=c'/\c'<=maxLen/\Lies w' w'.heap.size A' c' (zA l)/\(∀ad,A'=some ad->w.heap.size<=ad.block)/\Below w.heap.size w w'
def zjc(w:World):(w.alloc (.cells #[] 5)).ownsRow w.heap.size 5 1 (.slice (some ⟨w.heap.size,0,none⟩) 0 0) 0 []:=
 World.ownsRow_made w #[] 0 (aR _) (aK _) rfl
def zmf(w:World)(A:Option Addr)(n c:Nat):(binOp .eql 22 (.slice A n c) (.slice none 0 0)).run prog w=.ok (.bool A.isNone) w:=by
 simp only[binOp];simp[run_equal_slice_nil w 22 5 A n c underlying22]
def zso(A:Option Addr)(l:List Int)(c:Nat)(w:World)(hl:Lies w w.heap.size A c (zA l))(hlen:l.length<=140737488355328):Calls prog 260 #[.slice A l.length c] w (zk2 w l):=by
 obtain⟨i0,hi,hz0,hz1,hz2⟩:=info_parts zjf;cases A with
 | none=>
  obtain⟨h1,rfl⟩:=hl.none_nil;have h2:l=[]:=by simpa using h1
  subst h2;clear h1 hl hlen;have hnil:=zmf w none 0 0;go_enter func260,ntmps260;go_wp2;go_ret;exact⟨none,0,rfl,aR _,aK _,Lies.nothing _ _,(fun _ h=>by cases h),Below.refl _ _⟩
 | some ad=>
  have ho:=zjc w;have hb:=(Below.refl w.heap.size w).alloc (aR _) (.cells #[] 5);have hl1:=hl.below hb;clear hl;have hnil:=zmf w (some ad) l.length c;go_enter func260,ntmps260
  go_wp2_with(at_builtin;refine qV rfl (.tmp 5) (.tmp 6) 22 rfl w.heap.size 5 i0 (.int .u8 0) 1 underlying22 hi hz0 hz1 hz2 rfl _ 0 [] rfl ho w.heap.size (some ad) l.length c (zA l) rfl (by simp) hl1 (xX l) (by unfold maxLen;omega) (by omega) (by simp) ?_;intro v2 w2 ho2 hg2)
  obtain⟨A2,c2,rfl,h1,h2,h3⟩:=xG ho2;have h4:=zg4 ho2;have H4:=aQ h4;clear h4;go_wp2;go_ret;simp only[Nat.zero_add,List.nil_append]at h1 h3⊢;exact⟨A2,c2,rfl,h1,h2,h3,(fun ad e=>H4.out ad _ _ (by rw[e])),hb.grown hg2 (by simp) (fun k hk=>(ho.lt k hk).1)⟩
def zp1(w:World)(l:List Int)(e:Ending)(w':World):Prop:=
 ∃A' c',e=.returned (VV 3 0 (.slice A' l.length c'))/\l.length<=c'/\c'<=maxLen/\Lies w' w'.heap.size A' c' (zA l)/\(∀ad,A'=some ad->w.heap.size<=ad.block)/\Below w.heap.size w w'
def zul(A:Option Addr)(l:List Int)(n c:Nat)(hn:l.length=n)(w:World)(hl:Lies w w.heap.size A c (zA l))(hlen:n<=140737488355328):Calls prog 227 #[.slice A n c] w (zp1 w l):=by
 subst hn;have HL:=aQ ((hl.below (za w zO)).more (Nat.le_succ _));clear hl;go_enter func227,ntmps227
 go_wp2_with fail
 refine(zso A l c _ (by simpa using HL.out) hlen).mono ?_;rintro e w1 ⟨A1,c1,rfl,h1,h2,h3,h4,hb1⟩;have HT:=zG (xE w) hb1 (by simp);have H3:=aQ h3;have H4:=aQ h4;clear h3 h4
 go_wp2_with(refine zi zEl rfl (.tmp 2) (.tmp 5) rfl rfl w.heap.size rfl [_,_,_] rfl rfl HT (by simp[Value.oneCell']) ?_;intro w2 g1 g2 g3 g4 g5)
 refine vS (zU (cs:=[_,_,_]) results227 underlying41 rfl zEl _ _ w.heap.size rfl g1) rfl ?_;refine⟨A1,c1,rfl,h1,h2,?_,fun ad e=>?_,((za w zO).trans (hb1.mono (by simp))).trans g3⟩
 ·rw[g5];exact H3.out.other (fun ad e=>by have:=H4.out ad e;simp at this;omega) g4
 ·have:=H4.out ad e;simp at this;omega
def zxk{l:List Value}(h:Lies w w.heap.size A c l)(a b:Obj):Lies ((w.alloc a).alloc b) ((w.alloc a).alloc b).heap.size A c l:=
 (h.below (xD w a b)).more (by simp;omega)
def zx9(t m:Int)(A B:Option Addr)(s:List Int)(n c d:Nat)(hn:s.length=n)(w:World)(hs:Lies w w.heap.size A c (zA s))(hu:Lies w w.heap.size B d (zA s)):Calls prog 28 #[VV t m (.slice A n c),VV t m (.slice B n d)] w fun e w'=>e=.returned (.bool true)/\Below w.heap.size w w':=by
 have q1:=js (P:=prog) _ 22 9 5 underlying22 underlying5 underlying9 _ A n c s hn (zxk hs (vO t m (.slice A n c)) (vO t m (.slice B n d)));have q2:=js (P:=prog) _ 22 9 5 underlying22 underlying5 underlying9 _ B n d s hn (zxk hu (vO t m (.slice A n c)) (vO t m (.slice B n d)))
 generalize strOfNums s=S at *
 clear hs hu;go_enter func28,ntmps28;go_wp2;go_ret;exact⟨rfl,xD _ _ _⟩
def ztg(w:World)(B:Nat)(A:Option Addr)(c:Nat)(ls:List (List Int)):Prop:=
 (A=none->c=0)/\∀i l,ls[i]? =some l->∃ad A' c',A=some ad/\ad.block<B/\w.cell? (ad.add i)=some (.slice A' l.length c')/\l.length<=c'/\c'<=maxLen/\Lies w B A' c' (zA l)
def jh(ls:List (List Int))(k:Nat):Nat:=((ls.take k).map List.length).sum
def zda(ls:List (List Int))(k:Nat):List Int:=(ls.take k).flatten
def zbx{α:Type}{ls:List α}{l:α}(h:ls[k]? =some l):ls.take (k+1)=ls.take k++[l]:=by
 rw[List.take_add_one,h];rfl
def zbg{ls:List (List Int)}{l:List Int}(h:ls[k]? =some l):jh ls (k+1)=jh ls k+l.length:=by
 simp[jh,zbx h]
def ziq{ls:List (List Int)}{l:List Int}(h:ls[k]? =some l):zda ls (k+1)=zda ls k++l:=by
 simp[zda,zbx h]
def zop{ls:List (List Int)}(k:Nat):jh ls k<=jh ls ls.length:=by
 unfold jh;rw[List.take_length]
 conv=>rhs;rw[<- List.take_append_drop k ls]
 rw[List.map_append,List.sum_append];omega
def zv9(n:Nat)(hn:n<=256)(w:World):Calls prog 345 #[.slice none 0 0,.int .i64 n] w fun e w'=>∃v,e=.returned v/\w'.ownsRow w.heap.size 5 1 v 0 []/\Below w.heap.size w w':=by
 obtain⟨i0,hi,hz0,hz1,hz2⟩:=info_parts zjf;by_cases h0:n=0
 ·subst h0;go_enter func345,ntmps345;go_wp2;go_ret;exact⟨_,rfl,World.ownsRow_nil _ _ _ _,Below.refl _ _⟩
 ·have hr:=fun ty=>Lib.run_append_nil_zeros (P:=prog) w 22 3 ty 5 i0 (.int .u8 0) .i64 .i64 underlying22 underlying3 hi hz0 n (by omega) (by rw[show i0.size=1 from hz1];omega) (by omega) (by rw[show i0.bytes=1 from hz2];omega);have hc1:=grownCap_ge w n 0 5;have hc2:=grownCap_le_maxLen w n 0 5 (by unfold maxLen;omega)
  generalize hcap:grownCap w n 0 5=cap at *
  have hsz:(Builtin.zeroCells (Value.int .u8 0).cells n++Builtin.zeroCells (Value.int .u8 0).cells (cap-n)).size=cap:=by
   simp[Builtin.zeroCells,Value.cells];omega
  generalize Builtin.zeroCells (Value.int .u8 0).cells n++Builtin.zeroCells (Value.int .u8 0).cells (cap-n)=C at *
  have hpos:0<n:=by omega
  have hc3:=hc2;unfold maxLen at hc3;have HO:=aQ (World.ownsRow_made (base:=w.heap.size) (e:=5) (size:=1) w.drew C cap (aR _) hc2 (by rw[hsz];simp));have HR:=aQ hr;clear hr hsz h0 hi hz0 hz1 hz2 hcap hc2;go_enter func345,ntmps345
  go_wp2_with(at_builtin;refine Lib.wpList_append_run _ rfl (.tmp 20) (.tmp 21) 22 3 rfl _ _ rfl rfl _ _ (HR.out _) ?_)
  go_ret;exact⟨_,rfl,HO.out,((Below.refl _ _).drew).alloc (aR _) _⟩
def zq7(A:Option Addr)(c:Nat)(ls:List (List Int))(n:Nat)(w:World)(hn:ls.length=n)(hg:ztg w w.heap.size A c ls)(hn2:n<=2)(hc:n<=c)(hlen:jh ls n<=256):Calls prog 333 #[.slice A n c] w fun e w'=>∃v,e=.returned v/\w'.ownsRow w.heap.size 5 1 v (jh ls n) (zA (zda ls n))/\Below w.heap.size w w':=by
 have HB:Hid (∀k,jh ls k<=256):=fun k=>by have:=zop (ls:=ls) k;rw[hn]at this;omega
 have HZ:Hid (jh ls 0=0/\zda ls 0=[]):=⟨by simp[jh],by simp[zda]⟩;have HG:=aQ hg;have HN:=aQ hn;clear hg hlen hn;obtain⟨i0,hi,hz0,hz1,hz2⟩:=info_parts zjf;go_enter func333,ntmps333;go_wp2
 go_loop [3,11] (fun s i=>∃k:Nat,k<=n/\i=.int .i64 k/\s=.int .i64 (jh ls k)) (fun _ i=>n-(intOf i).toNat)
 case atStart=>exact⟨0,aK _,rfl,by rw[HZ.out.1];rfl⟩
 case round=>
  obtain⟨k,hk,rfl,rfl⟩:=hrel;have hsz:=HB.out k;by_cases hkl:k<n
  ·obtain⟨l,hl⟩:∃l,ls[k]? =some l:=⟨_,vp (by have:=HN.out;omega)⟩;have HX:=aQ (zbg hl);have hsz2:jh ls k+l.length<=256:=by have:=HB.out (k+1);rw[HX.out]at this;exact this
   obtain⟨ad,A',c',rfl,hB,hc,h1,h2,h3⟩:=HG.out.2 k l hl;unfold maxLen at h2;clear hl h3;go_wp2
   go_round
   case rel=>exact⟨k+1,by omega,by go_num,by rw[HX.out];go_num⟩
   case measure=>simp[intOf];omega
  ·obtain rfl:k=n:=by omega
   (go_wp2_with fail);refine(zv9 _ hsz _).mono ?_;rintro e w1 ⟨v1,rfl,ho1,hb1⟩;have HO1:=aQ ho1;clear ho1
   go_wp2
   go_loopw [6,27] (fun v i wr=>∃j:Nat,j<=k/\i=.int .i64 j/\wr.ownsRow w.heap.size 5 1 v (jh ls j) (zA (zda ls j))/\Below w.heap.size w wr) (fun _ i _=>k-(intOf i).toNat)
   case atStart=>exact⟨0,aK _,rfl,zlb HO1.out HZ.out.1.symm (by rw[HZ.out.2];rfl),hb1⟩
   case round=>
    clear hsz hk hkl hb1 HO1;obtain⟨j,hj,rfl,ho,hb⟩:=hrel;have hs:=hb.size;by_cases hkl:j<k
    ·obtain⟨l,hl⟩:∃l,ls[j]? =some l:=⟨_,vp (by have:=HN.out;omega)⟩;have HX:=aQ (zbg hl);have HY:=aQ (ziq hl);have hsz2:jh ls j+l.length<=256:=by have:=HB.out (j+1);rw[HX.out]at this;exact this
     obtain⟨ad,A',c',rfl,hB,hc0,h1,h2,h3⟩:=HG.out.2 j l hl;have hc:wr.cell? (ad.add j)=some (.slice A' l.length c'):=by rw[hb.cell (by rw[qh];exact hB)];exact hc0
     have h4:=h3.below hb;clear hl h3 hc0
     go_wp2_with(at_builtin;refine qV rfl (.tmp 31) (.tmp 32) 22 rfl w.heap.size 5 i0 (.int .u8 0) 1 underlying22 hi hz0 hz1 hz2 rfl _ _ _ rfl ho w.heap.size A' l.length c' (zA l) rfl (by simp) h4 (xX l) (by unfold maxLen;omega) (by omega) hs ?_;intro v2 w2 ho2 hg2)
     go_roundw
     case rel=>exact⟨j+1,by omega,by go_num,zlb ho2 HX.out.symm (by rw[HY.out];simp[zA]),hb.grown hg2 hs (fun q hq=>(ho.lt q hq).1)⟩
     case measure=>simp[intOf];omega
    ·obtain rfl:j=k:=by omega
     go_wp2;go_ret;exact⟨_,rfl,ho,hb⟩
def ztz(w:World)(e:Ending)(w':World):Prop:=e=.returned (.tuple #[VV 0 0 kB,.int .i64 6])/\Below w.heap.size w w'
def JOk(w:World)(s u:List Int)(e:Ending)(w':World):Prop:=
 ∃A c,e=.returned (.tuple #[VV 3 0 (.slice A (s.length+u.length) c),.int .i64 0])/\s.length+u.length<=c/\c<=maxLen/\Lies w' w'.heap.size A c (zA (s++u))/\(∀ad,A=some ad->w.heap.size<=ad.block)/\Below w.heap.size w w'
def zou(w:World)(A B:Option Addr)(c d:Nat)(s u:List Int)(hs:s.length<=c)(hcs:c<=maxLen)(hu:u.length<=d)(hdu:d<=maxLen)(h1:Lies w w.heap.size A c (zA s))(h2:Lies w w.heap.size B d (zA u))(T:TypeId):ztg (w.alloc (.cells #[.slice A s.length c,.slice B u.length d] T)) (w.alloc (.cells #[.slice A s.length c,.slice B u.length d] T)).heap.size (some ⟨w.heap.size,0,none⟩) 2 [s,u]:=by
 have hb:=za w (.cells #[.slice A s.length c,.slice B u.length d] T);have hcell:∀j,(w.alloc (.cells #[.slice A s.length c,.slice B u.length d] T)).cell? ⟨w.heap.size,j,none⟩=#[Value.slice A s.length c,.slice B u.length d][j]?:=fun j=>wy _ _ _ _ _ _ (ye w _);refine⟨(fun e=>by cases e),fun i l hl=>?_⟩;rcases i with _|_|i
 ·simp at hl;subst hl;exact⟨_,A,c,rfl,by simp,by rw[Addr.add_lit];exact hcell 0,hs,hcs,(h1.below hb).more (by simp)⟩
 ·simp at hl;subst hl;exact⟨_,B,d,rfl,by simp,by rw[Addr.add_lit];exact hcell 1,hu,hdu,(h2.below hb).more (by simp)⟩
 ·simp at hl
def zjg(A B:Option Addr)(n m c d:Nat)(w:World)(b1:n<=140737488355328)(b2:m<=140737488355328)(hlong:256<n+m):Calls prog 305 #[.slice A n c,.slice B m d] w (ztz w):=by
 go_enter func305,ntmps305;go_wp2;refine vS (zP (cs:=[_,_,_]) results305 underlying41 rfl zEl _ _ w.heap.size rfl (qI (ye w _))) rfl ?_;exact⟨rfl,za _ _⟩
def zrt(A B:Option Addr)(c d:Nat)(s u:List Int)(w:World)(hs:s.length<=c)(hcs:c<=maxLen)(hu:u.length<=d)(hdu:d<=maxLen)(hle:s.length+u.length<=256)(h1:Lies w w.heap.size A c (zA s))(h2:Lies w w.heap.size B d (zA u)):Calls prog 305 #[.slice A s.length c,.slice B u.length d] w (JOk w s u):=by
 have hz:=za w zO;have HG:=aQ (zou (w.alloc zO) A B c d s u hs hcs hu hdu ((h1.below hz).more (by simp)) ((h2.below hz).more (by simp)) 22);have K:=aQ (zq7 _ _ _ 2 _ rfl HG.out (by omega) (by omega) (by simp[jh];omega));rw[show jh [s,u] 2=s.length+u.length by simp[jh],show zda [s,u] 2=s++u by simp[zda]]at K;simp only[aE]at K;clear h1 h2 HG hz;go_enter func305,ntmps305
 go_wp2_with fail
 refine K.out.mono ?_;rintro e w1 ⟨v,rfl,ho,hb1⟩;obtain⟨A1,c1,rfl,q1,q2,q3⟩:=xG ho;have HF:=aQ (zg4 ho);have HL:=aQ q3;have HT:=zG (zG (xE w) (za (w.alloc zO) (.cells #[.slice A s.length c,.slice B u.length d] 22)) (by simp)) hb1 (by omega);have HB:=aQ hb1;clear ho q3 hb1 K
 go_wp2_with(refine zi zEl rfl (.tmp 4) (.tmp 17) rfl rfl w.heap.size rfl [_,_,_] rfl rfl HT (by simp[Value.oneCell']) ?_;intro w2 g1 g2 g3 g4 g5)
 refine vS (zP (cs:=[_,_,_]) results305 underlying41 rfl zEl _ _ w.heap.size rfl g1) rfl ?_;refine⟨A1,c1,rfl,q1,q2,?_,fun ad e=>?_,?_⟩
 ·rw[g5];exact HL.out.other (fun ad e=>by subst e;have:=HF.out ad _ _ rfl;omega) g4
 ·subst e;have:=HF.out ad _ _ rfl;omega
 ·exact((xD w _ _).trans (HB.out.mono (by omega))).trans g3
def zel(w:World):Calls prog 290 #[.string ⟨#[43]⟩] w fun e w'=>e=.returned (.agg #[.func (.func 304) #[] #[],.nilFunc,.func (.func 305) #[] #[]])/\Below w.heap.size w w':=by
 go_enter func290,ntmps290
 go_wp2_with(refine zi zH rfl (.tmp 2) (.tmp 6) rfl rfl w.heap.size rfl [_,_,_] rfl rfl (qB w) (by simp[Value.oneCell']) ?_;intro w2 g1 g2 g3 g4 g5)
 refine vS (zU (cs:=[_,_,_]) results290 underlying319 rfl zH _ _ w.heap.size rfl g1) rfl ?_;exact⟨rfl,(za w rO).trans g3⟩
def zjr(A B:Option Addr)(n m c d:Nat)(w:World)(b1:n<=140737488355328)(b2:m<=140737488355328)(hlong:256<n+m):Calls prog 262 #[.string ⟨#[43]⟩,VV 3 0 (.slice A n c),VV 3 0 (.slice B m d)] w (ztz w):=by
 have H0:=aQ (jx w 3 0 3 0 (.slice A n c) (.slice B m d));have hq:=fun fn caps w=>zea 317 underlying317 ⟨_,_,_,rfl⟩ fn caps w;have K:=aQ (fun w=>zjg A B n m c d w b1 b2 hlong);clear b1 b2 hlong;go_enter func262,ntmps262
 go_wp2_with fail
 refine(zel _).mono ?_;rintro e w1 ⟨rfl,hb1⟩;have H1:=aQ (H0.out.below hb1);clear hb1 H0
 go_wp2_with(refine zi zH rfl (.tmp 8) (.tmp 16) rfl rfl w1.heap.size rfl [_,_,_] rfl rfl (qB w1) (by simp[Value.oneCell']) ?_;intro w2 g1 g2 g3 g4 g5;have hb2:Below w1.heap.size w1 w2:=(za w1 rO).trans g3;obtain⟨x0,x1,x2⟩:=(H1.out.below hb2).x.cells;obtain⟨y0,y1,y2⟩:=(H1.out.below hb2).y.cells;obtain⟨r0,r1,r2⟩:=kP g1;clear g1 g2 g3 g4 g5)
 refine(K.out _).mono ?_;rintro e w3 ⟨rfl,hb3⟩;have H3:=aQ ((H1.out.below hb2).below hb3);clear x0 x1 x2 y0 y1 y2 r0 r1 r2 hb2 hb3
 go_wp2_with(refine zi zEl rfl (.tmp 6) (.tmp 68) rfl rfl (w.heap.size+1+1) rfl [_,_,_] rfl rfl H3.out.z.2 (by simp[Value.oneCell']) ?_;intro w4 g1 g2 g3 g4 g5)
 refine vS (zP (cs:=[_,_,_]) results262 underlying41 rfl zEl _ _ (w.heap.size+1+1) rfl g1) rfl ?_;exact⟨rfl,H3.out.bl.trans (g3.mono (by omega))⟩
def zp9(A B:Option Addr)(c d:Nat)(s u:List Int)(w:World)(hs:s.length<=c)(hcs:c<=maxLen)(hu:u.length<=d)(hdu:d<=maxLen)(hle:s.length+u.length<=256)(h1:Lies w w.heap.size A c (zA s))(h2:Lies w w.heap.size B d (zA u)):Calls prog 262 #[.string ⟨#[43]⟩,VV 3 0 (.slice A s.length c),VV 3 0 (.slice B u.length d)] w (JOk w s u):=by
 have H0:=aQ (jx w 3 0 3 0 (.slice A s.length c) (.slice B u.length d));have hq:=fun fn caps w=>zea 317 underlying317 ⟨_,_,_,rfl⟩ fn caps w;have K:Hid (∀w',Below w.heap.size w w'->Calls prog 305 #[.slice A s.length c,.slice B u.length d] w' (JOk w' s u)):=fun w' hb=>zrt A B c d s u w' hs hcs hu hdu hle ((h1.below hb).more hb.size) ((h2.below hb).more hb.size);clear h1 h2 hcs hdu;go_enter func262,ntmps262
 go_wp2_with fail
 refine(zel _).mono ?_;rintro e w1 ⟨rfl,hb1⟩;have H1:=aQ (H0.out.below hb1);clear hb1 H0
 go_wp2_with(refine zi zH rfl (.tmp 8) (.tmp 16) rfl rfl w1.heap.size rfl [_,_,_] rfl rfl (qB w1) (by simp[Value.oneCell']) ?_;intro w2 g1 g2 g3 g4 g5;have hb2:Below w1.heap.size w1 w2:=(za w1 rO).trans g3;obtain⟨x0,x1,x2⟩:=(H1.out.below hb2).x.cells;obtain⟨y0,y1,y2⟩:=(H1.out.below hb2).y.cells;obtain⟨r0,r1,r2⟩:=kP g1;clear g1 g2 g3 g4 g5)
 have H2:=aQ (H1.out.below hb2);refine(K.out _ H2.out.bl).mono ?_;rintro e w3 ⟨A3,c3,rfl,q1,q2,q3,q4,hb3⟩;have H3:=aQ (H2.out.below hb3);have Q3:=aQ q3;have Q4:=aQ q4;have hs2:=H2.out.sz;clear x0 x1 x2 y0 y1 y2 r0 r1 r2 hb2 hb3 q3 q4
 go_wp2_with(refine zi zEl rfl (.tmp 6) (.tmp 68) rfl rfl (w.heap.size+1+1) rfl [_,_,_] rfl rfl H3.out.z.2 (by simp[Value.oneCell']) ?_;intro w4 g1 g2 g3 g4 g5)
 refine vS (zP (cs:=[_,_,_]) results262 underlying41 rfl zEl _ _ (w.heap.size+1+1) rfl g1) rfl ?_;refine⟨A3,c3,rfl,q1,q2,?_,fun ad e=>?_,H3.out.bl.trans (g3.mono (by omega))⟩
 ·rw[g5];exact Q3.out.other (fun ad e=>by have:=Q4.out ad e;omega) g4
 ·have:=Q4.out ad e;omega
end
end
section
open Go.RowKit Go.MapKept
variable [Prt]
def zb1{b:Nat}{es:List (List Nat×Value)}(h:qs w b es)(hs:Byn s){t e:TypeId}{z:Value}(ht:prog.underlying t=some (.map 9 e))(hz:(zeroValue e).run prog w=.ok z w):(Instr.lookup t (.map (some b)) (.string (strN s)) false).run prog w=.ok ((seek es s).getD z) w:=by
 obtain⟨arr,clock,h1,h2,h3⟩:=h;have hd:prog.underlying 9=some .string:=underlying9;have hk:IsKey .string (.string (strN s)):=trivial;rcases vD hs arr.toList es 0 h2 h3 with⟨g1,g2⟩|⟨v,j,g1,g2⟩
 ·rw[g1];simp[Instr.lookup,run_underlying ht,MapKept.run_getObj_map h1,MapKept.run_checkKey hd hk,MapKept.run_findKey hd g2,Result.andThen,hz]
 ·rw[g1];simp[Instr.lookup,run_underlying ht,MapKept.run_getObj_map h1,MapKept.run_checkKey hd hk,MapKept.run_findKey hd g2,Result.andThen]
def Mv.kept{n0:Nat}{M:Nat->Prop}{w w':World}{g:Nat}{cs:Array Value}{T:TypeId}{z:Nat×Nat}(h:Mv n0 M w w')(hw:w.heap[g]? =some (.cells cs T z))(hT:¬(T=92\/T=95\/T=154\/T=33\/T=105)):w'.heap[g]? =some (.cells cs T z):=by
 rw[h.keep g (aU.1 hw).1 (jX hw hT) fun _=>⟨_,_,_,hw⟩];exact hw
def zg{o:Obj}(h:Below B w w')(hw:w.heap[g]? =some o)(hB:g<B):w'.heap[g]? =some o:=by
 rw[h.block g hB];exact hw
def qH{fn:Func}{s:Nat}(h:fn.results=#[.cell s 41])(tmps:Array Value)(w:World)(g:Nat){t n:Int}{k:Value}(hp:tmps.getD s undef=.pointer (some ⟨g,0,none⟩))(hw:w.heap[g]? =some (.cells #[.int .i64 t,.int .i64 n,k] 41 (0,0))):(results fn tmps).run prog w=.ok (VV t n k) w:=zU (cs:=[_,_,_]) h underlying41 rfl zEl tmps w g hp (qI hw)
def qW{fn:Func}{s u:Nat}(h:fn.results=#[.cell s 41,.tmp u])(tmps:Array Value)(w:World)(g:Nat){t n:Int}{k:Value}(hp:tmps.getD s undef=.pointer (some ⟨g,0,none⟩))(hw:w.heap[g]? =some (.cells #[.int .i64 t,.int .i64 n,k] 41 (0,0))):(results fn tmps).run prog w=.ok (.tuple #[VV t n k,tmps.getD u undef]) w:=zP (cs:=[_,_,_]) h underlying41 rfl zEl tmps w g hp (qI hw)
def zpz(w:World):(w.alloc zO).heap[w.heap.size]? =some (.cells #[.int .i64 0,.int .i64 0,.slice none 0 0] 41 (0,0)):=ye w _
def VaC.var{v:Va}{t n:Int}(h:VaC w v u)(hv:VSt g t n (.slice A m cp) w w'){m0 cp0:Nat}(hw:w.heap[g]? =some (.cells #[.int .i64 t0,.int .i64 n1,.slice A0 m0 cp0] 41 (0,0))):VaC w' v u:=
 h.off (n0:=0) (hv.off (aK _) xF hw xF)
def zuf(w:World)(v:Va)(e:Ending)(w':World):Prop:=∃u,e=.returned u/\VaC w' v u/\Below w.heap.size w w'
def zqa(n0:Nat)(w:World)(a:Option Addr)(ms:List Nat)(env:Env)(s:List Nat)(v:Va)(hs:ScAt n0 w (.pointer a) ms env)(hy:Byn s)(hl:kQ env s=some v):Calls prog 228 #[.pointer a,.string (strN s)] w (zuf w v):=by
 have BZ:=za w zO;have K:=aQ (zgp n0 (w.alloc zO) a ms env s v (hs.on BZ) hy hl);have HT:=aQ (zpz w);have HY:=aQ hy;have HB:=aQ BZ;have HS:Hid (w.heap.size<(w.alloc zO).heap.size):=by show _<_;simp
 clear hs hl BZ hy;go_enter func228,ntmps228
 go_wp2_with fail
 generalize w.alloc (.cells #[.int .i64 0,.int .i64 0,.slice none 0 0] 41)=w0 at *
 (with_reducible refine K.out.mono ?_)
 rintro e w1⟨m,es,u,rfl,hw,hm,hse,hv,hb⟩;obtain⟨k,A,kc,rfl,rfl,hk,hfit⟩:=zbj hv;have hrun:=zb1 hm HY.out underlying204 (show(zeroValue 41).run prog w1=.ok (VV 0 0 kB) w1 by simp[Tryz.zeroValue41]);rw[hse]at hrun;simp only[Option.getD_some]at hrun;have hT1:=zg hb HT.out HS.out;have HT1:=aQ hT1;have HV:=aQ hv;have HB1:=aQ (zd HB.out hb HB.out.size);clear hw hm hse hv hb hk HT hT1
 go_wp2_with(refine zm rfl (.tmp 4) (.tmp 9) rfl rfl w.heap.size rfl v.t v.n A v.s.length kc rfl HT1.out ?_;intro w2 g1)
 refine vS (qH results228 _ _ w.heap.size rfl g1.here) rfl ?_;exact⟨_,rfl,HV.out.var g1 HT1.out,HB1.out.trans (g1.below (aR _))⟩
def zpi:∀ {a b:List (List Nat×Value)},a.map (fun p=>(Value.string (strN p.1),p.2))=b.map (fun p=>(Value.string (strN p.1),p.2))->(∀p∈a,Byn p.1)->(∀p∈b,Byn p.1)->a=b
 | [],[],_,_,_=>rfl
 | [],q::b,h,_,_=>by simp at h
 | p::a,[],h,_,_=>by simp at h
 | (s,x)::a,(s',y)::b,h,ha,hb=>by
  simp only[List.map_cons,aN,Prod.mk.injEq,Value.string.injEq]at h;obtain⟨⟨h1,h2⟩,h3⟩:=h;have e1:s=s':=zc2 (ha _ (List.mem_cons_self ..)) (hb _ (List.mem_cons_self ..)) h1;have e2:a=b:=zpi h3 (fun p hp=>ha p (List.mem_cons_of_mem _ hp)) (fun p hp=>hb p (List.mem_cons_of_mem _ hp));rw[e1,h2,e2]
def zdg:∀ {env env':Env} {s:List Nat} {v:Va},setE env s v=some env'->∃u,kQ env s=some u
 | [],env',s,v,h=>by cases h
 | f::r,env',s,v,h=>by
  unfold setE at h;unfold kQ;cases hs:seek f s with
  | some u=>exact⟨u,rfl⟩
  | none=>
   rw[hs]at h;cases hr:setE r s v with
   | none=>rw[hr]at h;cases h
   | some r'=>exact zdg hr
def zth{v:Va}{es:List (List Nat×Value)}(hme:qs w m es)(hm1:qs w' m (updV es s u))(hv:VaC w v u)(hM:Mv n0 (· =m) w w'):∀ {p:Value} {ms:List Nat} {env env':Env},ScAt n0 w p ms env->kM ms env s=some m->setE env s v=some env'->ScAt n0 w' p ms env':=by
 intro p ms env env' h
 induction h generalizing env' with
 | nil=>intro hw;cases hw
 | @cons b m' q ms f env hb hmv h0 hne hrest ih=>
  intro hw hs;have hcell:w'.heap[b]? =some (.cells #[.map (some m'),q] 206 (0,0)):=by
   rw[hM.keep _ (aU.1 hb).1 (jX hb (by decide)) fun _=>⟨_,_,_,hb⟩];exact hb
  unfold kM at hw;unfold setE at hs;cases hf:seek f s with
  | some x=>
   rw[hf]at hw hs;injection hw with hw
   injection hs with hs
   subst hw hs;obtain⟨es',h1,h2⟩:=hmv;have he:es'=es:=by
    obtain⟨arr,cl,a1,a2,a3⟩:=h1;obtain⟨arr',cl',b1,b2,b3⟩:=hme;rw[a1]at b1;injection b1 with b1
    injection b1 with b1 _
    subst b1;exact zpi (a2.symm.trans b2) a3 b3
   subst he;exact .cons hcell ⟨_,hm1,(h2.upd hv).off hM.off⟩ h0 hne (hrest.mv hM fun m'' h' e=>hne (by rw[<- e];exact h'))
  | none=>
   rw[hf]at hw hs;cases hr:setE env s v with
   | none=>rw[hr]at hs;cases hs
   | some r'=>
    rw[hr]at hs;injection hs with hs
    subst hs;exact .cons hcell (hmv.mv hM fun e=>hne (by rw[e];exact jA hw)) h0 hne (ih hw hr)
def zku{t n:Int}{k:Value}{es:List (List Nat×Value)}(hb:Below w0.heap.size w0 w1)(hz:w0.heap[g]? =some (.cells #[.int .i64 t,.int .i64 n,k] 41 (0,0)))(hl:g<w0.heap.size)(hm:qs w1 m es)(hg:w1.grownBy w2 (some m)):w2.cell? ⟨g,0,none⟩=some (.int .i64 t)/\w2.cell? ⟨g,1,none⟩=some (.int .i64 n)/\w2.cell? ⟨g,2,none⟩=some k:=by
 have h1:=zg hb hz hl;refine qr ?_;rw[hg.block g (aS hl hb.size) fun e=>?_]
 ·exact h1
 ·injection e with e
  obtain⟨arr,c,ho⟩:=hm.obj;rw[<- e,h1]at ho;cases ho
def zvc(X:Cx10)(c:Nat)(σ:Stt)(w:World)(a:Option Addr)(ms:List Nat)(env env':Env)(s:List Nat)(v:Va)(u:Value)
  (hr:RunS X c σ w) (hs:ScAt X.n0 w (.pointer a) ms env) (hg:X.g ∉ ms) (hy:Byn s) (hv:VaC w v u) (he:setE env s v=some env') :
  Calls prog 156 #[.pointer a,.string (strN s),u] w fun e w'=>e=.returned (.tuple #[])/\Mv X.n0 (·∈ms) w w'/\ScAt X.n0 w' (.pointer a) ms env'/\RunS X c σ w':=by
 obtain⟨k,A,kc,rfl,rfl,hk,hfit⟩:=zbj hv;have bA:=za w (.cells #[.int .i64 v.t,.int .i64 v.n,.slice A v.s.length kc] 41);have hz:=ye w (.cells #[.int .i64 v.t,.int .i64 v.n,.slice A v.s.length kc] 41);have hL:w.heap.size<(w.alloc (.cells #[.int .i64 v.t,.int .i64 v.n,.slice A v.s.length kc] 41)).heap.size:=by simp
 have hV:=hv.on bA;have hR:=hr.on bA;have hS:=hs.on bA;obtain⟨w0,hw0⟩:∃w0,w.alloc (.cells #[.int .i64 v.t,.int .i64 v.n,.slice A v.s.length kc] 41)=w0:=⟨_,rfl⟩;rw[hw0]at bA hz hL hV hR hS;have HW0:=aQ hw0;have HB:=aQ bA;have HZ:=aQ hz;have HV:=aQ hV;have HR:=aQ hR;have HS:=aQ hS;have HE:=aQ he;have HY:=aQ hy;have HG:=aQ hg;obtain⟨x,hl⟩:=zdg he;have HK:Hid (∀w',Below w0.heap.size w0 w'->Calls prog 192 #[.pointer a,.string (strN s)] w' (HadP w' ms env s x)):=fun w' hb=>zgp X.n0 w' a ms env s x (hS.on hb) hy hl;have HL:=aQ hL;obtain⟨z0,z1,z2⟩:=qr hz;have hbl:Below w0.heap.size w0 w0.drew:=(Below.refl _ _).drew;clear hv hk hr hs hz he hy hl hg bA hL hV hR hS hw0;go_enter func156,ntmps156;go_upto_region 1 with fail
 rw[HW0.out];have HQ:Hid (∀w',Below w0.heap.size w0 w'->w'.cell? ⟨w.heap.size,0,none⟩=some (.int .i64 v.t)/\w'.cell? ⟨w.heap.size,1,none⟩=some (.int .i64 v.n)/\w'.cell? ⟨w.heap.size,2,none⟩=some (.slice A v.s.length kc)):=fun w' hb=>⟨zb z0 hb,zb z1 hb,zb z2 hb⟩
 go_region_held3(fun w'=>w'.cell? ⟨w.heap.size,0,none⟩=some (.int .i64 v.t)/\w'.cell? ⟨w.heap.size,1,none⟩=some (.int .i64 v.n)/\w'.cell? ⟨w.heap.size,2,none⟩=some (.slice A v.s.length kc))
  (first|(with_reducible exact HQ.out _ hbl)|(with_reducible exact HQ2.out))
  (first|(go_at_call 192;refine(HK.out _ hbl).mono ?_;rintro e w1 ⟨m,es,x',rfl,hw,hm,hse,hxv,hb1⟩;replace hbl:=zd hbl hb1 hbl.size;obtain⟨w2,hup,hm2,hg2,hz2⟩:=zf2 hm HY.out underlying204 (VV v.t v.n (.slice A v.s.length kc));have HQ2:Hid (w2.cell? ⟨w.heap.size,0,none⟩=some (.int .i64 v.t)/\w2.cell? ⟨w.heap.size,1,none⟩=some (.int .i64 v.n)/\w2.cell? ⟨w.heap.size,2,none⟩=some (.slice A v.s.length kc)):=zku hbl HZ.out HL.out hm hg2;have HM:=aQ hm;have HM2:=aQ hm2;have HG2:=aQ hg2;have HWM:=aQ hw;clear hm hm2 hg2 hz2 hse hxv hb1 hw))
 go_end0
 have hmem:=HS.out.ms m (jA HWM.out);obtain⟨arr,cl,ho⟩:=HM.out.obj;have hM1:Mv X.n0 (· =m) w1 w2:=Mv.map HG2.out ho hmem.1 rfl;exact⟨rfl,(Mv.of (HB.out.trans (hbl.mono HB.out.size))).trans (hM1.less fun b _ h=>by rw[show b=m from h];exact jA HWM.out),zth HM.out HM2.out (HV.out.on hbl) hM1 (HS.out.on hbl) HWM.out HE.out,(HR.out.on hbl).map HG2.out ho hmem.1 fun e=>HG.out (by rw[<- e];exact jA HWM.out)⟩
def vaC(v:Va)(k:Value):List Value:=[.int .i64 v.t,.int .i64 v.n,k]
def vasC(vs:List Va)(ks:List Value):List Value:=(List.zipWith vaC vs ks).flatten
structure ArgX(n0:Nat)(w:World)(V:Value)(vs:List Va):Prop where
 ex:∃(D:Nat->Prop) (ks:List Value),ks.length=vs.length/\RowF w D vs.length (vasC vs ks) V/\(∀(i:Nat) (v:Va) (k:Value),vs[i]? =some v->ks[i]? =some k->SB w w.heap.size k v.s/\Vok v)/\∀b,D b->b<w.heap.size/\¬Sq n0 w b/\(b<n0\/Cel w b)
def ArgX.mv{V:Value}{vs:List Va}(h:ArgX n0 w V vs)(hm:Mv n0 M w w')(hM:∀b,M b->n0<=b):ArgX n0 w' V vs:=by
 obtain⟨D,ks,h1,h2,h3,h4⟩:=h.ex;have hk:∀b,D b->w'.heap[b]? =w.heap[b]?:=fun b hb=>hm.keep b (h4 b hb).1 (h4 b hb).2.1 fun hMb=>(h4 b hb).2.2.elim (fun h=>absurd (hM b hMb) (by omega)) id;refine⟨D,ks,h1,h2.same hk,fun i v k a b=>⟨(h3 i v k a b).1.off hm.off,(h3 i v k a b).2⟩,fun b hb=>?_⟩;obtain⟨g1,g2,g3⟩:=h4 b hb;refine⟨aS g1 hm.size,fun h=>g2 ((Sq.same (hk b hb)).1 h),g3.imp id fun⟨cs,T,z,h⟩=>⟨cs,T,z,by rw[hk b hb];exact h⟩⟩
def ArgX.on{V:Value}{vs:List Va}(h:ArgX n0 w V vs)(hb:Below w.heap.size w w'):ArgX n0 w' V vs:=h.mv (M:=fun _=>False) (.of hb) fun _ h=>h.elim
def ArgX.len{V:Value}{vs:List Va}(h:ArgX n0 w V vs):∃A c,V=.slice A vs.length c:=by
 obtain⟨D,ks,h1,h2,_⟩:=h.ex;exact h2.slice5
def ArgX.get{V:Value}{vs:List Va}(h:ArgX n0 w V vs){v:Va}(hv:vs[i]? =some v):∃(kb ko c:Nat) (A0:Option Addr) (c0:Nat),V=.slice (some ⟨kb,ko,none⟩) vs.length c/\vs.length<=c/\c<=maxLen /\
  w.rangeAt kb (ko+i*3) (vaC v (.slice A0 v.s.length c0))/\VaC w v (VV v.t v.n (.slice A0 v.s.length c0)):=by
 obtain⟨D,ks,hk,h1,h2,_⟩:=h.ex;have hi:=(vm.1 hv).1;have hk':ks[i]? =some ks[i]:=vp (by omega);generalize ks[i]=k at hk';have hg:=fun j hj=>ky (f:=vaC) (m:=3) (fun _ _=>rfl) vs ks i j v k hv hk' hj;obtain⟨g0,g1⟩:=h2 i v k hv hk';obtain⟨A0,c0,rfl,_⟩:=id g0
 obtain⟨b,o,c,rfl,a1,a2,a3,a4⟩:=h1.plain5 (by
  intro e0;have:=hg 0 (by omega);unfold vasC at e0;rw[e0]at this
  simp[vaC]at this)
 refine⟨b,o,c,A0,c0,rfl,a1,a2,fun j x hx=>?_,⟨_,rfl,g0,g1⟩⟩;have hj:j<3:=by
  have:=(vm.1 hx).1;simpa[vaC]using this
 rw[Nat.add_assoc];exact a4 _ x ((hg j hj).trans hx)
def zca(w:World):VaC w qe (VV 0 0 kB):=⟨_,rfl,SB.nil _ _,by unfold fits qe;decide,by simp[qe]⟩
def zt3{b o:Nat}{x y z:Value}(h:w.rangeAt b o [x,y,z]):w.cell? ⟨b,o,none⟩=some x/\w.cell? ⟨b,o+1,none⟩=some y/\w.cell? ⟨b,o+2,none⟩=some z:=⟨h 0 _ rfl,h 1 _ rfl,h 2 _ rfl⟩
def ziy(n0:Nat)(w:World)(V:Value)(vs:List Va)(hx:ArgX n0 w V vs):Calls prog 157 #[V] w (zuf w (zay vs)):=by
 have BZ:=za w zO;have HT:=aQ (zpz w);cases vs with
 | nil=>
  obtain⟨A,c,rfl⟩:=hx.len;have HB:=aQ BZ;clear hx BZ;simp only[List.length_nil];go_enter func157,ntmps157
  go_wp2_with(refine zm rfl (.tmp 2) (.tmp 6) rfl rfl w.heap.size rfl 0 0 none 0 0 rfl HT.out ?_;intro w2 g1)
  refine vS (qH results157 _ _ w.heap.size rfl g1.here) rfl ?_;exact⟨_,rfl,zca _,HB.out.trans (g1.below (aR _))⟩
 | cons v vs=>
  obtain⟨kb,ko,c,A0,c0,rfl,q1,q2,hrg,hv⟩:=hx.get (i:=0) (v:=v) rfl;obtain⟨y0,y1,y2⟩:=zt3 (w:=w) (by simpa[vaC]using hrg);have x0:=zb y0 BZ;have x1:=zb y1 BZ;have x2:=zb y2 BZ;have HV:=aQ (hv.on BZ);have HB:=aQ BZ;have hlen:((((v::vs).length:Nat):Int)==0)=false:=by rw[aB];simp;try omega
  have hlt:(0:Int)<(((v::vs).length:Nat):Int):=by rw[aB];omega
  clear hx BZ hrg hv y0 y1 y2
  generalize(v::vs).length=n at *
  go_enter func157,ntmps157
  go_wp2_with(refine zm rfl (.tmp 2) (.tmp 9) rfl rfl w.heap.size rfl v.t v.n A0 v.s.length c0 rfl HT.out ?_;intro w2 g1)
  refine vS (qH results157 _ _ w.heap.size rfl g1.here) rfl ?_;exact⟨_,rfl,HV.out.var g1 HT.out,HB.out.trans (g1.below (aR _))⟩
def zub(w:World)(p:List Int×Bool)(x:Value):Prop:=∃V,x=.tuple #[V,.bool p.2]/\SB w w.heap.size V p.1
def getG(lim:Int)(k:List Int)(σ:Stt):Ev (List Int×Bool):=(useE lim 2 σ).bind fun _ σ=>qv (getM σ.cur k,hasM σ.cur k) σ
def qF{α β:Type}{m:Ev α}{f:α->Stt->Ev β}{r:Ou β}(h:m.bind f=some r):(∃t τ,m=some (.trap t τ)/\r=.trap t τ)\/∃a τ,m=some (.ok a τ)/\f a τ=some r:=by
 match m,h with
 | some (.trap t τ),h=>exact .inl ⟨t,τ,rfl,by injection h with h;exact h.symm⟩
 | some (.ok a τ),h=>exact .inr ⟨a,τ,rfl,h⟩
def zgs(X:Cx10)(c:Nat)(σ:Stt)(w:World)(u:Value)(k:List Int)(r:Ou (List Int×Bool))(hr:RunS X c σ w)(hk:SB w w.heap.size u k)(hm:getG X.lim k σ=some r):Calls prog 263 #[.pointer (some ⟨X.R,0,none⟩),u] w (qR X c NoM zub w r):=by
 obtain⟨Ak,ck,rfl,_⟩:=id hk;have HR:=aQ hr;have HK:=aQ hk;rcases qF hm with⟨t,τ,h1,h2⟩|⟨a,τ,h1,h2⟩
 ·have K:=aQ (xY X c σ w 2 (by decide) (by decide) _ hr h1);have H2:=aQ h2;clear hr hk hm h1 h2;go_enter func263,ntmps263
  go_wp2_with fail
  (with_reducible refine K.out.mono ?_)
  rintro e w1⟨hM,rfl,c',hs⟩;exact⟨rfl,zy H2.out hM hs⟩
 ·have K:=aQ (xY X c σ w 2 (by decide) (by decide) _ hr h1);have H2:Hid (r=.ok (getM τ.cur k,hasM τ.cur k) τ):=by show _=_;injection h2 with h2;exact h2.symm
  clear hr hk hm h1 h2;go_enter func263,ntmps263
  go_wp2_with fail
  (with_reducible refine K.out.mono ?_)
  rintro e w1⟨hM,v,rfl,rfl,hs⟩;obtain⟨z0,z1,z2,z3,z4⟩:=xq hs;have K2:=aQ (zvw X.n0 w1 X.J τ.hs τ.cur hs.jr Ak k ck (HK.out.off hM.off));have HS:=aQ hs;have HM:=aQ hM;clear hs hM K
  go_wp2_with fail
  (with_reducible refine K2.out.mono ?_)
  rintro e w2⟨V,rfl,h3⟩;have H3:=aQ h3;clear h3 z0 z1 z2 z3 z4 K2;go_wp2
  go_ret2
  exact wJ H2.out (HM.out.then H3.out.2.2) ⟨V,rfl,zd4 H3.out.1 H3.out.2.1⟩ (HS.out.on H3.out.2.2)
def zu2(X:Cx10)(c:Nat)(σ:Stt)(w:World)(u:Value)(k:List Int)(r:Ou Unit)(hr:RunS X c σ w)(hk:SB w w.heap.size u k)(hm:delG X.lim k σ=some r):Calls prog 159 #[.pointer (some ⟨X.R,0,none⟩),u] w (qR X c NoM QUn w r):=by
 obtain⟨Ak,ck,rfl,_⟩:=id hk;have HR:=aQ hr;have HK:=aQ hk;rcases qF hm with⟨t,τ,h1,h2⟩|⟨a,τ,h1,h2⟩
 ·have K:=aQ (xY X c σ w 4 (by decide) (by decide) _ hr h1);have H2:=aQ h2;clear hr hk hm h1 h2;go_enter func159,ntmps159
  go_wp2_with fail
  (with_reducible refine K.out.mono ?_)
  rintro e w1⟨hM,rfl,c',hs⟩;exact⟨rfl,zy H2.out hM hs⟩
 ·have K:=aQ (xY X c σ w 4 (by decide) (by decide) _ hr h1);have H2:Hid (r=.ok () { τ with hs:=τ.hs++[τ.cur],cur:=delM τ.cur k }):=by show _=_;injection h2 with h2;exact h2.symm
  have HC:Hid (((τ.hs++[τ.cur]).length:Int)*4<=90000+τ.used):=by
   show _<=_;have h0:=hr.cnt;unfold useE at h1
   split at h1
   ·cases h1
   ·injection h1 with h1
    injection h1 with _ h1
    rw[<- h1];simp;omega
  clear hr hk hm h1 h2;go_enter func159,ntmps159
  go_wp2_with fail
  (with_reducible refine K.out.mono ?_)
  rintro e w1⟨hM,v,rfl,rfl,hs⟩;obtain⟨z0,z1,z2,z3,z4⟩:=xq hs;have hl:τ.hs.length<50000:=by have:=hs.cnt;have:=hs.u1;have:=hs.u2;omega
  have K2:=aQ (zvz X.n0 w1 X.J τ.hs τ.cur hs.jr hl Ak k ck (HK.out.off hM.off));have HS:=aQ hs;have HM:=aQ hM;clear hs hM K hl
  go_wp2_with fail
  (with_reducible refine K2.out.mono ?_)
  rintro e w2⟨rfl,hC⟩;have H3:=aQ (HS.out.chd hC HC.out);have HM2:=aQ (HM.out.trans (Mv.chd HS.out hC));clear hC z0 z1 z2 z3 z4 K2;go_wp2
  go_end0
  exact wJ H2.out HM2.out rfl H3.out
def zqv(a b:Nat)(ha:a<=1000000)(hb:b<=1000000):putN a b=xC a b:=by
 unfold putN xC;have h1:up 2147483648 (a:Int)=a:=by unfold up;omega
 have h2:up 2147483648 (b:Int)=b:=by unfold up;omega
 rw[h1,h2,zck (by omega)];simp
def zh2(cur:List PR)(k v:List Int):putE cur k v=0\/putE cur k v=1\/putE cur k v=71:=by
 unfold putE
 repeat' split
 all_goals simp
def zvi(X:Cx10)(c:Nat)(σ:Stt)(w:World)(u u':Value)(k v:List Int)(r:Ou Unit)(hr:RunS X c σ w)(hk:SB w w.heap.size u k)(hv:SB w w.heap.size u' v)(hkl:k.length<=1000000)(hvl:v.length<=1000000)(hm:putG X.lim k v σ=some r):Calls prog 158 #[.pointer (some ⟨X.R,0,none⟩),u,u'] w (qR X c NoM QUn w r):=by
 obtain⟨Ak,ck,rfl,_⟩:=id hk;obtain⟨Av,cv,rfl,_⟩:=id hv;have K0:=aQ (zvp (k.length:Int) (v.length:Int) w);rw[zqv _ _ hkl hvl]at K0;have hcost:0<=xC k.length v.length/\xC k.length v.length<=1000000000:=by unfold xC;omega
 have HR:=aQ hr;have HK:=aQ hk;have HV:=aQ hv;unfold putG at hm;rcases qF hm with⟨t,τ,h1,h2⟩|⟨a,τ,h1,h2⟩
 ·have K:Hid (∀w',Below w.heap.size w w'->Calls prog 152 #[.pointer (some ⟨X.R,0,none⟩),.int .i64 (xC k.length v.length)] w' (qR X c NoM QUn w' (.trap t τ))):=fun w' hb=>xY X c σ w' _ hcost.1 hcost.2 _ (hr.on hb) h1;have H2:=aQ h2;clear hr hk hv hm h1 h2 hcost hkl hvl
  generalize xC k.length v.length=pc at *
  go_enter func158,ntmps158
  go_wp2_with fail
  (with_reducible refine K0.out.mono ?_)
  rintro e w1⟨rfl,hb1⟩;have HB:=aQ hb1;have K1:=aQ (K.out w1 hb1);clear hb1 K
  go_wp2_with fail
  (with_reducible refine K1.out.mono ?_)
  rintro e w2⟨hM,rfl,c',hs⟩;exact⟨rfl,zy H2.out ((Mv.of HB.out).trans hM) hs⟩
 ·have K:Hid (∀w',Below w.heap.size w w'->Calls prog 152 #[.pointer (some ⟨X.R,0,none⟩),.int .i64 (xC k.length v.length)] w' (qR X c NoM QUn w' (.ok a τ))):=fun w' hb=>xY X c σ w' _ hcost.1 hcost.2 _ (hr.on hb) h1;have HC:Hid (((τ.hs++[τ.cur]).length:Int)*4<=90000+τ.used):=by
   show _<=_;have h0:=hr.cnt;have hp:=j9 k.length v.length;unfold useE at h1
   split at h1
   ·cases h1
   ·injection h1 with h1
    injection h1 with _ h1
    rw[<- h1];simp;omega
  have H2:=aQ h2;clear hr hk hv hm h1 h2 hcost hkl hvl
  generalize xC k.length v.length=pc at *
  go_enter func158,ntmps158
  go_wp2_with fail
  (with_reducible refine K0.out.mono ?_)
  rintro e w1⟨rfl,hb1⟩;have HB:=aQ hb1;have K1:=aQ (K.out w1 hb1);clear hb1 K
  go_wp2_with fail
  (with_reducible refine K1.out.mono ?_)
  rintro e w2⟨hM,x,rfl,rfl,hs⟩;obtain⟨z0,z1,z2,z3,z4⟩:=xq hs;have hl:τ.hs.length<50000:=by have:=hs.cnt;have:=hs.u1;have:=hs.u2;omega
  have hM1:=(Mv.of (n0:=X.n0) (M:=NoM) HB.out).trans hM;have K2:=aQ (zvt X.n0 w2 X.J τ.hs τ.cur hs.jr hl Ak k ck Av v cv (HK.out.off hM1.off) (HV.out.off hM1.off));have HS:=aQ hs;have HM:=aQ hM1;clear hs hM K0 K1 hl hM1
  go_wp2_with fail
  (with_reducible refine K2.out.mono ?_)
  rintro e w3⟨rfl,hC,hN⟩;have HCC:=aQ hC;have HNN:=aQ hN;have H3:=zh2 τ.cur k v;have HP:Hid (wO k v τ=some r):=H2.out;clear hC hN z0 z1 z2 z3 z4 K2;unfold wO at HP;rcases H3 with e0|e0|e0
  ·rw[e0]at HCC HP⊢;have HX:=HS.out.chd (HCC.out rfl) HC.out;have HR2:Hid (r=.ok () { τ with hs:=τ.hs++[τ.cur],cur:=putM τ.cur k v }):=by
    show _=_;have h:=HP.out;rw[if_pos rfl]at h;injection h with h
    exact h.symm
   have HX2:=aQ HX;have HM2:=aQ (HM.out.trans (Mv.chd HS.out (HCC.out rfl)));clear HX e0;go_wp2
   go_end0
   exact wJ HR2.out HM2.out rfl HX2.out
  ·rw[e0]at HNN HP⊢;have hb:=HNN.out (by decide);have HR2:Hid (r=.trap 6 τ):=by
    show _=_;have h:=HP.out;rw[if_neg (by decide),if_pos rfl]at h;injection h with h
    exact h.symm
   have HX2:=aQ (HS.out.on hb);have HM2:=aQ (HM.out.then hb);clear hb e0
   (go_wp2_with fail);refine(kt 6 (by decide) _).mono ?_;rintro e w4 ⟨rfl,rfl⟩;exact⟨rfl,zy HR2.out HM2.out HX2.out⟩
  ·rw[e0]at HNN HP⊢;have hb:=HNN.out (by decide);have HR2:Hid (r=.trap 5 τ):=by
    show _=_;have h:=HP.out;rw[if_neg (by decide),if_neg (by decide)]at h;injection h with h
    exact h.symm
   have HX2:=aQ (HS.out.on hb);have HM2:=aQ (HM.out.then hb);clear hb e0
   (go_wp2_with fail);refine(kt 5 (by decide) _).mono ?_;rintro e w4 ⟨rfl,rfl⟩;exact⟨rfl,zy HR2.out HM2.out HX2.out⟩
variable [Prt]
def Rw3(lo:Nat)(w:World)(T:TypeId)(v:Value)(n:Nat)(xs:List Value):Prop:=
 w.ownsRow lo T 3 v n xs/\∀g,v.ownBlock=some g->∀cs T z,w.heap[g]? =some (.cells cs T z)->NoI cs
def Rw3.nil(lo:Nat)(w:World)(T:TypeId):Rw3 lo w T (.slice none 0 0) 0 []:=⟨World.ownsRow_nil _ _ _ _,fun g h=>by cases h⟩
def Rw3.at{lo:Nat}{T:TypeId}{v:Value}(h:Rw3 lo w T v n xs):∀x∈xs,∀(_:Unit) y,x≠Value.int .u8 y:=by
 intro x hx;rcases h.1.2 with⟨rfl,h2⟩|⟨g,cap,cur,rfl,h2,h3,_,_,_,h4⟩
 ·have:xs=[]:=List.eq_nil_of_length_eq_zero (by rw[h.1.1];omega);subst this;cases hx
 ·exact h.2 g rfl _ _ _ h3 x (by rw[<- h4]at hx;exact Array.mem_toList_iff.1 (List.mem_of_mem_take hx))
def Rw3.spb{n0 lo:Nat}{v:Value}(h:Rw3 lo w 41 v n xs)(hlo:n0<=lo)(hg:v.ownBlock=some g):Sp n0 w g:=by
 rcases h.1.2 with⟨rfl,_⟩|⟨g',cap,cur,rfl,h2,h3,_⟩
 ·cases hg
 ·obtain rfl:g'=g:=by injection hg
  exact⟨aT hlo h2,cur,41,_,h3,.inr (.inr (.inr (.inr (.inr (.inl rfl))))),h.2 g' rfl _ _ _ h3⟩
def Rw3.app{P:Program}{lo:Nat}(w:World)(t ty e:TypeId)(i:TypeInfo)(z:Value)(bytes:Nat)(ht:P.underlying t=some (.slice e))(hi:P.info? e=some i)(hz:i.zero=some z)
  (hsize:i.size=3) (hby:i.bytes=bytes) (hzs:z.cells.size=3) (hzn:NoI z.cells)
  {v:Value} (h:Rw3 lo w e v n xs)
  (a:Addr) (c:Nat) (news:List Value) (hl:news.length=3) (hnews:∀j u,news[j]? =some u->w.cell? (a.add j)=some u) (h1:∀u∈news,u.oneCell'=true) (hnn:∀x∈news,∀(_:Unit) y,x≠Value.int .u8 y)
  (h63:n+1<=maxLen) (hbytes:(n+1)*bytes<=140737488355328) (hbase:lo<=w.heap.size) :
  ∃v' w',(Builtin.append_ #[t,t] ty #[v,.slice (some a) 1 c]).run P w=.ok v' w'/\Rw3 lo w' e v' (n+1) (xs++news)/\w.grownBy w' v.ownBlock/\(v'.ownBlock=v.ownBlock\/Below w.heap.size w w'):=by
 subst hby;have hown:=h.1;have hxn:=Rw3.at h;have hsmall:n+1<=9223372036854775807:=by simp only[maxLen]at h63;omega
 have hlen:(xs++news).length=(n+1)*3:=by rw[aA,hown.1,hl];omega
 have grown:∀(old:Nat),old<n+1->∀(row:Option Nat),
   Rw3 lo (w.drew.alloc (.cells (xs.toArray++news.toArray++Builtin.zeroCells z.cells (grownCap w (n+1) old e-(n+1))) e)) e
    (.slice (some ⟨w.heap.size,0,none⟩) (n+1) (grownCap w (n+1) old e)) (n+1) (xs++news) /\
   w.grownBy (w.drew.alloc (.cells (xs.toArray++news.toArray++Builtin.zeroCells z.cells (grownCap w (n+1) old e-(n+1))) e)) row:=by
  intro old ho row;have hge:=grownCap_ge w (n+1) old e;have hcm:grownCap w (n+1) old e<=maxLen:=grownCap_le_maxLen w (n+1) old e h63;have hnew:(w.drew.alloc (.cells (xs.toArray++news.toArray++Builtin.zeroCells z.cells (grownCap w (n+1) old e-(n+1))) e)).heap[w.heap.size]? =some (.cells (xs.toArray++news.toArray++Builtin.zeroCells z.cells (grownCap w (n+1) old e-(n+1))) e (0,0)):=ye w.drew _;refine⟨⟨⟨hlen,.inr ⟨w.heap.size,_,_,rfl,hbase,hnew,hge,hcm,?_,?_⟩⟩,fun g hg cs T z' h'=>?_⟩,⟨rfl,rfl,rfl,by simp,fun k hk _=>Below.heap_alloc w.drew _ k hk⟩⟩
  ·simp only[Array.size_append,List.size_toArray,size_zeroCells,hzs,hown.1,hl];omega
  ·simp only[Array.toList_append,List.append_assoc];rw[<- List.append_assoc,<- hlen];exact List.take_left
  ·obtain rfl:w.heap.size=g:=by injection hg
   rw[hnew]at h';injection h' with h'
   injection h' with h' _ _
   subst h';exact((NoI.list hxn).append (NoI.list hnn)).append (NoI.zero hzn (by omega) _)
 rcases hown.2 with⟨rfl,rfl⟩|⟨g,cap,cur,rfl,hbg,hg,hnc,hcm,hcs,htake⟩
 ·have hx:xs=[]:=List.eq_nil_of_length_eq_zero (by simpa using hown.1);subst hx;have hb:=(Below.refl w.heap.size w).grown (grown 0 (by omega) none).2 (aR _) (fun k hk=>by cases hk);have hr:=run_append_nil (P:=P) w t ty e i z ht hi hz a 1 c news (by rw[hl,hsize]) hnews (by omega) (by omega) (by have hb:=hbytes;simp only[Nat.zero_add]at hb;omega);have hgr:=grown 0 (by omega) (Value.ownBlock (.slice none 0 0));simp only[Nat.zero_add,List.nil_append,Array.empty_append,hsize,hzs]at hgr hb hr⊢;exact⟨_,_,hr,hgr.1,hgr.2,.inr hb⟩
 ·by_cases hroom:n+1<=cap
  ·have hfit:n*i.size+news.length<=cur.size:=by rw[hl,hcs,hsize];omega
   have hr:=run_append_room (P:=P) w t ty e i ht hi g n cap cur hg a 1 c news (by rw[hl,hsize]) hnews h1 hroom hfit;refine⟨_,_,hr,⟨⟨hlen,.inr ⟨g,cap,_,rfl,hbg,setRow_heap w g cur _ e _ hg,hroom,hcm,?_,?_⟩⟩,fun g' hg' cs T z' h'=>?_⟩,⟨rfl,rfl,rfl,by simp,fun k _ hk=>setRow_other w g k _ (fun e0=>hk (by rw[e0];rfl))⟩,.inl rfl⟩
   ·simp only[List.size_toArray,aA,aI,aH,Array.length_toList];rw[hsize];omega
   ·rw[hsize,htake,<- hlen];exact List.take_left
   ·obtain rfl:g=g':=by injection hg'
    rw[setRow_heap w g cur _ e _ hg]at h';injection h' with h'
    injection h' with h' _ _
    subst h';have hc:=h.2 g rfl _ _ _ hg;refine NoI.list fun x hx=>?_;rcases List.mem_append.1 hx with e|e
    ·rcases List.mem_append.1 e with e|e
     ·exact hc x (Array.mem_toList_iff.1 (List.mem_of_mem_take e))
     ·exact hnn x e
    ·exact hc x (Array.mem_toList_iff.1 (List.mem_of_mem_drop e))
  ·have holds:∀j u,xs[j]? =some u->w.cell? ((⟨g,0,none⟩:Addr).add j)=some u:=hown.cells (g:=g) rfl;have hr:=run_append_grow (P:=P) w t ty e i z ht hi hz ⟨g,0,none⟩ n cap xs (by rw[hown.1,hsize]) holds a 1 c news (by rw[hl,hsize]) hnews (by omega) (by omega) (growslice_fits (by omega) hbytes);have hgr:=grown cap (by omega) (Value.ownBlock (.slice (some ⟨g,0,none⟩) n cap));have hb:=(Below.refl w.heap.size w).grown (grown cap (by omega) none).2 (aR _) (fun k hk=>by cases hk);exact⟨_,_,hr,hgr.1,hgr.2,.inr hb⟩
def Rw3.wpList{P:Program}{lo:Nat}{ops:Array Oper}{rest:List Oper}{o:Oper}{a:Act}{Q:Exit->Act->World->Prop}(hgd:o.guard=none)(s x:Operand)(t:TypeId)
  (ho:o.op=.call { callee:=.builtin .append,args:=#[s,x],argTypes:=#[t,t] })
  (e:TypeId) (i:TypeInfo) (z:Value) (bytes:Nat) (ht:P.underlying t=some (.slice e)) (hi:P.info? e=some i) (hz:i.zero=some z)
  (hsize:i.size=3) (hby:i.bytes=bytes) (hzs:z.cells.size=3) (hzn:NoI z.cells)
  {v:Value} (hs:a.eval s=v) (h:Rw3 lo w e v n xs)
  (ad:Addr) (c:Nat) (news:List Value) (hx:a.eval x=.slice (some ad) 1 c) (hl:news.length=3) (hnews:∀j u,news[j]? =some u->w.cell? (ad.add j)=some u) (h1:∀u∈news,u.oneCell'=true) (hnn:∀x∈news,∀(_:Unit) y,x≠Value.int .u8 y)
  (h63:n+1<=maxLen) (hbytes:(n+1)*bytes<=140737488355328) (hbase:lo<=w.heap.size)
  (hK:∀v' w',Rw3 lo w' e v' (n+1) (xs++news)->w.grownBy w' v.ownBlock->(v'.ownBlock=v.ownBlock\/Below w.heap.size w w')->wpList P ops Q rest (a.put o.dst v') w'):wpList P ops Q (o::rest) a w:=by
 refine wpList_plain hgd fun K hK'=>?_;obtain⟨v',w',hr,h2,h3,h5⟩:=h.app (P:=P) w t o.type e i z bytes ht hi hz hsize hby hzs hzn ad c news hl hnews h1 hnn h63 hbytes hbase;unfold Oper.wp execOp;simp only[ho,resolve,invoke,builtin,Sem.run_bind,Sem.run_pure,Result.andThen_ok,List.map_toArray,List.map_cons,List.map_nil,hs,hx,hr];exact hK' _ _ (hK v' w' h2 h3 h5)
variable [Prt]
def Off.under{w a b:World}(h:Off n0 w a)(k:Below w.heap.size a b):Off n0 w b:=
 ⟨k.os.trans h.os,k.tape.trans h.tape,k.output.trans h.output,aT h.size k.size,fun i hi hx hc=>(k.block i hi).trans (h.block i hi hx hc),fun i hi=>(Sp.same (k.block i hi.lt)).2 (h.sp i hi)⟩
def Mv.under{w a b:World}(h:Mv n0 M w a)(k:Below w.heap.size a b):Mv n0 M w b:=
 ⟨h.off.under k,fun i hi hs hm=>(k.block i hi).trans (h.keep i hi hs hm)⟩
def OwnV(lo:Nat)(w:World)(V:Value)(vs:List Va):Prop:=
 ∃ks,ks.length=vs.length/\Rw3 lo w 41 V vs.length (vasC vs ks)/\∀(i:Nat) (v:Va) (k:Value),vs[i]? =some v->ks[i]? =some k->SB w w.heap.size k v.s/\Vok v
def OwnV.nil(lo:Nat)(w:World):OwnV lo w (.slice none 0 0) []:=⟨[],rfl,Rw3.nil _ _ _,fun i v k h=>by cases h⟩
def OwnV.tag{lo:Nat}{V:Value}{vs:List Va}(h:OwnV lo w V vs)(hg:V.ownBlock=some g):lo<=g/\∃cs,w.heap[g]? =some (.cells cs 41 (0,0)):=by
 obtain⟨ks,h1,h2,h3⟩:=h;rcases h2.1.2 with⟨rfl,_⟩|⟨g',cap,cur,rfl,h4,h5,_⟩
 ·cases hg
 ·obtain rfl:g'=g:=by injection hg
  exact⟨h4,_,h5⟩
def OwnV.keep{n0 lo:Nat}{V:Value}{vs:List Va}(h:OwnV lo w V vs)(ho:Off n0 w w')(hk:∀g,V.ownBlock=some g->w'.heap[g]? =w.heap[g]?):OwnV lo w' V vs:=by
 obtain⟨ks,h1,h2,h3⟩:=h;refine⟨ks,h1,⟨⟨h2.1.1,?_⟩,fun g hg cs T z h'=>h2.2 g hg cs T z (by rw[<- hk g hg];exact h')⟩,fun i v k a b=>⟨(h3 i v k a b).1.off ho,(h3 i v k a b).2⟩⟩;rcases h2.1.2 with h'|⟨g,cap,cur,rfl,h4,h5,h6⟩
 ·exact .inl h'
 ·exact .inr ⟨g,cap,cur,rfl,h4,by rw[hk g rfl];exact h5,h6⟩
def OwnV.mv{n0 lo:Nat}{V:Value}{vs:List Va}(h:OwnV lo w V vs)(hm:Mv n0 M w w'):OwnV lo w' V vs:=by
 refine h.keep hm.off fun g hg=>?_;obtain⟨_,cs,h1⟩:=h.tag hg;rw[hm.kept h1 (by decide),h1]
def OwnV.argX{n0 lo:Nat}{V:Value}{vs:List Va}(h:OwnV lo w V vs):ArgX n0 w V vs:=by
 have ht:=fun g hg=>h.tag (g:=g) hg;obtain⟨ks,h1,h2,h3⟩:=h;refine⟨⟨fun b=>V.ownBlock=some b,ks,h1,?_,h3,fun b hb=>?_⟩⟩
 ·have hb:=h2.1;rcases h2.1.2 with⟨rfl,e⟩|⟨g,cap,cur,rfl,h4,hg,hn,hm,hs,ht'⟩
  ·have hv:vs.length=0:=e;rw[hv];have:vasC vs ks=[]:=by
    have:vs=[]:=List.eq_nil_of_length_eq_zero hv;subst this;rfl
   rw[this];exact RowF.nothing _ _
  ·exact⟨_,_,rfl,hn,hm,(fun e=>by cases e),fun j u hu=>⟨_,rfl,rfl,hb.cells rfl j u hu⟩⟩
 ·obtain⟨_,cs,hg⟩:=ht b hb;exact⟨(aU.1 hg).1,jX hg (by decide),.inr ⟨_,_,_,hg⟩⟩
def OwnV.shape{lo:Nat}{V:Value}{vs:List Va}(h:OwnV lo w V vs):∃A c,V=.slice A vs.length c:=by
 obtain⟨ks,h1,h2,h3⟩:=h;exact qm h2.1
def zj1(vs:List Va)(ks:List Value)(h:ks.length=vs.length)(v:Va)(k:Value):vasC (vs++[v]) (ks++[k])=vasC vs ks++vaC v k:=by
 unfold vasC;rw[List.zipWith_append h.symm];simp
def EOk(X:Cx10)(n:Nat):Prop:=∀(c:Nat) (env:Env) (e:Xe) (σ:Stt) (r:Ou Va) (w:World) (a:Option Addr) (ms:List Nat) (v:Value),c<=16->RunS X c σ w->ScAt X.n0 w (.pointer a) ms env->XeV w (Lo X.n0) e v->shE e=true->qD X.lim X.F n c env e σ=some r ->
 Calls prog 189 #[.pointer (some ⟨X.R,0,none⟩),v,.pointer a] w (qR X c NoM VaC w r)
def EsOk(X:Cx10)(n:Nat):Prop:=∀(c:Nat) (env:Env) (l:List Xe) (σ:Stt) (r:Ou (List Va)) (w:World) (a:Option Addr) (ms:List Nat) (V:Value),c<=16->RunS X c σ w->ScAt X.n0 w (.pointer a) ms env->XesC w (Lo X.n0) l V->shL l=true->qK X.lim X.F n c env l σ=some r ->
 Calls prog 155 #[.pointer (some ⟨X.R,0,none⟩),V,.pointer a] w (qR X c NoM (fun w' vs V=>OwnV w.heap.size w' V vs) w r)
def COk(X:Cx10)(n:Nat):Prop:=∀(c:Nat) (f:Xf) (k:Two) (vs:List Va) (σ:Stt) (r:Ou Va) (w:World) (V:Value),c<=16->RunS X c σ w->XfK w (Lo X.n0) f k->ArgX X.n0 w V vs->shB f.body=true->xo X.lim X.F n c f vs σ=some r ->
 Calls prog 47 #[.pointer (some ⟨X.R,0,none⟩),.agg (xfC f k.p k.b).toArray,V] w (qR X c NoM VaC w r)
def RetV(w:World)(o:Option Va)(x:Value):Prop:=
 match o with
 | some v=>∃u,x=.tuple #[u,.bool true]/\VaC w v u
 | none=>x=.tuple #[VV 0 0 kB,.bool false]
def QB10(X:Cx10)(b:Nat)(ms:List Nat)(w':World)(p:Option Va×Env)(x:Value):Prop:=RetV w' p.1 x/\ScAt X.n0 w' (.pointer (some ⟨b,0,none⟩)) ms p.2
def BOk(X:Cx10)(n:Nat):Prop:=∀(c:Nat) (env:Env) (l:List Xs) (σ:Stt) (r:Ou (Option Va×Env)) (w:World) (b:Nat) (ms:List Nat) (V:Value),c<=16->RunS X c σ w->ScAt X.n0 w (.pointer (some ⟨b,0,none⟩)) ms env->X.g ∉ ms->XssC w (Lo X.n0) l V->shB l=true->qS X.lim X.F n c env l σ=some r ->
 Calls prog 85 #[.pointer (some ⟨X.R,0,none⟩),V,.pointer (some ⟨b,0,none⟩)] w (qR X c (·∈ms) (QB10 X b ms) w r)
def SOk(X:Cx10)(n:Nat):Prop:=∀(c:Nat) (env:Env) (s:Xs) (σ:Stt) (r:Ou (Option Va×Env)) (w:World) (b:Nat) (ms:List Nat) (v:Value),c<=16->RunS X c σ w->ScAt X.n0 w (.pointer (some ⟨b,0,none⟩)) ms env->X.g ∉ ms->XsV w (Lo X.n0) s v->shS s=true->ji X.lim X.F n c env s σ=some r ->
 Calls prog 130 #[.pointer (some ⟨X.R,0,none⟩),v,.pointer (some ⟨b,0,none⟩)] w (qR X c (·∈ms) (QB10 X b ms) w r)
def xk(h:Mv n0 M w w')(hn:n0<=w.heap.size):Same (Lo n0) w w':=vL (h.low hn)
def xj(h:Below w.heap.size w w')(hn:n0<=w.heap.size):Same (Lo n0) w w':=fun k hk=>h.block k (by unfold Lo at hk;omega)
def ztf:(prog.info? 41).map (fun i=>(i.zero,i.size,i.bytes))=some (some (VV 0 0 kB),3,40):=by kernel_rfl
def kA{b:Nat}{op num aW:Int}{s:ByteArray}{k:Value}(h:w.heap[b]? =some (.cells #[.int .i64 op,.int .i64 num,.string s,k,.int .i64 aW] 202 (0,0))):w.cell? ⟨b,0,none⟩=some (.int .i64 op)/\w.cell? ⟨b,1,none⟩=some (.int .i64 num)/\w.cell? ⟨b,2,none⟩=some (.string s)/\w.cell? ⟨b,3,none⟩=some k/\w.cell? ⟨b,4,none⟩=some (.int .i64 aW):=by
 refine⟨?_,?_,?_,?_,?_⟩<;>simp[World.cell?,h]
def OwnV.more{X:Cx10}{σ:Stt}{lo:Nat}{w5 w6:World}{V V':Value}{vs:List Va}{ks:List Value}{v:Va}{k:Value}(hr:RunS X c σ w5)(hlo:X.n0<=lo)(hls:lo<=w5.heap.size)(hks:ks.length=vs.length)(h1:Rw3 lo w5 41 V vs.length (vasC vs ks))(h3:∀(i:Nat) (v:Va) (k:Value),vs[i]? =some v->ks[i]? =some k->SB w5 w5.heap.size k v.s/\Vok v)(hv:VaC w5 v (VV v.t v.n k))
  (h2:Rw3 lo w6 41 V' (vs.length+1) (vasC vs ks++vaC v k)) (hg:w5.grownBy w6 V.ownBlock) (hb:V'.ownBlock=V.ownBlock\/Below w5.heap.size w5 w6) :
  OwnV lo w6 V' (vs++[v])/\RunS X c σ w6/\Below lo w5 w6:=by
 have hoff:Off X.n0 w5 w6:=by
  rcases hb with e|hb
  ·cases hq:V.ownBlock with
   | none=>rw[hq]at hg;exact .of (j6 hg)
   | some g=>
    rw[hq]at hg e;exact Off.grown hg (h1.spb hlo hq) (h2.spb hlo e)
  ·exact .of hb
 have hfar:∀(b:Nat) (cs:Array Value) (T:TypeId) (z:Nat×Nat),w5.heap[b]? =some (.cells cs T z)->T≠41->w6.heap[b]? =w5.heap[b]?:=by
  intro b cs T z hb hT;refine hg.block b (aU.1 hb).1 fun e=>?_;obtain⟨cs',h'⟩:=(show lo<=b/\∃cs,w5.heap[b]? =some (.cells cs 41 (0,0)) from OwnV.tag (vs:=vs) ⟨ks,hks,h1,h3⟩ e.symm).2;rw[hb]at h';injection h' with h'
  injection h' with _ h' _
  exact hT h'
 refine⟨⟨ks++[k],by simp[hks],by rw[zj1 vs ks hks];simpa using h2,fun i x q hx hq=>?_⟩,hr.keep hoff (hfar _ _ _ _ hr.cell (by decide)) (fun b hb=>?_) (hg.block _ hr.tab.lt fun e=>?_),⟨hg.os,hg.tape,hg.output,hg.size,fun b hb=>?_⟩⟩
 ·rcases xH hx with hx|⟨e1,rfl⟩<;>rcases xH hq with hq|⟨e2,rfl⟩
  ·exact⟨(h3 i x q hx hq).1.off hoff,(h3 i x q hx hq).2⟩
  ·have:=(vm.1 hx).1;omega
  ·have:=(vm.1 hq).1;omega
  ·obtain⟨k',e,g1,g2⟩:=hv;have:k'=q:=by
    injection e with e
    simpa using e.symm
   subst this;exact⟨g1.off hoff,g2⟩
 ·obtain⟨cs,T,z,h4,h5⟩:=hr.jr.jb_tag hb;exact hfar _ _ _ _ h4 (by rcases h5 with rfl|rfl<;>decide)
 ·obtain⟨_,cs,h'⟩:=OwnV.tag (vs:=vs) ⟨ks,hks,h1,h3⟩ e.symm;obtain⟨arr,q,hm⟩:=hr.tab.obj;rw[hm]at h';cases h'
 ·refine hg.block b (by omega) fun e=>?_;have:=(OwnV.tag (vs:=vs) ⟨ks,hks,h1,h3⟩ e.symm).1;omega
end
end Go.Proofs.YtcilgkdnjgmogaaGreatDoor
