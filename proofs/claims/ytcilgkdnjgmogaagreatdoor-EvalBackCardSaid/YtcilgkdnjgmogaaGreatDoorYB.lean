/- A part of the proof. -/
import Derived.Test.YtcilgkdnjgmogaaGreatDoorRows
import Derived.Test.YtcilgkdnjgmogaaGreatDoorYA
import Derived.WalkKit
import Derived.WalkSpells
import Derived.WalkLawsBesides
import Derived.Lib.Hide
import Derived.Outline
import Derived.Deep.MidRow
import Derived.WalkMore
namespace Go.Proofs.YtcilgkdnjgmogaaGreatDoor
open Go.Proofs.Tryz
set_option maxRecDepth 100000
set_option maxHeartbeats 12800000
set_option linter.all false
variable {A:Option Addr} {B c g j k n p y:Nat} {c0 c1 c2 c3:Value} {e:TypeId} {l:List Nat} {w w' w1 wr:World} {xs:List Value}
section
section
open Go.RowKit
def qP{a b:Bool}(h:a=b):Ending.returned (.bool a)=.returned (.bool b):=by rw[h]
def jY{k:IntKind}{a b:Int}(h:a=b):Ending.returned (.int k a)=.returned (.int k b):=by rw[h]
def zlj(fn:Nat)(p:Nat->Bool):Prop:=∀(b:Nat) (w:World),b<256->Calls prog fn #[.int .u8 b] w fun e w'=>e=.returned (.bool (p b))/\w=w'
def zju:zlj 103 xO:=by
 intro b w hb;go_enter func103,ntmps103;go_wp2
 all_goals
  go_ret;refine⟨qP ?_,rfl⟩;unfold xO;rw[Bool.eq_iff_iff];simp only[aM,decide_eq_true_eq,Bool.false_eq_true,false_iff];omega
def zot:zlj 105 qu:=by
 intro b w hb;go_enter func105,ntmps105;go_wp2
 all_goals
  go_ret;refine⟨qP ?_,rfl⟩;unfold qu;rw[Bool.eq_iff_iff];simp only[aM,decide_eq_true_eq,Bool.false_eq_true,false_iff];omega
def zm9:zlj 139 kE:=by
 intro b w hb;have K1:=aQ (zju b w hb);have K2:=aQ (zot b w hb);have HN:Hid (kE b=(xO b || qu b || decide (b=95))):=rfl
 generalize xO b=x at *
 generalize qu b=y at *
 cases x<;>cases y<;>go_enter func139,ntmps139
 all_goals
  go_wp2_with(first|(go_at_call 103;refine K1.out.mono ?_;rintro e w' ⟨rfl,rfl⟩)|(go_at_call 105;refine K2.out.mono ?_;rintro e w' ⟨rfl,rfl⟩))
  go_ret;refine⟨qP ?_,rfl⟩;rw[HN.out]
  first|rfl|(simp;done)|(rw[Bool.eq_iff_iff];simp;omega)
def zm6:zlj 141 xZ:=by
 intro b w hb;go_enter func141,ntmps141;go_wp2
 all_goals
  go_ret;refine⟨qP ?_,rfl⟩;unfold xZ;rw[Bool.eq_iff_iff];simp
  try omega
def Ent(fn:Nat):Prop:=∀(args:Array Value) (w:World),(callFunc fn args).run prog w=.ok (.enter fn args) w
def zu4:Ent 105:=by intro args w;simp
def zu1:Ent 139:=by intro args w;simp
def zwb:Ent 141:=by intro args w;simp
def znx{p:Nat->Bool}{k b:Nat}(h:l[k]? =some b)(hp:p b=true):run p (l.drop k)=run p (l.drop (k+1))+1:=by
 obtain⟨hk,rfl⟩:=vm.1 h;rw[wv hk];simp[run,hp]
def zoa{p:Nat->Bool}{k b:Nat}(h:l[k]? =some b)(hp:p b=false):run p (l.drop k)=0:=by
 obtain⟨hk,rfl⟩:=vm.1 h;rw[wv hk];simp[run,hp]
def zl7(fn:Nat)(p:Nat->Bool)(he:Ent fn)(hp:zlj fn p)(A:Option Addr)(l:List Nat)(c at0:Nat)(w:World)(B:Nat)(hc:l.length<=c)(hcm:c<=maxLen)(hl:Lies w B A c (bts l))(hy:Byn l)(ha:at0<=l.length):Calls prog 101 #[.slice A l.length c,.int .i64 at0,.func (.func fn) #[] #[]] w fun e w'=>e=.returned (.int .i64 (at0+run p (l.drop at0):Nat))/\w=w':=by
 have HL:=aQ hl;have HY:=aQ hy;have HP:=aQ hp;clear hl hy hp;unfold maxLen at hcm;unfold Ent at he;go_enter func101,ntmps101;go_wp2
 go_loop [1] (fun i=>∃k:Nat,k<=l.length/\i=.int .i64 k/\Hid (k+run p (l.drop k)=at0+run p (l.drop at0))) (fun i=>l.length-(intOf i).toNat)
 case atStart=>exact⟨at0,ha,rfl,rfl⟩
 case round=>
  obtain⟨k,hk,rfl,HR⟩:=hrel;by_cases hlt:k<l.length
  ·obtain⟨ad,b,rfl,hB,hg,hcell⟩:=HL.out.nat hlt;have hb:=j8 HY.out hg;have HG:=aQ hg;clear hg;have K1:=aQ (HP.out b w hb);cases hpb:p b with
   | true=>
    rw[hpb]at K1;have HH:=aQ (znx HG.out hpb);clear hpb
    go_wp2_with(refine K1.out.mono ?_;rintro e w' ⟨rfl,rfl⟩)
    go_round
    case rel=>exact⟨k+1,by omega,by go_num,by have h1:=HR.out;have h2:=HH.out;show _=_;omega⟩
    case measure=>simp[intOf];omega
   | false=>
    rw[hpb]at K1;have HH:=aQ (zoa HG.out hpb);clear hpb
    go_wp2_with(refine K1.out.mono ?_;rintro e w' ⟨rfl,rfl⟩)
    go_ret;exact⟨jY (by have h1:=HR.out;have h2:=HH.out;omega),rfl⟩
  ·obtain rfl:k=l.length:=by omega
   go_wp2;go_ret;refine⟨jY ?_,rfl⟩;have h1:=HR.out;rw[List.drop_length]at h1;simp[run]at h1;omega
abbrev strV(s:List Nat):Value:=.string (strN s)
def Tab(w:World):Prop:=2<w.heap.size/\w.rangeAt 1 0 (xV.map strV)/\w.rangeAt 2 0 (xU.map strV)
def Tab.below(h:Tab w)(hb:Below B w w')(hB:2<B):Tab w':=
 ⟨aS h.1 hb.size,fun k v hk=>by rw[hb.cell (show(Addr.mk 1 _ none).block<B by show 1<B;omega)];exact h.2.1 k v hk,
  fun k v hk=>by rw[hb.cell (show(Addr.mk 2 _ none).block<B by show 2<B;omega)];exact h.2.2 k v hk⟩
def zqq:(prog.info? 247).map (·.size)=some 17:=by kernel_rfl
def zrq:(prog.info? 248).map (·.size)=some 22:=by kernel_rfl
def zc4{ops:Array Oper}{rest:List Oper}{o:Oper}{a:Act}{Q:Exit->Act->World->Prop}(h:Tab w)(hgd:o.guard=none)(ho:o.op=.load 247 (.global 1))
  (k:wpList prog ops Q rest (a.put o.dst (.agg (xV.map strV).toArray)) w):wpList prog ops Q (o::rest) a w:=
 wpList_load_mid hgd 247 (.global 1) ho 1 0 rfl _ _ h.2.1 underlying247 rfl zqq k
def vC(w:World){t e:TypeId}{cs:List Value}{v:Value}(h:prog.underlying t=some (.array n e))(hi:(prog.info? e).map (·.size)=some 1)(hg:(isAgg e).run prog w=.ok false w)
  (hk:k<n) (hv:cs[k]? =some v):(Instr.index t (.agg cs.toArray) (.int .i64 k)).run prog w=.ok v w:=by
 cases hq:prog.info? e with
 | none=>simp[hq]at hi
 | some i=>
  have hs:i.size=1:=by simpa[hq]using hi
  simp[Instr.index,run_underlying h,sizeOf,typeInfo,hq,hs,part,hg,hk,hv,asIntOf]
def zpf:(prog.info? 9).map (·.size)=some 1:=by kernel_rfl
def zko(h:k<17):∃x,xV[k]? =some x/\(xV.map strV)[k]? =some (.string (strN x))/\Byn x:=by
 have hk:k<xV.length:=h;refine⟨xV[k],vp hk,by simp[hk],?_⟩;have hall:∀x∈xV,∀b∈x,b<256:=by decide
 exact hall _ (List.getElem_mem hk)
def word(s:List Nat)(w:World)(hy:Byn s)(ht:Tab w):Calls prog 140 #[.string (strN s)] w fun e w'=>e=.returned (.bool (yz s))/\w=w':=by
 have HT:=aQ ht;have HY:=aQ hy;clear ht hy;have hlen:(xV.map strV).length=17:=rfl;have HG:Hid (∀k,k<17->∃x,xV[k]? =some x/\(xV.map strV)[k]? =some (.string (strN x))/\Byn x):=fun k h=>zko h;have HW:Hid (yz s=xV.contains s):=rfl;have HS:Hid (xV.length=17):=rfl;go_enter func140,ntmps140
 go_wp2_with(refine zc4 HT.out rfl rfl ?_;generalize xV.map strV=kw at *)
 generalize xV=W at *
 go_loop [6] (fun i=>∃k:Nat,k<=17/\i=.int .i64 k/\Hid (s ∉ W.take k)) (fun i=>17-(intOf i).toNat)
 case atStart=>exact⟨0,aK _,rfl,by simp[Hid]⟩
 case round=>
  obtain⟨k,hk,rfl,HR⟩:=hrel;by_cases hlt:k<17
  ·obtain⟨x,h1,h2,h3⟩:=HG.out k hlt;have H1:=aQ h1;have H3:=aQ h3;have hix:=vC w (k:=k) underlying247 zpf (by simp) hlt h2;clear h1 h3 h2;by_cases he:s=x
   ·have heq:=zac HY.out H3.out;rw[decide_eq_true he]at heq;have HE:=aQ he;clear he;go_wp2;go_ret;refine⟨qP ?_,rfl⟩;rw[HW.out,HE.out];simp[wM H1.out]
   ·have heq:=zac HY.out H3.out;rw[decide_eq_false he]at heq;have HE:=aQ he;clear he;go_wp2
    go_round
    case rel=>
     refine⟨k+1,by omega,by go_num,?_⟩;have h1:=HR.out;have h2:=HE.out;show s ∉ W.take (k+1);rw[List.take_add_one,H1.out];simp[h1,h2]
    case measure=>simp[intOf];omega
  ·obtain rfl:k=17:=by omega
   go_wp2;go_ret;refine⟨qP ?_,rfl⟩;rw[HW.out];have h1:=HR.out;rw[List.take_of_length_le (by rw[HS.out];omega)]at h1;simpa using h1
def Row(w:World)(B:Nat)(ad:Addr)(l:List (List Nat)):Prop:=ad.block<B/\∀j s,l[j]? =some s->Byn s/\w.cell? (ad.add j)=some (.string (strN s))
def inR(c:Bool)(b:Nat):Bool:=b==35 || (c&&b != 10)
def zhw{k b:Nat}{c:Bool}(h:l[k]? =some b)(hp:(inR c b || jQ b)=true):wD c (l.drop k)=wD (inR c b) (l.drop (k+1))+1:=by
 obtain⟨hk,rfl⟩:=vm.1 h;rw[wv hk];rw[wD,if_pos (show(l[k]==35 || c&&l[k]!=10 || jQ l[k])=true from hp)];rfl
def zh3{k b:Nat}{c:Bool}(h:l[k]? =some b)(hp:(inR c b || jQ b)=false):wD c (l.drop k)=0:=by
 obtain⟨hk,rfl⟩:=vm.1 h;rw[wv hk];rw[wD,if_neg (by rw[show(l[k]==35 || c&&l[k]!=10 || jQ l[k])=_ from hp];simp)]
def zjh{x y:Bool}{c:Bool}{b:Nat}{a:Addr}(h1:x=(inR c b || jQ b))(h2:y=inR c b):Ending.returned (.bool x)=.returned (.bool (inR c b || jQ b))/\w.setCell a (.bool y)=w.setCell a (.bool (inR c b)):=by
 subst h1 h2;exact⟨rfl,rfl⟩
def zjo(b Bc:Nat)(c:Bool)(w:World)(hb:b<256)(hc:w.heap[Bc]? =some (.cells #[.bool c] 4 (0,0))):Calls prog 102 #[.int .u8 b,.pointer (some ⟨Bc,0,none⟩)] w fun e w'=>e=.returned (.bool (inR c b || jQ b))/\w'=w.setCell ⟨Bc,0,none⟩ (.bool (inR c b)):=by
 have h1:=cell_of_one hc;have h2:=free_of_one hc;have HC:=aQ hc;have HD:Hid (∀u,(w.setCell ⟨Bc,0,none⟩ u).cell? ⟨Bc,0,none⟩=some u):=fun u=>cell_of_one (one_setCell hc);clear hc;have d1:=HD.out (.bool true);have d2:=HD.out (.bool false);cases c<;>go_enter func102,ntmps102
 all_goals
  go_wp2
  all_goals
   go_ret;refine zjh ?_ ?_
   all_goals
    unfold inR
    try unfold jQ
    rw[Bool.eq_iff_iff];simp
    try omega
def wV(w:World)(Bc:Nat)(c:Bool)(wr:World):Prop:=wr.heap[Bc]? =some (.cells #[.bool c] 4 (0,0))/\Below Bc w wr
def wV.step{Bc:Nat}{c:Bool}(h:wV w Bc c wr)(d:Bool):wV w Bc d (wr.setCell ⟨Bc,0,none⟩ (.bool d)):=
 ⟨one_setCell h.1,h.2.setCell (aR _) _⟩
def zf1(A:Option Addr)(l:List Nat)(c at0 Bc:Nat)(w:World)(hc:l.length<=c)(hcm:c<=maxLen)(hl:Lies w Bc A c (bts l))(hy:Byn l)(ha:at0<=l.length)(hw:w.heap[Bc]? =some (.cells #[.bool false] 4 (0,0))):Calls prog 101 #[.slice A l.length c,.int .i64 at0,.func (.func 102) #[] #[.pointer (some ⟨Bc,0,none⟩)]] w fun e w'=>e=.returned (.int .i64 (skip l at0:Nat))/\Below Bc w w':=by
 have HL:=aQ hl;have HY:=aQ hy;have HW:Hid (wV w Bc false w):=⟨hw,Below.refl _ _⟩;clear hl hy hw;unfold maxLen at hcm;go_enter func101,ntmps101;go_wp2
 go_loopw [1] (fun i wr=>∃(k:Nat) (d:Bool),k<=l.length/\i=.int .i64 k/\Hid (k+wD d (l.drop k)=skip l at0)/\wV w Bc d wr) (fun i _=>l.length-(intOf i).toNat)
 case atStart=>exact⟨at0,false,ha,rfl,rfl,HW.out⟩
 case round=>
  obtain⟨k,d,hk,rfl,HR,hs⟩:=hrel;by_cases hlt:k<l.length
  ·obtain⟨ad,b,rfl,hB,hg,hcell⟩:=(HL.out.below hs.2).nat hlt;have hb:=j8 HY.out hg;have HG:=aQ hg;have HS:=aQ hs;have K1:=aQ (zjo b Bc d wr hb hs.1);clear hg hs;cases hpb:(inR d b || jQ b)with
   | true=>
    rw[hpb]at K1;have HH:=aQ (zhw HG.out hpb);clear hpb
    go_wp2_with(go_at_call 102;refine K1.out.mono ?_;rintro e w' ⟨rfl,rfl⟩)
    go_roundw
    case rel=>exact⟨k+1,_,by omega,by go_num,by have h1:=HR.out;have h2:=HH.out;show _=_;omega,HS.out.step _⟩
    case measure=>simp[intOf];omega
   | false=>
    rw[hpb]at K1;have HH:=aQ (zh3 HG.out hpb);clear hpb
    go_wp2_with(go_at_call 102;refine K1.out.mono ?_;rintro e w' ⟨rfl,rfl⟩)
    go_ret;exact⟨jY (by have h1:=HR.out;have h2:=HH.out;omega),(HS.out.step _).2⟩
  ·obtain rfl:k=l.length:=by omega
   have hbel:=hs.2;clear hs;go_wp2;go_ret;refine⟨jY ?_,hbel⟩;have h1:=HR.out;rw[List.drop_length]at h1;simp[wD]at h1;omega
def zew(A:Option Addr)(l:List Nat)(c at0:Nat)(w:World)(hc:l.length<=c)(hcm:c<=maxLen)(hl:Lies w w.heap.size A c (bts l))(hy:Byn l)(ha:at0<=l.length):Calls prog 62 #[.slice A l.length c,.int .i64 at0] w fun e w'=>e=.returned (.int .i64 (skip l at0:Nat))/\Below w.heap.size w w':=by
 have HL:=aQ hl;have HY:=aQ hy;clear hl hy;have b0:=aQ ((Below.refl w.heap.size w).alloc (aR _) (.cells #[.bool false] 4));have h0:=aQ (ye w (.cells #[.bool false] 4));go_enter func62,ntmps62
 go_wp2_with fail
 refine(zf1 A l c at0 w.heap.size _ hc hcm (HL.out.below b0.out) HY.out ha h0.out).mono ?_;rintro e w1 ⟨rfl,hb1⟩;have hfin:=b0.out.trans hb1;clear hb1;go_wp2;go_ret;exact⟨rfl,hfin⟩
def znl(w:World)(cs:List Value)(t:TypeId)(fr:Nat×Nat)(j:Nat){v:Value}(h:cs[j]? =some v):(w.alloc (.cells cs.toArray t fr)).cell? ⟨w.heap.size,j,none⟩=some v:=by
 have h1:(w.alloc (.cells cs.toArray t fr)).heap[w.heap.size]? =some (.cells cs.toArray t fr):=ye w _;rw[wy _ _ _ _ _ _ h1];simpa using h
def words_row(w:World):Row (w.alloc (.cells (xV.map strV).toArray 9)) (w.heap.size+1) ⟨w.heap.size,0,none⟩ xV:=by
 refine⟨Nat.lt_succ_self _,fun j s hs=>?_⟩;have hj:j<17:=by
  have:=(vm.1 hs).1;exact this
 obtain⟨x,h1,h2,h3⟩:=zko hj;obtain rfl:x=s:=by
  have:=h1.symm.trans hs;simpa using this
 refine⟨h3,?_⟩;have:(Addr.mk w.heap.size 0 none).add j=⟨w.heap.size,j,none⟩:=by unfold Addr.add;split<;>simp_all
 rw[this];exact znl w _ 9 (0,0) j h2
def okV(kind:Nat)(aZ:List Nat)(num p q:Nat):Value:=.tuple #[.agg #[.int .i64 kind,.string (strN aZ),.int .i64 num,.int .i64 p],.int .i64 q,.int .i64 0]
def badV(e:Nat):Value:=.tuple #[.agg #[.int .i64 0,.string ⟨#[]⟩,.int .i64 0,.int .i64 0],.int .i64 0,.int .i64 e]
def yg(r:Read)(p:Nat):Value:=bif r.err==0 then okV r.kind r.aZ r.num p (p+r.len)else badV r.err
def kK(e p:Nat)(he:e≠0):yg (bad e) p=badV e:=by
 unfold yg bad;cases e with
 | zero=>exact absurd rfl he
 | succ e=>rfl
def yM(k:Nat)(t:List Nat)(n len p:Nat):yg ⟨0,k,t,n,len⟩ p=okV k t n p (p+len):=rfl
def za(w:World)(o:Obj):Below w.heap.size w (w.alloc o):=(Below.refl _ _).alloc (aR _) o
def zjd(a:Addr)(p:Nat):a.add (p+1)=⟨a.block,a.off+(p+1),none⟩:=by unfold Addr.add;simp
def zhm(h:Lies w B A c (bts l))(hc:l.length<=c)(hn:p+n<=l.length):(convert 22 9 (.slice (if c=p then A else A.map (fun x=>x.add p)) n (c-p))).run prog w=.ok (.string (strN ((l.drop p).take n))) w:=by
 have hm:=h.midN (p:=p) (n:=n) hc;exact js w 22 9 5 underlying22 underlying5 underlying9 B _ n (c-p) _ (by simp;omega) hm
def zox(A:Option Addr)(l:List Nat)(c p:Nat)(w:World)(hc:l.length<=c)(hcm:c<=maxLen)(hl:Lies w w.heap.size A c (bts l))(hy:Byn l)(hp:p<l.length)(ht:Tab w):Calls prog 104 #[.slice A l.length c,.int .i64 p] w fun e w'=>e=.returned (yg (zer (l.drop p)) p)/\Below w.heap.size w w':=by
 have HL:=aQ hl;have HY:=aQ hy;have HT:=aQ ht;have hpos:=ht.1;clear hl hy ht;obtain⟨ad,_,rfl,_,_,_⟩:=HL.out.nat hp;have hne:¬c=p:=by omega
 have b0:=aQ ((Below.refl w.heap.size w).alloc (aR _) (.cells #[.int .i64 0,.string ⟨#[]⟩,.int .i64 0,.int .i64 0] 134));go_enter func104,ntmps104
 go_wp2_with fail
 refine(zl7 139 kE zu1 zm9 (some ad) l c p _ w.heap.size hc hcm (HL.out.below b0.out) HY.out (by omega)).mono ?_;rintro e w1 ⟨rfl,rfl⟩;have hrl:=zbm kE (l.drop p);rw[aH]at hrl;have HN:Hid (zer (l.drop p)=if run kE (l.drop p) > 16 then bad 32 else⟨0,bif yz ((l.drop p).take (run kE (l.drop p)))then 4 else 1,(l.drop p).take (run kE (l.drop p)),0,run kE (l.drop p)⟩):=rfl;have hcv:=zhm (HL.out.below b0.out) (p:=p) (n:=run kE (l.drop p)) hc (by omega);have K1:=aQ (word ((l.drop p).take (run kE (l.drop p))) _ (HY.out.sub fun x hx=>List.mem_of_mem_drop (List.mem_of_mem_take hx)) (HT.out.below b0.out hpos));rw[if_neg hne,Option.map_some]at hcv
 generalize run kE (l.drop p)=n at *
 generalize(l.drop p).take n=t at *
 unfold maxLen at hcm;by_cases h16:n > 16
 ·have HE:=aQ (kK 32 p (by omega));rw[if_pos h16]at HN;clear hcv;go_wp2;refine vS (by simp[results,results104,go_sem];rfl) rfl ?_;refine⟨?_,?_⟩
  ·rw[HN.out,HE.out];rfl
  ·exact za _ _
 ·rw[if_neg h16]at HN
  generalize yz t=q at *
  cases q
  ·(go_wp2_with fail);refine K1.out.mono ?_;rintro e w1 ⟨rfl,rfl⟩
   go_wp2;refine vS (by simp[results,results104,go_sem];rfl) rfl ?_;refine⟨?_,?_⟩
   ·rw[HN.out];simp[yg,okV]
   ·exact za _ _
  ·(go_wp2_with fail);refine K1.out.mono ?_;rintro e w1 ⟨rfl,rfl⟩
   go_wp2;refine vS (by simp[results,results104,go_sem];rfl) rfl ?_;refine⟨?_,?_⟩
   ·rw[HN.out];simp[yg,okV]
   ·exact za _ _
def zgd{b:Nat}(h:qu b=true):48<=b/\b<=57:=by simpa[qu]using h
def zjl{t:List Nat}{k b v:Nat}(h:t[k]? =some b)(hv:v > (9223372036854775807-(b-48)) / 10):kG (t.drop k) v=none:=by
 obtain⟨hk,rfl⟩:=vm.1 h;rw[wv hk];simp only[kG,if_pos hv]
def zi1{t:List Nat}{k b v:Nat}(h:t[k]? =some b)(hv:¬v > (9223372036854775807-(b-48)) / 10):kG (t.drop k) v=kG (t.drop (k+1)) (v*10+(b-48)):=by
 obtain⟨hk,rfl⟩:=vm.1 h;rw[wv hk];simp only[kG,if_neg hv]
def zme{r:List Nat}{v:Nat}(h:kG (r.take (run qu r)) 0=some v):numT r=⟨0,2,[],v,run qu r⟩:=by
 unfold numT;rw[h]
def zkb{r:List Nat}(h:kG (r.take (run qu r)) 0=none):numT r=bad 32:=by
 unfold numT;rw[h]
def zoj:strN []=⟨#[]⟩:=rfl
def zpx(A:Option Addr)(l:List Nat)(c p:Nat)(w:World)(hc:l.length<=c)(hcm:c<=maxLen)(hl:Lies w w.heap.size A c (bts l))(hy:Byn l)(hp:p<l.length):Calls prog 106 #[.slice A l.length c,.int .i64 p] w fun e w'=>e=.returned (yg (numT (l.drop p)) p)/\Below w.heap.size w w':=by
 have HL:=aQ hl;have HY:=aQ hy;clear hl hy;obtain⟨ad,_,rfl,_,_,_⟩:=HL.out.nat hp;have hne:¬c=p:=by omega
 have b0:=aQ ((Below.refl w.heap.size w).alloc (aR _) (.cells #[.int .i64 0,.string ⟨#[]⟩,.int .i64 0,.int .i64 0] 134));go_enter func106,ntmps106
 go_wp2_with fail
 refine(zl7 105 qu zu4 zot (some ad) l c p _ w.heap.size hc hcm (HL.out.below b0.out) HY.out (by omega)).mono ?_;rintro e w1 ⟨rfl,rfl⟩;have hrl:=zbm qu (l.drop p);rw[aH]at hrl;have HS:Hid (∀v,kG ((l.drop p).take (run qu (l.drop p))) 0=some v->numT (l.drop p)=⟨0,2,[],v,run qu (l.drop p)⟩):=fun v h=>zme h;have HN:Hid (kG ((l.drop p).take (run qu (l.drop p))) 0=none->numT (l.drop p)=bad 32):=fun h=>zkb h;have hm:=(HL.out.below b0.out).midN (p:=p) (n:=run qu (l.drop p)) hc;rw[if_neg hne,Option.map_some]at hm;have HM:=aQ hm;clear hm;have HD:Hid (∀b∈(l.drop p).take (run qu (l.drop p)),qu b=true):=zln qu (l.drop p);have HLT:Hid (((l.drop p).take (run qu (l.drop p))).length=run qu (l.drop p)):=by show _=_;simp;omega
 unfold maxLen at hcm
 generalize run qu (l.drop p)=n at *
 generalize(l.drop p).take n=t at *
 go_wp2
 generalize ad.add p=a2 at *
 go_loop [8,20] (fun x i=>∃k v:Nat,k<=n/\v<=9223372036854775807/\i=.int .i64 k/\x=.int .i64 v/\Hid (kG (t.drop k) v=kG t 0)) (fun _ i=>n-(intOf i).toNat)
 case atStart=>exact⟨0,0,aK _,aK _,rfl,rfl,rfl⟩
 case round=>
  obtain⟨k,v,hk,hv,rfl,rfl,HR⟩:=hrel;by_cases hlt:k<n
  ·obtain⟨a3,b,he,hB,hg,hcell⟩:=HM.out.nat (k:=k) (by rw[HLT.out];exact hlt);injection he with he
   subst he;have hb:=zgd (HD.out b (wM hg));have HG:=aQ hg;clear hg;obtain⟨d,rfl⟩:∃d,b=d+48:=⟨b-48,by omega⟩;have hcell':(w.alloc (Obj.cells #[Value.int IntKind.i64 0,Value.string ⟨#[]⟩,Value.int IntKind.i64 0,Value.int IntKind.i64 0] 134)).cell? (a2.add k)=some (.int .u8 ((d:Int)+48)):=by rw[hcell];simp
   clear hcell;by_cases hbig:v > (9223372036854775807-(d+48-48)) / 10
   ·have HV:=aQ (zjl HG.out hbig);go_wp2;refine vS (by simp[results,results106,go_sem];rfl) rfl ?_;refine⟨?_,za _ _⟩;rw[HN.out (HR.out.symm.trans HV.out),kK 32 p (by omega)];rfl
   ·have HV:=aQ (zi1 HG.out hbig);go_wp2
    go_round
    case rel=>exact⟨k+1,v*10+d,by omega,by omega,by go_num,by go_num,by have h1:=HV.out;rw[Nat.add_sub_cancel]at h1;exact h1.symm.trans HR.out⟩
    case measure=>simp[intOf];omega
  ·obtain rfl:k=n:=by omega
   go_wp2;refine vS (by simp[results,results106,go_sem];rfl) rfl ?_;refine⟨?_,za _ _⟩;have h1:=HR.out;rw[List.drop_of_length_le (by rw[HLT.out];omega)]at h1;rw[HS.out v h1.symm,yM,okV,zoj];simp
def zhx(h:¬l[p+1+run xZ (l.drop (p+1))]? =some 34):jN (l.drop p)=bad 31:=by
 unfold jN;rw[List.drop_drop,List.getElem?_drop,if_neg h]
def ziv(h:l[p+1+run xZ (l.drop (p+1))]? =some 34)(hn:run xZ (l.drop (p+1)) > 64):jN (l.drop p)=bad 32:=by
 unfold jN;rw[List.drop_drop,List.getElem?_drop,if_pos h,if_pos hn]
def znj(h:l[p+1+run xZ (l.drop (p+1))]? =some 34)(hn:¬run xZ (l.drop (p+1)) > 64):jN (l.drop p)=⟨0,3,(l.drop (p+1)).take (run xZ (l.drop (p+1))),0,run xZ (l.drop (p+1))+2⟩:=by
 unfold jN;rw[List.drop_drop,List.getElem?_drop,if_pos h,if_neg hn]
def zm3(A:Option Addr)(l:List Nat)(c p:Nat)(w:World)(hc:l.length<=c)(hcm:c<=maxLen)(hl:Lies w w.heap.size A c (bts l))(hy:Byn l)(hp:p<l.length):Calls prog 107 #[.slice A l.length c,.int .i64 p] w fun e w'=>e=.returned (yg (jN (l.drop p)) p)/\Below w.heap.size w w':=by
 have HL:=aQ hl;have HY:=aQ hy;clear hl hy;have b0:=aQ ((Below.refl w.heap.size w).alloc (aR _) (.cells #[.int .i64 0,.string ⟨#[]⟩,.int .i64 0,.int .i64 0] 134));have hcm':=hcm;unfold maxLen at hcm';go_enter func107,ntmps107
 go_wp2_with fail
 refine(zl7 141 xZ zwb zm6 A l c (p+1) _ w.heap.size hc hcm (HL.out.below b0.out) HY.out (by omega)).mono ?_;rintro e w1 ⟨rfl,rfl⟩;have hrl:=zbm xZ (l.drop (p+1));rw[aH]at hrl;have H1:Hid (¬l[p+1+run xZ (l.drop (p+1))]? =some 34->jN (l.drop p)=bad 31):=zhx;have H2:Hid (l[p+1+run xZ (l.drop (p+1))]? =some 34->run xZ (l.drop (p+1)) > 64->jN (l.drop p)=bad 32):=ziv;have H3:Hid (l[p+1+run xZ (l.drop (p+1))]? =some 34->¬run xZ (l.drop (p+1)) > 64->jN (l.drop p)=⟨0,3,(l.drop (p+1)).take (run xZ (l.drop (p+1))),0,run xZ (l.drop (p+1))+2⟩):=znj;have hcv:=zhm (HL.out.below b0.out) (p:=p+1) (n:=run xZ (l.drop (p+1))) hc (by omega)
 generalize run xZ (l.drop (p+1))=n at *
 generalize(l.drop (p+1)).take n=t at *
 by_cases hend:p+1+n<l.length
 ·obtain⟨ad,b,rfl,hB,hg,hcell⟩:=(HL.out.below b0.out).nat hend;have hne:¬c=p+1:=by omega
  rw[if_neg hne,Option.map_some]at hcv;have HG:=aQ hg;have hb:=j8 HY.out hg;clear hg;by_cases h34:b=34
  ·subst h34;by_cases h64:n > 64
   ·clear hcv;go_wp2;refine vS (by simp[results,results107,go_sem];rfl) rfl ?_;refine⟨?_,za _ _⟩;rw[H2.out HG.out h64,kK 32 p (by omega)];rfl
   ·rw[zjd]at hcv;go_wp2;refine vS (by simp[results,results107,go_sem];rfl) rfl ?_;refine⟨?_,za _ _⟩;rw[H3.out HG.out h64,yM,okV];simp;omega
  ·clear hcv;have e34:((b:Int)!=34)=true:=by rw[bne_iff_ne];omega
   go_wp2;refine vS (by simp[results,results107,go_sem];rfl) rfl ?_;refine⟨?_,za _ _⟩;rw[H1.out (by rw[HG.out];simpa using h34),kK 31 p (by omega)];rfl
 ·clear hcv;obtain hend:p+1+n=l.length:=by omega
  have H0:Hid (¬l[p+1+n]? =some 34):=by rw[hend];show ¬l[l.length]? =some 34;simp
  go_wp2;refine vS (by simp[results,results107,go_sem];rfl) rfl ?_;refine⟨?_,za _ _⟩;rw[H1.out H0.out,kK 31 p (by omega)];rfl
def xy(r best x:List Nat):List Nat:=if x.length<=best.length then best else if x.length > r.length then best else if r.take x.length=x then x else best
def best(r:List Nat):List (List Nat)->List Nat->List Nat
 | [],b=>b
 | x::L,b=>best r L (xy r b x)
def wN(r:List Nat):∀(L:List (List Nat)) (x b:List Nat),best r (L++[x]) b=xy r (best r L b) x
 | [],_,_=>rfl
 | y::L,x,b=>wN r L x (xy r b y)
def wI(r:List Nat):∀(L:List (List Nat)) (b:List Nat),(∀x∈L,x.length<=b.length)->best r L b=b
 | [],_,_=>rfl
 | x::L,b,h=>by
  have h1:xy r b x=b:=by unfold xy;rw[if_pos (h x (by simp))]
  show best r L (xy r b x)=b;rw[h1];exact wI r L b fun y hy=>h y (by simp[hy])
def zak(r:List Nat)(m:Nat)(hm:0<m):∀(L:List (List Nat)),(∀x∈L,x.length=m)->best r L []=if L.contains (r.take m)then r.take m else []
 | [],_=>by simp[best]
 | x::L,h=>by
  have hx:=h x (by simp);have hL:∀y∈L,y.length=m:=fun y hy=>h y (by simp[hy]);show best r L (xy r [] x)=_;by_cases hr:r.take m=x
  ·have h1:xy r [] x=x:=by
    unfold xy;have:(r.take m).length=m:=by rw[hr,hx]
    rw[aI]at this;rw[if_neg (by rw[hx];simp only[List.length_nil];omega),if_neg (by omega),hx,if_pos hr]
   rw[h1,wI r L x fun y hy=>by rw[hL y hy,hx];exact aR _];simp[hr]
  ·have h1:xy r [] x=[]:=by
    unfold xy;rw[hx];simp[hr]
   rw[h1,zak r m hm L hL];simp[hr]
def zit(r:List Nat):best r xU []=xf r:=by
 have app:∀(L M:List (List Nat)) (b:List Nat),best r (L++M) b=best r M (best r L b):=by
  intro L
  induction L with
  | nil=>intro M b;rfl
  | cons x L ih=>intro M b;exact ih M _
 unfold xU xf;rw[app,zak r 2 (by omega) twos (by decide)];have h1:∀x∈ones,x.length=1:=by decide
 by_cases h:twos.contains (r.take 2)=true
 ·rw[if_pos h,if_pos h];refine wI r ones _ fun x hx=>?_;have h2:∀x∈twos,x.length=2:=by decide
  have:=h2 (r.take 2) (by simpa using h);rw[h1 x hx,this];omega
 ·rw[if_neg h,if_neg h];exact zak r 1 (by omega) ones h1
def zkl(h:k<22):∃x,xU[k]? =some x/\(xU.map strV)[k]? =some (.string (strN x))/\Byn x/\1<=x.length/\x.length<=2:=by
 have hk:k<xU.length:=h;have hall:∀x∈xU,(∀b∈x,b<256)/\1<=x.length/\x.length<=2:=by decide
 have h1:=hall _ (List.getElem_mem hk);exact⟨xU[k],vp hk,by simp[hk],h1.1,h1.2⟩
def zcy{ops:Array Oper}{rest:List Oper}{o:Oper}{a:Act}{Q:Exit->Act->World->Prop}(h:Tab w)(hgd:o.guard=none)(ho:o.op=.load 248 (.global 2))
  (k:wpList prog ops Q rest (a.put o.dst (.agg (xU.map strV).toArray)) w):wpList prog ops Q (o::rest) a w:=
 wpList_load_mid hgd 248 (.global 2) ho 2 0 rfl _ _ h.2.2 underlying248 rfl zrq k
def zoo{x:List Nat}(hx:Byn x)(h:x[j]? =some y):∀(hj:j<(strN x).size),((strN x)[j]'hj).toNat=y:=by
 intro hj;have hb:=j8 hx h;have h1:(strN x)[j]? =some (UInt8.ofNat y):=by
  have:(strN x).data[j]? =some (UInt8.ofNat y):=by rw[xr];simp[h]
  exact this
 have h2:(strN x)[j]'hj=UInt8.ofNat y:=by
  have h3:(strN x)[j]? =some ((strN x)[j]'hj):=by simp[hj]
  rw[h1]at h3;simpa using h3.symm
 rw[h2];have h4:y % 256=y:=by omega
 simp[h4]
def zjz{r x:List Nat}(h:r.take j=x.take j)(hr:r[j]? =some y)(hx:x[j]? =some y):r.take (j+1)=x.take (j+1):=by
 rw[List.take_add_one,List.take_add_one,h,hr,hx]
def zfa{r x:List Nat}{j a y:Nat}(hr:r[j]? =some a)(hx:x[j]? =some y)(hay:¬a=y):¬r.take x.length=x:=by
 intro h;have hj:=(vm.1 hx).1;have h1:(r.take x.length)[j]? =some a:=by rw[List.getElem?_take,if_pos hj,hr]
 rw[h,hx]at h1;exact hay (by simpa using h1.symm)
def zqx(A:Option Addr)(r:List Nat)(n c:Nat)(w:World)(hn:r.length=n)(hl:Lies w w.heap.size A c (bts r))(hy:Byn r)(ht:Tab w):Calls prog 142 #[.slice A n c] w fun e w'=>e=.returned (.string (strN (xf r)))/\Below w.heap.size w w':=by
 have HL:=aQ hl;have HY:=aQ hy;have HT:=aQ ht;have HNL:=aQ hn;clear hl hy ht hn;have hlen:(xU.map strV).length=22:=rfl;have HG:Hid (∀k,k<22->∃x,xU[k]? =some x/\(xU.map strV)[k]? =some (.string (strN x))/\Byn x/\1<=x.length/\x.length<=2):=fun k h=>zkl h;have HB:=aQ (zit r);have HS:Hid (xU.length=22):=rfl;go_enter func142,ntmps142;go_wp2
 go_step3
 go_wp2
 go_step3
 go_wp2_with(refine zcy HT.out rfl rfl ?_;generalize xU.map strV=kw at *)
 generalize xU=W at *
 go_loopw [3,8] (fun s i wr=>∃(k:Nat),k<=22/\i=.int .i64 k/\s=.string (strN (best r (W.take k) []))/\Below w.heap.size w wr) (fun _ i _=>22-(intOf i).toNat)
 case atStart=>exact⟨0,aK _,rfl,rfl,Below.refl _ _⟩
 case round=>
  obtain⟨k,hk,rfl,rfl,hbel⟩:=hrel;have BE:=aQ hbel;clear hbel;by_cases hlt:k<22
  ·obtain⟨x,h1,h2,h3,h4,h5⟩:=HG.out k hlt;have hix:=vC wr (k:=k) underlying248 zpf (by simp) hlt h2;have HX:=aQ h3;have HSt:Hid (best r (W.take (k+1)) []=xy r (best r (W.take k) []) x):=by
    show _=_;rw[List.take_add_one,h1];exact wN r _ x []
   clear h1 h2 h3
   generalize best r (W.take k) []=b at *
   have hsx:=vk x;have hsb:=vk b;have HR:=HNL.out;by_cases hskip:x.length<=b.length
   ·have HB1:Hid (xy r b x=b):=by show _=_;unfold xy;rw[if_pos hskip]
    clear HR;go_wp2
    go_roundw
    case rel=>exact⟨k+1,by omega,by go_num,by rw[HSt.out,HB1.out],BE.out⟩
    case measure=>simp[intOf];omega
   ·by_cases hlong:x.length > n
    ·have HB1:Hid (xy r b x=b):=by show _=_;unfold xy;rw[if_neg hskip,if_pos (by omega)]
     clear HR;go_wp2
     go_roundw
     case rel=>exact⟨k+1,by omega,by go_num,by rw[HSt.out,HB1.out],BE.out⟩
     case measure=>simp[intOf];omega
    ·have HB1:Hid (xy r b x=if r.take x.length=x then x else b):=by show _=_;unfold xy;rw[if_neg hskip,if_neg (by omega)]
     clear HR;go_wp2;clear hix
     go_loopw [25] (fun i ws=>∃(j:Nat),j<=x.length/\i=.int .i64 j/\Hid (r.take j=x.take j)/\Below w.heap.size w ws) (fun i _=>x.length-(intOf i).toNat)
     case atStart=>exact⟨0,aK _,rfl,by simp[Hid],BE.out⟩
     case round=>
      obtain⟨j,hj,rfl,HJ,hbel⟩:=hrel;by_cases hjl:j<x.length
      ·obtain⟨ad,a,rfl,hBa,hg,hcell⟩:=(HL.out.below hbel).nat (k:=j) (by rw[HNL.out];omega);obtain⟨y,hyx⟩:∃y,x[j]? =some y:=⟨_,vp hjl⟩;have hidx:=zoo HX.out hyx;have ha:=j8 HY.out hg;have hyb:=j8 HX.out hyx;have HG1:=aQ hg;have HG2:=aQ hyx;have BE2:=aQ hbel;clear hg hyx hbel BE;by_cases hay:a=y
       ·subst hay;go_wp2;go_quiet (fail);go_wp2
        go_roundw
        case rel=>exact⟨j+1,by omega,by go_num,zjz HJ.out HG1.out HG2.out,zW BE2.out _⟩
        case measure=>simp[intOf];omega
       ·have hne:((a:Int)!=(y:Int))=true:=by rw[bne_iff_ne];omega
        rw[if_neg (zfa HG1.out HG2.out hay)]at HB1;go_wp2;go_quiet (fail);go_wp2
        go_roundw
        case rel=>exact⟨k+1,by omega,by go_num,by rw[HSt.out,HB1.out],zW BE2.out _⟩
        case measure=>simp[intOf];omega
      ·obtain rfl:j=x.length:=by omega
       have HE:Hid (r.take x.length=x):=by have h1:=HJ.out;rw[List.take_length]at h1;exact h1
       rw[if_pos HE.out]at HB1;have BE2:=aQ hbel;clear hbel BE;go_wp2
       go_roundw
       case rel=>exact⟨k+1,by omega,by go_num,by rw[HSt.out,HB1.out],BE2.out⟩
       case measure=>simp[intOf];omega
  ·obtain rfl:k=22:=by omega
   have HS2:=aQ (List.take_of_length_le (l:=W) (i:=22) (by rw[HS.out];omega));rw[HS2.out,HB.out];go_wp2;simp only[Exit.noGoto];go_ret;exact⟨rfl,BE.out⟩
def zkw:(prog.info? 134).map (·.size)=some 4:=by kernel_rfl
def za7(w:World)(c0 c1 c2 c3:Value):Below g w (w.setCells g 0 [c0,c1,c2,c3]):=
 (((((Below.refl g w).setCell (p:=⟨g,0,none⟩) (aR _) c0).setCell (p:=⟨g,1,none⟩) (aR _) c1).setCell (p:=⟨g,2,none⟩) (aR _) c2).setCell (p:=⟨g,3,none⟩) (aR _) c3)
def zao(hk:k≠g)(w:World)(c0 c1 c2 c3:Value):(w.setCells g 0 [c0,c1,c2,c3]).heap[k]? =w.heap[k]?:=by
 show(World.setCell (World.setCell (World.setCell (World.setCell w ⟨g,0,none⟩ c0) ⟨g,1,none⟩ c1) ⟨g,2,none⟩ c2) ⟨g,3,none⟩ c3).heap[k]? =_;rw[Below.heap_setCell _ _ _ _ hk,Below.heap_setCell _ _ _ _ hk,Below.heap_setCell _ _ _ _ hk,Below.heap_setCell _ _ _ _ hk]
def xd{ops:Array Oper}{rest:List Oper}{o:Oper}{a:Act}{Q:Exit->Act->World->Prop}(hgd:o.guard=none)(x y:Operand)(ho:o.op=.store 134 x y)(hd:o.dst=none)
  (g:Nat) (hx:a.eval x=.pointer (some ⟨g,0,none⟩)) (c0 c1 c2 c3:Value) (hy:a.eval y=.agg #[c0,c1,c2,c3]) (ht:w.there g 0 4) (h0:c0.oneCell'=true) (h1:c1.oneCell'=true) (h2:c2.oneCell'=true) (h3:c3.oneCell'=true)
  (h:∀w',w'.rangeAt g 0 [c0,c1,c2,c3]->w'.there g 0 4->Below g w w'->(∀k,k≠g->w'.heap[k]? =w.heap[k]?)->wpList prog ops Q rest a w'):wpList prog ops Q (o::rest) a w:=by
 refine wpList_store_mid hgd 134 x y ho g 0 #[c0,c1,c2,c3] hx hy ht zkw (by simp[h0,h1,h2,h3]) ?_;have:=h (w.setCells g 0 [c0,c1,c2,c3]) (World.rangeAt_setCells_same w g 0 _ ht) (World.there_setCells ht _ _ _) (za7 w c0 c1 c2 c3) (fun k hk=>zao hk w c0 c1 c2 c3);rw[hd];exact this
def zy9{fn:Func}(h:fn.results=#[.cell 4 134,.tmp 5,.tmp 6])(tmps:Array Value)(w:World)(g:Nat)(cs:List Value)(hp:tmps.getD 4 undef=.pointer (some ⟨g,0,none⟩))(hr:w.rangeAt g 0 cs)(hl:cs.length=4):(results fn tmps).run prog w=.ok (.tuple #[.agg cs.toArray,tmps.getD 5 undef,tmps.getD 6 undef]) w:=by
 have hp':tmps[4]?.getD undef=.pointer (some ⟨g,0,none⟩):=by simpa using hp
 have h1:=run_loadVar_mid (P:=prog) w g 0 134 cs _ hr underlying134 rfl (by rw[hl];exact zkw);simp[results,h,hp',asAddr,h1]
def zhn(h:w.heap[g]? =some (.cells #[c0,c1,c2,c3] 134 (0,0))):w.there g 0 4:=by
 intro j hj;constructor
 ·rw[wy _ _ _ _ _ _ h];rcases j with _|_|_|_|j
  ·rfl
  ·rfl
  ·rfl
  ·rfl
  ·omega
 ·simp[World.frozen?,h]
def zkp(s:List Nat):(strN s).toList.isEmpty=s.isEmpty:=by
 rw[ByteArray.toList_eq,xr];cases s<;>rfl
def zi8(r:List Nat):(xf r).length<=2:=by
 unfold xf
 repeat' split
 all_goals simp only[aI,List.length_nil]
 all_goals omega
def zb4{r:List Nat}(h:Byn r):Byn (xf r):=by
 unfold xf
 split
 ·exact h.sub fun x hx=>List.mem_of_mem_take hx
 ·split
  ·exact h.sub fun x hx=>List.mem_of_mem_take hx
  ·intro b hb;cases hb
def zi4{r:List Nat}(h:xf r=[]):yu r=bad 31:=by unfold yu;rw[if_pos h]
def zh1{r:List Nat}(h:¬xf r=[]):yu r=⟨0,4,xf r,0,(xf r).length⟩:=by unfold yu;rw[if_neg h]
def zm2(A:Option Addr)(l:List Nat)(c p:Nat)(w:World)(hc:l.length<=c)(hcm:c<=maxLen)(hl:Lies w w.heap.size A c (bts l))(hy:Byn l)(hp:p<l.length)(ht:Tab w):Calls prog 108 #[.slice A l.length c,.int .i64 p] w fun e w'=>e=.returned (yg (yu (l.drop p)) p)/\Below w.heap.size w w':=by
 have HL:=aQ hl;have HY:=aQ hy;have HT:=aQ ht;have hpos:=ht.1;clear hl hy ht;obtain⟨ad,_,rfl,_,_,_⟩:=HL.out.nat hp;have hne:¬c=p:=by omega
 have hpl:p<=l.length:=by omega
 have b0:=aQ ((Below.refl w.heap.size w).alloc (aR _) (.cells #[.int .i64 0,.string ⟨#[]⟩,.int .i64 0,.int .i64 0] 134));have hm:=(HL.out.below b0.out).cutN (p:=p) hc;rw[if_neg hne,Option.map_some]at hm;have K1:=aQ (zqx (some (ad.add p)) (l.drop p) (l.length-p) (c-p) _ (by simp) (hm.more b0.out.size) (HY.out.sub fun x hx=>List.mem_of_mem_drop hx) (HT.out.below b0.out hpos));have hnew:=aQ (ye w (.cells #[.int .i64 0,.string ⟨#[]⟩,.int .i64 0,.int .i64 0] 134));have H1:Hid (xf (l.drop p)=[]->yu (l.drop p)=bad 31):=zi4;have H2:Hid (¬xf (l.drop p)=[]->yu (l.drop p)=⟨0,4,xf (l.drop p),0,(xf (l.drop p)).length⟩):=zh1;have hs2:=zi8 (l.drop p);have hs3:=zeo (l.drop p);rw[aH]at hs3;have HSB:=aQ (zb4 (r:=l.drop p) (HY.out.sub fun x hx=>List.mem_of_mem_drop hx))
 generalize xf (l.drop p)=s at *
 clear hm;unfold maxLen at hcm;go_enter func108,ntmps108
 go_wp2_with fail
 refine K1.out.mono ?_;rintro e w1 ⟨rfl,hb1⟩;have hblk:w1.heap[w.heap.size]? =some (.cells #[.int .i64 0,.string ⟨#[]⟩,.int .i64 0,.int .i64 0] 134 (0,0)):=by
  rw[hb1.block _ (by simp)];exact hnew.out
 have HBL:=aQ hblk;have bw:=b0.out.trans (hb1.mono b0.out.size);have BW:=aQ bw;clear hb1 bw hblk;have hth:=aQ (zhn HBL.out);have hsz:=vk s;have he:=zkp s;by_cases hs0:s=[]
 ·subst hs0;rw[List.isEmpty_nil]at he
  go_wp2_with(refine xd rfl (.tmp 4) (.tmp 14) rfl rfl w.heap.size rfl _ _ _ _ rfl hth.out rfl rfl rfl rfl ?_;intro w2 g1 g2 g3 g4)
  refine vS (zy9 results108 _ _ w.heap.size _ rfl g1 rfl) rfl ?_;refine⟨?_,BW.out.trans g3⟩;rw[H1.out trivial,kK 31 p (by omega)];rfl
 ·rw[show s.isEmpty=false by simpa using hs0]at he;have HS0:=aQ hs0;clear hs0
  go_wp2_with(refine xd rfl (.tmp 4) (.tmp 17) rfl rfl w.heap.size rfl _ _ _ _ rfl hth.out rfl rfl rfl rfl ?_;intro w2 g1 g2 g3 g4)
  refine vS (zy9 results108 _ _ w.heap.size _ rfl g1 rfl) rfl ?_;refine⟨?_,BW.out.trans g3⟩;rw[H2.out HS0.out,yM,okV];simp
def jM(r:Read)(p:Nat):∃c0 c1 c2 c3 q e:Value,yg r p=.tuple #[.agg #[c0,c1,c2,c3],q,e]/\c0.oneCell'=true/\c1.oneCell'=true/\c2.oneCell'=true/\c3.oneCell'=true:=by
 unfold yg;cases r.err==0
 ·exact⟨_,_,_,_,_,_,rfl,rfl,rfl,rfl,rfl⟩
 ·exact⟨_,_,_,_,_,_,rfl,rfl,rfl,rfl,rfl⟩
def zm4{p b:Nat}(h:l[p]? =some b):qC (l.drop p)=if xO b then zer (l.drop p)else if qu b then numT (l.drop p)else if b=34 then jN (l.drop p)else yu (l.drop p):=by
 obtain⟨hk,rfl⟩:=vm.1 h;rw[wv hk];exact vV _ _
def jc{w wn w2:World}(hb0:Below w.heap.size w wn)(hnew:wn.heap[w.heap.size]? =some (.cells #[c0,c1,c2,c3] 134 (0,0)))(h:Below wn.heap.size wn w2):w2.there w.heap.size 0 4/\Below w.heap.size w w2:=by
 refine⟨zhn (c0:=c0) (c1:=c1) (c2:=c2) (c3:=c3) ?_,hb0.trans (h.mono hb0.size)⟩;rw[h.block _ (lt_of_block hnew)];exact hnew
def zgm{v v':Value}(h:v=v'):Ending.returned v=.returned v':=by rw[h]
def zj2(A:Option Addr)(l:List Nat)(c p:Nat)(w:World)(hc:l.length<=c)(hcm:c<=maxLen)(hl:Lies w w.heap.size A c (bts l))(hy:Byn l)(hp:p<l.length)(ht:Tab w):Calls prog 63 #[.slice A l.length c,.int .i64 p] w fun e w'=>e=.returned (yg (qC (l.drop p)) p)/\Below w.heap.size w w':=by
 have HL:=aQ hl;have HY:=aQ hy;have HT:=aQ ht;have hpos:=ht.1;clear hl hy ht;obtain⟨ad,b,rfl,hB,hg,hcell⟩:=HL.out.nat hp;have hb:=j8 HY.out hg;have HR:=aQ (zm4 hg);clear hg;have b0:=aQ (za w (.cells #[.int .i64 0,.string ⟨#[]⟩,.int .i64 0,.int .i64 0] 134));have hnew:=aQ (ye w (.cells #[.int .i64 0,.string ⟨#[]⟩,.int .i64 0,.int .i64 0] 134));have hcell0:=b0.out.cell (p:=ad.add p) (by rw[qh];exact hB);rw[hcell]at hcell0;have HLn:=aQ ((HL.out.below b0.out).more b0.out.size);have HTn:=aQ (HT.out.below b0.out hpos);clear hcell;have K1:=aQ (zju b (w.alloc (.cells #[.int .i64 0,.string ⟨#[]⟩,.int .i64 0,.int .i64 0] 134)) hb);have K2:=aQ (zot b (w.alloc (.cells #[.int .i64 0,.string ⟨#[]⟩,.int .i64 0,.int .i64 0] 134)) hb);go_enter func63,ntmps63
 go_wp2_with fail
 generalize w.alloc (.cells #[.int .i64 0,.string ⟨#[]⟩,.int .i64 0,.int .i64 0] 134)=wn at *
 clear hcell0;refine K1.out.mono ?_;rintro e w1 ⟨rfl,rfl⟩;by_cases h1:xO b=true
 ·rw[if_pos h1]at HR;rw[h1];obtain⟨c0,c1,c2,c3,q,er,hV,o0,o1,o2,o3⟩:=jM (zer (l.drop p)) p;have HV:=aQ hV;have K3:=aQ (zox (some ad) l c p wn hc hcm HLn.out HY.out hp HTn.out);rw[hV]at K3;clear hV K1 K2
  (go_wp2_with fail);refine K3.out.mono ?_;rintro e w2 ⟨rfl,hb2⟩;have HP:=aQ (jc b0.out hnew.out hb2);clear hb2 K3
  go_wp2_with(refine xd rfl (.tmp 4) (.tmp 18) rfl rfl w.heap.size rfl _ _ _ _ rfl HP.out.1 o0 o1 o2 o3 ?_;intro w3 g1 g2 g3 g4)
  refine vS (zy9 results63 _ _ w.heap.size _ rfl g1 rfl) rfl ?_;exact⟨zgm (by rw[HR.out,HV.out];rfl),HP.out.2.trans g3⟩
 ·rw[if_neg h1]at HR;rw[show xO b=false by simpa using h1];clear K1
  (go_wp2_with fail);refine K2.out.mono ?_;rintro e w1 ⟨rfl,rfl⟩;by_cases h2:qu b=true
  ·rw[if_pos h2]at HR;rw[h2];obtain⟨c0,c1,c2,c3,q,er,hV,o0,o1,o2,o3⟩:=jM (numT (l.drop p)) p;have HV:=aQ hV;have K3:=aQ (zpx (some ad) l c p wn hc hcm HLn.out HY.out hp);rw[hV]at K3;clear hV K2
   (go_wp2_with fail);refine K3.out.mono ?_;rintro e w2 ⟨rfl,hb2⟩;have HP:=aQ (jc b0.out hnew.out hb2);clear hb2 K3
   go_wp2_with(refine xd rfl (.tmp 4) (.tmp 27) rfl rfl w.heap.size rfl _ _ _ _ rfl HP.out.1 o0 o1 o2 o3 ?_;intro w3 g1 g2 g3 g4)
   refine vS (zy9 results63 _ _ w.heap.size _ rfl g1 rfl) rfl ?_;exact⟨zgm (by rw[HR.out,HV.out];rfl),HP.out.2.trans g3⟩
  ·rw[if_neg h2]at HR;rw[show qu b=false by simpa using h2];clear K2;by_cases h3:b=34
   ·rw[if_pos h3]at HR;subst h3;obtain⟨c0,c1,c2,c3,q,er,hV,o0,o1,o2,o3⟩:=jM (jN (l.drop p)) p;have HV:=aQ hV;have K3:=aQ (zm3 (some ad) l c p wn hc hcm HLn.out HY.out hp);rw[hV]at K3;clear hV
    (go_wp2_with fail);refine K3.out.mono ?_;rintro e w2 ⟨rfl,hb2⟩;have HP:=aQ (jc b0.out hnew.out hb2);clear hb2 K3
    go_wp2_with(refine xd rfl (.tmp 4) (.tmp 36) rfl rfl w.heap.size rfl _ _ _ _ rfl HP.out.1 o0 o1 o2 o3 ?_;intro w3 g1 g2 g3 g4)
    refine vS (zy9 results63 _ _ w.heap.size _ rfl g1 rfl) rfl ?_;exact⟨zgm (by rw[HR.out,HV.out];rfl),HP.out.2.trans g3⟩
   ·rw[if_neg h3]at HR;have h34:((b:Int)==34)=false:=by rw[yI];omega
    obtain⟨c0,c1,c2,c3,q,er,hV,o0,o1,o2,o3⟩:=jM (yu (l.drop p)) p;have HV:=aQ hV;have K3:=aQ (zm2 (some ad) l c p wn hc hcm HLn.out HY.out hp HTn.out);rw[hV]at K3;clear hV
    (go_wp2_with fail);refine K3.out.mono ?_;rintro e w2 ⟨rfl,hb2⟩;have HP:=aQ (jc b0.out hnew.out hb2);clear hb2 K3
    go_wp2_with(refine xd rfl (.tmp 4) (.tmp 42) rfl rfl w.heap.size rfl _ _ _ _ rfl HP.out.1 o0 o1 o2 o3 ?_;intro w3 g1 g2 g3 g4)
    refine vS (zy9 results63 _ _ w.heap.size _ rfl g1 rfl) rfl ?_;exact⟨zgm (by rw[HR.out,HV.out];rfl),HP.out.2.trans g3⟩
def zs8:(prog.info? 134).map (fun i=>(i.zero,i.size,i.bytes))=some (some (.agg #[.int .i64 0,.string ⟨#[]⟩,.int .i64 0,.int .i64 0]),4,40):=by kernel_rfl
def tokC(t:Tok):List Value:=[.int .i64 t.kind,.string (strN t.aZ),.int .i64 t.num,.int .i64 t.aW]
def yF(ts:List Tok):List Value:=ts.flatMap tokC
def zi0(ts:List Tok)(t:Tok):yF (ts++[t])=yF ts++tokC t:=by simp[yF]
def LexO(w:World)(o:Out)(e:Ending)(w':World):Prop:=
 ∃v,e=.returned (.tuple #[v,.int .i64 o.err,.int .i64 o.aW])/\w'.ownsRow w.heap.size 134 4 v o.toks.length (yF o.toks)/\Below w.heap.size w w'
def zj3(w:World)(c0 c1 c2 c3:Value):∀j u,[c0,c1,c2,c3][j]? =some u->(w.alloc (.cells #[c0,c1,c2,c3] 134)).cell? ((Addr.mk w.heap.size 0 none).add j)=some u:=by
 intro j u h;have e:(Addr.mk w.heap.size 0 none).add j=⟨w.heap.size,j,none⟩:=by unfold Addr.add;split<;>simp_all
 rw[e];exact znl w [c0,c1,c2,c3] 134 (0,0) j h
def qm{base:Nat}{size:Nat}{v:Value}(h:w.ownsRow base e size v n xs):∃A c,v=.slice A n c:=by
 rcases h.2 with⟨h1,h2⟩|⟨g,cap,cur,h1,_⟩
 ·exact⟨none,0,h1.trans (by rw[h2])⟩
 ·exact⟨_,_,h1⟩
def wG(h:Below B w w1)(hB:B<=w1.heap.size)(o o':Obj):Below B w ((w1.alloc o).alloc o'):=by
 have h1:=h.alloc hB o;exact h1.alloc (by simp;omega) o'
def one4{k n p:Int}{s:ByteArray}:∀u∈[Value.int .i64 k,.string s,.int .i64 n,.int .i64 p],u.oneCell'=true:=by
 intro u hu;simp at hu;rcases hu with rfl|rfl|rfl|rfl<;>rfl
def zn0{base:Nat}{v:Value}{ts:List Tok}{kind num aW:Nat}{aZ:List Nat}(h:w.ownsRow base 134 4 v (ts.length+1) (yF ts++[.int .i64 kind,.string (strN aZ),.int .i64 num,.int .i64 aW])):w.ownsRow base 134 4 v (ts++[Tok.mk kind aZ num aW]).length (yF (ts++[Tok.mk kind aZ num aW])):=by
 rw[zi0,aA];exact h
def lex(A:Option Addr)(l:List Nat)(c:Nat)(w:World)(hc:l.length<=c)(hcm:c<=maxLen)(hl:Lies w w.heap.size A c (bts l))(hy:Byn l)(ht:Tab w):Calls prog 33 #[.slice A l.length c] w (LexO w (xx l)):=by
 have HL:=aQ hl;have HY:=aQ hy;have HT:=aQ ht;have hpos:=ht.1;clear hl hy ht;have hcm':=hcm;unfold maxLen at hcm';obtain⟨i0,hi,hz0,hz1,hz2⟩:=info_parts zs8;by_cases hbig:l.length > 4096
 ·have HE:Hid (xx l=⟨2,[],0⟩):=by show _=_;unfold xx;rw[if_pos hbig]
  clear hi hz0 hz1 hz2;go_enter func33,ntmps33;go_wp2
  go_ret3;rw[HE.out];exact⟨_,rfl,World.ownsRow_nil _ _ _ _,Below.refl _ _⟩
 ·have HE:=aQ (zir (l:=l) (by omega));go_enter func33,ntmps33
  (go_wp2_with fail);refine(zew A l c 0 w hc hcm HL.out HY.out (by omega)).mono ?_;rintro e w0 ⟨rfl,hb0⟩;have hs0:=zkz l 0 (aK _)
  generalize skip l 0=p0 at *
  have HB0:=aQ hb0;clear hb0;go_wp2
  go_loopw [5,6] (fun v i wr=>∃(p:Nat) (ts:List Tok),p<=l.length/\ts.length<=2048/\i=.int .i64 p/\wr.ownsRow w.heap.size 134 4 v ts.length (yF ts)/\Below w.heap.size w wr/\Hid (xx l=rest l p ts)) (fun _ i _=>l.length-(intOf i).toNat)
  case atStart=>exact⟨p0,[],hs0,aK _,rfl,World.ownsRow_nil _ _ _ _,HB0.out,HE.out⟩
  case round=>
   clear HE HB0;obtain⟨p,ts,hp,hts,rfl,hown,hbel,HR⟩:=hrel;have HO:=aQ hown;have HB:=aQ hbel;have hsz:=hbel.size;clear hown hbel;by_cases hlt:p<l.length
   ·(go_wp2_with fail);refine(zj2 A l c p wr hc hcm ((HL.out.below HB.out).more hsz) HY.out hlt (HT.out.below HB.out hpos)).mono ?_;rintro e w1 ⟨rfl,hb1⟩;have HB1:=aQ (HB.out.trans (hb1.mono hsz));have HO1:=aQ (wB HO.out hb1 (aR _));have hsz1:=aT hsz hb1.size;clear hb1;have HN0:Hid ((qC (l.drop p)).err≠0->rest l p ts=⟨(qC (l.drop p)).err,[],p⟩):=fun h=>znv ts hlt h;have HN1:Hid ((qC (l.drop p)).err=0->ts.length=2048->rest l p ts=⟨2,[],p⟩):=fun h h2=>zj6 hlt h h2;have HN2:Hid ((qC (l.drop p)).err=0->ts.length≠2048->rest l p ts=rest l (skip l (p+(qC (l.drop p)).len)) (ts++[⟨(qC (l.drop p)).kind,(qC (l.drop p)).aZ,(qC (l.drop p)).num,p⟩])):=fun h h2=>zkv hlt h h2;have HLn:Hid ((qC (l.drop p)).err=0->1<=(qC (l.drop p)).len/\(qC (l.drop p)).len<=(l.drop p).length):=zcz (l.drop p)
    generalize qC (l.drop p)=r at *
    obtain⟨er,kind,aZ,num,len⟩:=r;dsimp only at HN0 HN1 HN2 HLn;by_cases her:er=0
    ·subst her;rw[yM,okV];have hlen:=HLn.out rfl;rw[aH]at hlen;by_cases hfull:ts.length=2048
     ·have HX:=aQ (HN1.out rfl hfull);clear HN0 HN1 HN2 HLn hi hz0 hz1 hz2;obtain⟨A1,c1,hv⟩:=qm HO1.out;subst hv;go_wp2
      go_ret3;rw[HR.out,HX.out];exact⟨_,rfl,World.ownsRow_nil _ _ _ _,HB1.out.alloc hsz1 _⟩
     ·have HX:=aQ (HN2.out rfl hfull);have hfull':ts.length<2048:=by omega
      clear HN0 HN1 HN2 HLn;obtain⟨A1,c1,hv⟩:=qm HO1.out;subst hv;have ho2:=aQ ((HO1.out.alloc (.cells #[.int .i64 kind,.string (strN aZ),.int .i64 num,.int .i64 p] 134)).alloc (.cells #[.int .i64 kind,.string (strN aZ),.int .i64 num,.int .i64 p] 134));have hb2:=aQ (wG HB1.out hsz1 (.cells #[.int .i64 kind,.string (strN aZ),.int .i64 num,.int .i64 p] 134) (.cells #[.int .i64 kind,.string (strN aZ),.int .i64 num,.int .i64 p] 134));have hr2:=zj3 (w1.alloc (.cells #[.int .i64 kind,.string (strN aZ),.int .i64 num,.int .i64 p] 134)) (.int .i64 kind) (.string (strN aZ)) (.int .i64 num) (.int .i64 p);rw[aE]at hr2;replace hr2:=aQ hr2;have hbig2:w.heap.size<=((w1.alloc (.cells #[.int .i64 kind,.string (strN aZ),.int .i64 num,.int .i64 p] 134)).alloc (.cells #[.int .i64 kind,.string (strN aZ),.int .i64 num,.int .i64 p] 134)).heap.size:=by simp;omega
      have HZ2:=aQ hbig2;clear hbig2
      go_wp2_with(at_builtin;refine wpList_append_own _ rfl (.tmp 37) (.tmp 39) 71 rfl w.heap.size 134 i0 _ 4 40 underlying71 hi hz0 hz1 hz2 rfl (by omega) _ _ _ rfl ho2.out ⟨w1.heap.size+1,0,none⟩ 1 1 [.int .i64 kind,.string (strN aZ),.int .i64 num,.int .i64 p] rfl rfl hr2.out one4 (by unfold maxLen;omega) (by omega) HZ2.out ?_;intro v3 w3 ho3 hg3 hn3)
      have hb3:Below w.heap.size w w3:=hb2.out.grown hg3 HZ2.out (fun k hk=>(ho2.out.lt k hk).1);have hs3:=hb3.size;have HO3:=aQ (zn0 ho3);have HB3:=aQ hb3;clear ho3 hg3 hn3 hb3 ho2 hb2 hr2 HZ2 hi hz0 hz1 hz2;rw[show((p:Int)+(len:Int))=((p+len:Nat):Int) by simp];refine(zew A l c (p+len) w3 hc hcm ((HL.out.below HB3.out).more hs3) HY.out (by omega)).mono ?_;rintro e w4 ⟨rfl,hb4⟩;have hsk1:=zkz l (p+len) (by omega);have hsk2:=zco l (p+len);have HB4:=aQ (HB3.out.trans (hb4.mono hs3));have HO4:=aQ (wB HO3.out hb4 (aR _));clear hb4
      generalize skip l (p+len)=p2 at *
      go_wp2
      go_roundw
      case rel=>exact⟨p2,_,hsk1,by simp;omega,rfl,HO4.out,HB4.out,HR.out.trans HX.out⟩
      case measure=>simp[intOf];omega
    ·have HX:=aQ (HN0.out her);rw[yg,show(er==0)=false by simpa using her];clear HN0 HN1 HN2 HLn hi hz0 hz1 hz2;have he1:((er:Int)==0)=false:=by rw[yI];omega
     have he2:((er:Int)!=0)=true:=by rw[bne_iff_ne];omega
     unfold badV;go_wp2
     go_ret3;rw[HR.out,HX.out];exact⟨_,rfl,World.ownsRow_nil _ _ _ _,HB1.out.alloc hsz1 _⟩
   ·obtain rfl:p=l.length:=by omega
    have HX:=aQ (zor (l:=l) (p:=l.length) ts (aR _));go_wp2
    go_ret3;rw[HR.out,HX.out];exact⟨_,rfl,HO.out,HB.out⟩
end
end
end Go.Proofs.YtcilgkdnjgmogaaGreatDoor
