/- A part of the proof. -/
import Derived.Test.YtcilgkdnjgmogaaGreatDoorYB
import Derived.WalkKit
import Derived.WalkSpells
import Derived.WalkLawsBesides
import Derived.Lib.Hide
import Derived.Outline
import Derived.Laws.BytesArg
import Derived.Laws.AppendOwnNone
import Derived.Deep.MidRow
import Derived.Deep.RegionHeld3
import Derived.Deep.QuietTactic
import Derived.BigQuiet
import Derived.IntWalk
namespace Go.Proofs.YtcilgkdnjgmogaaGreatDoor
open Go.Proofs.Tryz
set_option maxRecDepth 100000
set_option maxHeartbeats 12800000
set_option linter.all false
variable {B c g n:Nat} {D:Nat->Prop} {w w' w'':World}
section
section
open Go.RowKit
def qZ(g o:Nat):∀(cs:List Value) (w:World),Below g w (w.setCells g o cs)/\(∀k,k≠g->(w.setCells g o cs).heap[k]? =w.heap[k]?)/\(w.setCells g o cs).heap.size=w.heap.size:=by
 intro cs
 induction cs generalizing o with
 | nil=>exact fun w=>⟨Below.refl _ _,fun _ _=>rfl,rfl⟩
 | cons c cs ih=>
  intro w;have h:=ih (o+1) (w.setCell ⟨g,o,none⟩ c);refine⟨((Below.refl g w).setCell (p:=⟨g,o,none⟩) (aR _) c).trans h.1,fun k hk=>?_,h.2.2.trans (by simp[World.setCell])⟩;have h2:=h.2.1 k hk;rw[Below.heap_setCell _ _ _ _ hk]at h2;exact h2
def zi{ops:Array Oper}{rest:List Oper}{o:Oper}{a:Act}{Q:Exit->Act->World->Prop}{T n:Nat}(hi:(prog.info? T).map (·.size)=some n)(hgd:o.guard=none)(x y:Operand)(ho:o.op=.store T x y)(hd:o.dst=none)
  (g:Nat) (hx:a.eval x=.pointer (some ⟨g,0,none⟩)) (cs:List Value) (hl:cs.length=n) (hy:a.eval y=.agg cs.toArray) (ht:w.there g 0 n) (h1:∀u∈cs,u.oneCell'=true)
  (h:∀w',w'.rangeAt g 0 cs->w'.there g 0 n->Below g w w'->(∀k,k≠g->w'.heap[k]? =w.heap[k]?)->w'.heap.size=w.heap.size->wpList prog ops Q rest a w'):wpList prog ops Q (o::rest) a w:=by
 subst hl;refine wpList_store_mid hgd T x y ho g 0 cs.toArray hx hy (by simpa using ht) (by simpa using hi) (by simpa using h1) ?_;have hb:=qZ g 0 cs w;have:=h (w.setCells g 0 cs) (World.rangeAt_setCells_same w g 0 _ (by simpa using ht)) (World.there_setCells ht _ _ _) hb.1 hb.2.1 hb.2.2;rw[hd];exact this
def zU{fn:Func}{s T:Nat}{d:TypeDesc}{cs:List Value}(h:fn.results=#[.cell s T])(hu:prog.underlying T=some d)(hd:d.isRow=true)(hi:(prog.info? T).map (·.size)=some cs.length)(tmps:Array Value)(w:World)(g:Nat)(hp:tmps.getD s undef=.pointer (some ⟨g,0,none⟩))(hr:w.rangeAt g 0 cs):(results fn tmps).run prog w=.ok (.agg cs.toArray) w:=by
 have hp':tmps[s]?.getD undef=.pointer (some ⟨g,0,none⟩):=by simpa using hp
 have h1:=run_loadVar_mid (P:=prog) w g 0 T cs _ hr hu hd hi;simp[results,h,hp',asAddr,h1]
def zP{fn:Func}{s T u:Nat}{d:TypeDesc}{cs:List Value}(h:fn.results=#[.cell s T,.tmp u])(hu:prog.underlying T=some d)(hd:d.isRow=true)(hi:(prog.info? T).map (·.size)=some cs.length)(tmps:Array Value)(w:World)(g:Nat)(hp:tmps.getD s undef=.pointer (some ⟨g,0,none⟩))(hr:w.rangeAt g 0 cs):(results fn tmps).run prog w=.ok (.tuple #[.agg cs.toArray,tmps.getD u undef]) w:=by
 have hp':tmps[s]?.getD undef=.pointer (some ⟨g,0,none⟩):=by simpa using hp
 have h1:=run_loadVar_mid (P:=prog) w g 0 T cs _ hr hu hd hi;simp[results,h,hp',asAddr,h1]
def qI{cs:List Value}{T:TypeId}(h:w.heap[g]? =some (.cells cs.toArray T (0,0))):w.rangeAt g 0 cs:=by
 intro j v hv;rw[wy _ _ _ _ _ _ h];simpa using hv
def xJ{cs:List Value}{T:TypeId}(h:w.heap[g]? =some (.cells cs.toArray T (0,0)))(hn:cs.length=n):w.there g 0 n:=by
 intro j hj;constructor
 ·rw[wy _ _ _ _ _ _ h];simp;omega
 ·simp[World.frozen?,h]
def zdn{cs:List Value}(h:w.rangeAt g 0 cs)(hb:Below B w w')(hg:g<B):w'.rangeAt g 0 cs:=by
 intro j v hv;rw[hb.cell (by exact hg)];exact h j v hv
def zG(h:w.there g 0 n)(hb:Below B w w')(hg:g<B):w'.there g 0 n:=by
 intro j hj;have e:=hb.block g hg;refine⟨?_,?_⟩
 ·rw[hb.cell (by exact hg)];exact(h j hj).1
 ·have:=(h j hj).2;unfold World.frozen? at this⊢;rw[e];exact this
def zEl:(prog.info? 41).map (·.size)=some 3:=by kernel_rfl
def zH:(prog.info? 319).map (·.size)=some 3:=by kernel_rfl
def zjf:(prog.info? 5).map (fun i=>(i.zero,i.size,i.bytes))=some (some (.int .u8 0),1,1):=by kernel_rfl
def info_parts{P:Program}{t:TypeId}{a:Option Value×Nat×Nat}(h:(P.info? t).map (fun i=>(i.zero,i.size,i.bytes))=some a):∃i,P.info? t=some i/\i.zero=a.1/\i.size=a.2.1/\i.bytes=a.2.2:=by
 cases hi:P.info? t with
 | none=>rw[hi]at h;cases h
 | some i=>
  rw[hi]at h;injection h with h
  subst h;exact⟨i,rfl,rfl,rfl,rfl⟩
abbrev VV(t n:Int)(k:Value):Value:=.agg #[.int .i64 t,.int .i64 n,k]
abbrev kB:Value:=.slice none 0 0
abbrev zO:Obj:=.cells #[.int .i64 0,.int .i64 0,kB] 41
def At6(w:World)(b:Nat)(t n:Int)(k:Value):Prop:=w.rangeAt b 0 [.int .i64 t,.int .i64 n,k]/\w.there b 0 3
def At6.below{B b:Nat}{t n:Int}{k:Value}(h:At6 w b t n k)(hb:Below B w w')(hg:b<B):At6 w' b t n k:=⟨zdn h.1 hb hg,zG h.2 hb hg⟩
def At6.cells{b:Nat}{t n:Int}{k:Value}(h:At6 w b t n k):w.cell? ⟨b,0,none⟩=some (.int .i64 t)/\w.cell? ⟨b,1,none⟩=some (.int .i64 n)/\w.cell? ⟨b,2,none⟩=some k:=
 ⟨h.1 0 _ rfl,h.1 1 _ rfl,h.1 2 _ rfl⟩
def yw(w:World)(t n:Int)(k:Value):At6 (w.alloc (.cells #[.int .i64 t,.int .i64 n,k] 41)) w.heap.size t n k:=
 ⟨qI (cs:=[.int .i64 t,.int .i64 n,k]) (ye w _),xJ (cs:=[.int .i64 t,.int .i64 n,k]) (ye w _) rfl⟩
def fits(x:Int):Prop:=-9223372036854775808<=x/\x<=9223372036854775807
instance (x:Int):Decidable (fits x):=by unfold fits;infer_instance
def zjt(n:Int):IntKind.wrap .i64 n=wrap64 n:=by
 exact IntWalk.i64_left n
def zjm(v:BitVec 64):IntKind.wrap .i64 v.toNat=v.toInt:=by
 have:=v.isLt;rw[zjt,BitVec.toInt_eq_toNat_cond];unfold wrap64
 split<;>omega
def zg6{x:Int}(h:fits x):(BitVec.ofInt 64 x).msb=decide (x<0):=by
 rw[BitVec.msb_eq_toInt,BitVec.toInt_ofInt];obtain⟨h1,h2⟩:=h;have:x.bmod (2 ^ 64)=x:=by
  rw[Int.bmod_def];split<;>omega
 rw[this]
def vI(op:BinOp)(x y:Int):fits (bits op .i64 x y):=by
 unfold bits;simp only[];rw[zjt];unfold fits wrap64;omega
def yN(x y:Int)(hx:fits x)(hy:fits y):decide (bits .xor .i64 x y<0)=(decide (x<0) ^^ decide (y<0)):=by
 have:bits .xor .i64 x y=(BitVec.ofInt 64 x ^^^ BitVec.ofInt 64 y).toInt:=zjm _;rw[this,<- BitVec.msb_eq_toInt,BitVec.msb_xor,zg6 hx,zg6 hy]
def zhp(x y:Int)(hx:fits x)(hy:fits y):decide (bits .and .i64 x y<0)=(decide (x<0)&&decide (y<0)):=by
 have:bits .and .i64 x y=(BitVec.ofInt 64 x &&& BitVec.ofInt 64 y).toInt:=zjm _;rw[this,<- BitVec.msb_eq_toInt,BitVec.msb_and,zg6 hx,zg6 hy]
def jw(x:Int):fits (wrap64 x):=by unfold fits wrap64;omega
def xQ{x:Int}(h:fits x):wrap64 x=x:=by unfold fits at h;unfold wrap64;omega
def zd8(x:Int)(h:-18446744073709551616<=x/\x<18446744073709551616):fits (wrap64 x)/\(wrap64 x=x\/wrap64 x=x-18446744073709551616\/wrap64 x=x+18446744073709551616):=by unfold fits wrap64;omega
def zna(a b:Int)(ha:fits a)(hb:fits b):decide (bits .and .i64 (bits .xor .i64 a (wrap64 (a+b))) (bits .xor .i64 b (wrap64 (a+b)))<0)=!decide (fits (a+b)):=by
 rw[zhp _ _ (vI _ _ _) (vI _ _ _),yN _ _ ha (jw _),yN _ _ hb (jw _)];have h:=zd8 (a+b) (by unfold fits at *;omega);generalize wrap64 (a+b)=n at h;obtain⟨h5,h6⟩:=h;by_cases h1:a<0<;>by_cases h2:b<0<;>by_cases h3:n<0<;>by_cases h4:fits (a+b)<;>simp only[h1,h2,h3,h4,decide_true,decide_false,Bool.xor_self,Bool.xor_true,Bool.xor_false,Bool.and_self,Bool.and_true,Bool.and_false,Bool.not_true,Bool.not_false]<;>exfalso<;>unfold fits at *<;>omega
def zk3(a b:Int)(ha:fits a)(hb:fits b):decide (bits .and .i64 (bits .xor .i64 a b) (bits .xor .i64 a (wrap64 (a-b)))<0)=!decide (fits (a-b)):=by
 rw[zhp _ _ (vI _ _ _) (vI _ _ _),yN _ _ ha hb,yN _ _ ha (jw _)];have h:=zd8 (a-b) (by unfold fits at *;omega);generalize wrap64 (a-b)=n at h;obtain⟨h5,h6⟩:=h;by_cases h1:a<0<;>by_cases h2:b<0<;>by_cases h3:n<0<;>by_cases h4:fits (a-b)<;>simp only[h1,h2,h3,h4,decide_true,decide_false,Bool.xor_self,Bool.xor_true,Bool.xor_false,Bool.and_self,Bool.and_true,Bool.and_false,Bool.not_true,Bool.not_false]<;>exfalso<;>unfold fits at *<;>omega
def ze2{n a:Int}(hn:fits n)(h0:a≠0)(h1:a≠-1):fits (n.tdiv a):=by
 have h:=Int.natAbs_tdiv n a;rw[show n.natAbs.div a.natAbs=n.natAbs / a.natAbs from rfl]at h;by_cases ha:a=1
 ·subst ha;rw[Int.tdiv_one];exact hn
 ·have h2:2<=a.natAbs:=by omega
  have h3:n.natAbs / a.natAbs<=n.natAbs / 2:=Nat.div_le_div_left h2 (by omega)
  unfold fits at *
  omega
def zie(a b:Int)(ha:fits a)(hb:fits b)(h0:a≠0)(h1:¬(a=-1/\b=-9223372036854775808)):(wrap64 ((wrap64 (a*b)).tdiv a)=b) ↔ fits (a*b):=by
 constructor
 ·intro h;by_cases hm:a=-1
  ·subst hm
   unfold fits at *
   omega
  ·rw[xQ (ze2 (jw _) h0 hm)]at h;have e:=Int.mul_tdiv_add_tmod (wrap64 (a*b)) a;have r:=Int.natAbs_tmod (wrap64 (a*b)) a;have r2:=Nat.mod_lt (wrap64 (a*b)).natAbs (show 0<a.natAbs by omega);rw[h]at e;have f:=jw (a*b);have g:∃k:Int,wrap64 (a*b)=a*b-18446744073709551616*k:=⟨(a*b+9223372036854775808) / 18446744073709551616,by unfold wrap64;omega⟩;obtain⟨k,g⟩:=g
   generalize(wrap64 (a*b)).tmod a=m at *
   generalize wrap64 (a*b)=n at *
   generalize a*b=p at *
   unfold fits at *
   omega
 ·intro h;rw[xQ h,Int.mul_tdiv_cancel_left b h0,xQ hb]
def zeg(w:World)(cs:List Value)(T:TypeId)(o:Obj):((w.alloc (.cells cs.toArray T)).alloc o).rangeAt w.heap.size 0 cs:=
 qI (T:=T) (by rw[Below.heap_alloc _ _ _ (by simp)];exact ye w _)
def xD(w:World)(a b:Obj):Below w.heap.size w ((w.alloc a).alloc b):=(za w a).alloc (by simp) b
def numC(n:Int)(w:World):Calls prog 191 #[.int .i64 n] w fun e w'=>e=.returned (VV 1 n kB)/\Below w.heap.size w w':=by
 go_enter func191,ntmps191;go_wp2;refine vS (zU (cs:=[_,_,_]) results191 underlying41 rfl zEl _ _ w.heap.size rfl (qI (ye w _))) rfl ?_;exact⟨rfl,za _ _⟩
def b2i(b:Bool):Int:=if b then 1 else 0
def zez(b:Bool)(w:World):Calls prog 226 #[.bool b] w fun e w'=>e=.returned (VV 2 (b2i b) kB)/\Below w.heap.size w w':=by
 cases b
 ·go_enter func226,ntmps226;go_wp2;refine vS (zU (cs:=[_,_,_]) results226 underlying41 rfl zEl _ _ w.heap.size rfl (zeg w [_,_,_] 41 _)) rfl ?_;exact⟨rfl,xD _ _ _⟩
 ·go_enter func226,ntmps226;go_wp2;refine vS (zU (cs:=[_,_,_]) results226 underlying41 rfl zEl _ _ w.heap.size rfl (zeg w [_,_,_] 41 _)) rfl ?_;exact⟨rfl,xD _ _ _⟩
def zls(t n:Int)(k:Value)(w:World):Calls prog 291 #[VV t n k] w fun e w'=>e=.returned (.bool (n==1))/\Below w.heap.size w w':=by
 go_enter func291,ntmps291;go_wp2;go_ret;exact⟨rfl,za _ _⟩
structure Ans where
 t:Int
 n:Int
 e:Int
abbrev AV(r:Ans):Value:=.tuple #[VV r.t r.n kB,.int .i64 r.e]
def vJ(x:Int):Ans:=if fits x then⟨1,x,0⟩else⟨0,0,3⟩
def kI{x:Int}(h:fits x):vJ x=⟨1,x,0⟩:=if_pos h
def jk{x:Int}(h:¬fits x):vJ x=⟨0,0,3⟩:=if_neg h
def xE(w:World):(w.alloc zO).there w.heap.size 0 3:=(yw w 0 0 kB).2
def sumC(a b:Int)(w:World)(ha:fits a)(hb:fits b):Calls prog 304 #[.int .i64 a,.int .i64 b] w fun e w'=>e=.returned (AV (vJ (a+b)))/\Below w.heap.size w w':=by
 have hs:=zna a b ha hb;by_cases hf:fits (a+b)
 ·rw[kI hf];have hd:decide (bits .and .i64 (bits .xor .i64 a (wrap64 (a+b))) (bits .xor .i64 b (wrap64 (a+b)))<0)=false:=by rw[hs];simp[hf]
  have hw:=xQ hf;rw[hw]at hd;have h1:=hf.1;have h2:=hf.2;clear hs hw ha hb hf;go_enter func304,ntmps304
  (go_wp2_with fail);refine(numC _ _).mono ?_;rintro e w1 ⟨rfl,hb1⟩;have HT:=zG (xE w) hb1 (by simp)
  go_wp2_with(refine zi zEl rfl (.tmp 4) (.tmp 20) rfl rfl w.heap.size rfl [_,_,_] rfl rfl HT (by simp[Value.oneCell']) ?_;intro w2 g1 g2 g3 g4 g5)
  refine vS (zP (cs:=[_,_,_]) results304 underlying41 rfl zEl _ _ w.heap.size rfl g1) rfl ?_;exact⟨rfl,((za w zO).trans (hb1.mono (by simp))).trans g3⟩
 ·rw[jk hf];have hd:decide (bits .and .i64 (bits .xor .i64 a (wrap64 (a+b))) (bits .xor .i64 b (wrap64 (a+b)))<0)=true:=by rw[hs];simp[hf]
  clear hs ha hb hf;go_enter func304,ntmps304;go_wp2;refine vS (zP (cs:=[_,_,_]) results304 underlying41 rfl zEl _ _ w.heap.size rfl (qI (ye w _))) rfl ?_;exact⟨rfl,za _ _⟩
def zsk(a b:Int)(w:World)(ha:fits a)(hb:fits b):Calls prog 293 #[.int .i64 a,.int .i64 b] w fun e w'=>e=.returned (AV (vJ (a-b)))/\Below w.heap.size w w':=by
 have hs:=zk3 a b ha hb;by_cases hf:fits (a-b)
 ·rw[kI hf];have hd:decide (bits .and .i64 (bits .xor .i64 a b) (bits .xor .i64 a (wrap64 (a-b)))<0)=false:=by rw[hs];simp[hf]
  have hw:=xQ hf;rw[hw]at hd;have h1:=hf.1;have h2:=hf.2;clear hs hw ha hb hf;go_enter func293,ntmps293
  (go_wp2_with fail);refine(numC _ _).mono ?_;rintro e w1 ⟨rfl,hb1⟩;have HT:=zG (xE w) hb1 (by simp)
  go_wp2_with(refine zi zEl rfl (.tmp 4) (.tmp 20) rfl rfl w.heap.size rfl [_,_,_] rfl rfl HT (by simp[Value.oneCell']) ?_;intro w2 g1 g2 g3 g4 g5)
  refine vS (zP (cs:=[_,_,_]) results293 underlying41 rfl zEl _ _ w.heap.size rfl g1) rfl ?_;exact⟨rfl,((za w zO).trans (hb1.mono (by simp))).trans g3⟩
 ·rw[jk hf];have hd:decide (bits .and .i64 (bits .xor .i64 a b) (bits .xor .i64 a (wrap64 (a-b)))<0)=true:=by rw[hs];simp[hf]
  clear hs ha hb hf;go_enter func293,ntmps293;go_wp2;refine vS (zP (cs:=[_,_,_]) results293 underlying41 rfl zEl _ _ w.heap.size rfl (qI (ye w _))) rfl ?_;exact⟨rfl,za _ _⟩
def zvo(a b:Int)(w:World)(ha:fits a)(hb:fits b):Calls prog 306 #[.int .i64 a,.int .i64 b] w fun e w'=>e=.returned (AV (vJ (a*b)))/\Below w.heap.size w w':=by
 by_cases h0:a=0
 ·subst h0;rw[Int.zero_mul,kI (by unfold fits;omega)];clear ha hb;go_enter func306,ntmps306
  (go_wp2_with fail);refine(numC _ _).mono ?_;rintro e w1 ⟨rfl,hb1⟩;have HT:=zG (xE w) hb1 (by simp)
  go_wp2_with(refine zi zEl rfl (.tmp 4) (.tmp 9) rfl rfl w.heap.size rfl [_,_,_] rfl rfl HT (by simp[Value.oneCell']) ?_;intro w2 g1 g2 g3 g4 g5)
  refine vS (zP (cs:=[_,_,_]) results306 underlying41 rfl zEl _ _ w.heap.size rfl g1) rfl ?_;exact⟨rfl,((za w zO).trans (hb1.mono (by simp))).trans g3⟩
 ·by_cases hm:a=-1/\b=-9223372036854775808
  ·obtain⟨rfl,rfl⟩:=hm;rw[jk (by unfold fits;omega)];clear ha hb h0;go_enter func306,ntmps306;go_wp2;refine vS (zP (cs:=[_,_,_]) results306 underlying41 rfl zEl _ _ w.heap.size rfl (qI (ye w _))) rfl ?_;exact⟨rfl,za _ _⟩
  ·have hp:=zie a b ha hb h0 hm;have hz:(a==0)=false:=by simpa using h0
   have hmm:((a == -1)&&(b == -9223372036854775808))=false:=by
    rw[Bool.and_eq_false_iff];by_cases h:a=-1
    ·right;simp;intro hh;exact hm ⟨h,hh⟩
    ·left;simpa using h
   by_cases hf:fits (a*b)
   ·have hd:((wrap64 ((wrap64 (a*b)).tdiv a))!=b)=false:=by rw[hp.2 hf];simp
    rw[kI hf];have HW:=aQ (xQ hf);clear hp hm hf ha hb;cases h1:(a == -1)with
    | false=>
     clear hmm;go_enter func306,ntmps306
     (go_wp2_with fail);refine(numC _ _).mono ?_;rintro e w1 ⟨rfl,hb1⟩;rw[HW.out];have HT:=zG (xE w) hb1 (by simp)
     go_wp2_with(refine zi zEl rfl (.tmp 4) (.tmp 28) rfl rfl w.heap.size rfl [_,_,_] rfl rfl HT (by simp[Value.oneCell']) ?_;intro w2 g1 g2 g3 g4 g5)
     refine vS (zP (cs:=[_,_,_]) results306 underlying41 rfl zEl _ _ w.heap.size rfl g1) rfl ?_;exact⟨rfl,((za w zO).trans (hb1.mono (by simp))).trans g3⟩
    | true=>
     rw[h1]at hmm;simp only[Bool.true_and]at hmm;go_enter func306,ntmps306
     (go_wp2_with fail);refine(numC _ _).mono ?_;rintro e w1 ⟨rfl,hb1⟩;rw[HW.out];have HT:=zG (xE w) hb1 (by simp)
     go_wp2_with(refine zi zEl rfl (.tmp 4) (.tmp 28) rfl rfl w.heap.size rfl [_,_,_] rfl rfl HT (by simp[Value.oneCell']) ?_;intro w2 g1 g2 g3 g4 g5)
     refine vS (zP (cs:=[_,_,_]) results306 underlying41 rfl zEl _ _ w.heap.size rfl g1) rfl ?_;exact⟨rfl,((za w zO).trans (hb1.mono (by simp))).trans g3⟩
   ·have hd:((wrap64 ((wrap64 (a*b)).tdiv a))!=b)=true:=by
     rw[bne_iff_ne];exact fun h=>hf (hp.1 h)
    rw[jk hf];clear hp hm hf ha hb;cases h1:(a == -1)with
    | false=>
     clear hmm;go_enter func306,ntmps306;go_wp2;refine vS (zP (cs:=[_,_,_]) results306 underlying41 rfl zEl _ _ w.heap.size rfl (qI (ye w _))) rfl ?_;exact⟨rfl,za _ _⟩
    | true=>
     rw[h1]at hmm;simp only[Bool.true_and]at hmm;go_enter func306,ntmps306;go_wp2;refine vS (zP (cs:=[_,_,_]) results306 underlying41 rfl zEl _ _ w.heap.size rfl (qI (ye w _))) rfl ?_;exact⟨rfl,za _ _⟩
def zhf(fn:Nat)(f:Int->Int->Int):Prop:=
 Ent fn/\∀(a b:Int) (w:World),fits a->fits b->b≠0->¬(a=-9223372036854775808/\b=-1)->Calls prog fn #[.int .i64 a,.int .i64 b] w fun e w'=>e=.returned (.int .i64 (f a b))/\w=w'
def tdiv_fits'{a b:Int}(ha:fits a)(h0:b≠0)(hm:¬(a=-9223372036854775808/\b=-1)):fits (a.tdiv b):=by
 by_cases h:b=-1
 ·subst h;rw[Int.tdiv_neg,Int.tdiv_one]
  unfold fits at *
  omega
 ·exact ze2 ha h0 h
def quoC:zhf 308 Int.tdiv:=by
 refine⟨by intro args w;simp,fun a b w ha hb h0 hm=>?_⟩;have HW:=aQ (xQ (tdiv_fits' ha h0 hm));clear ha hb hm;go_enter func308,ntmps308;go_wp2;go_ret;exact⟨by first|rfl|(rw[HW.out];rfl),rfl⟩
def zee{a b:Int}(ha:fits a):fits (a.tmod b):=by
 have h:=Int.natAbs_tmod a b;have h1:=Nat.mod_le a.natAbs b.natAbs;rcases(show a<0\/0<=a by omega)with hn|hn
 ·have:a.tmod b<=0:=by
   have:=Int.tmod_nonneg b (show 0<=-a by omega);rw[Int.neg_tmod]at this;omega
  unfold fits at *
  omega
 ·have:=Int.tmod_nonneg b hn
  unfold fits at *
  omega
def remC:zhf 309 Int.tmod:=by
 refine⟨by intro args w;simp,fun a b w ha hb h0 hm=>?_⟩;have HW:=aQ (xQ (zee (b:=b) ha));clear ha hb hm;go_enter func309,ntmps309;go_wp2;go_ret;exact⟨by first|rfl|(rw[HW.out];rfl),rfl⟩
def x9(f:Int->Int->Int)(a b:Int):Ans:=if b=0 then⟨0,0,2⟩else if a=-9223372036854775808/\b=-1 then⟨0,0,3⟩else⟨1,f a b,0⟩
def yi(w:World)(c:Nat)(v:Value)(o:Obj)(h:w.cell? ⟨c,0,none⟩=some v):(w.alloc o).cell? ⟨c,0,none⟩=some v:=by
 have:=wW w _ h;rw[(za w o).cell (by exact this)];exact h
def divC(fn:Nat)(f:Int->Int->Int)(hf:zhf fn f)(a b:Int)(c:Nat)(w:World)(ha:fits a)(hb:fits b)(hc:w.cell? ⟨c,0,none⟩=some (.func (.func fn) #[] #[])):Calls prog 334 #[.int .i64 a,.int .i64 b,.pointer (some ⟨c,0,none⟩)] w fun e w'=>e=.returned (AV (x9 f a b))/\Below w.heap.size w w':=by
 have hc1:=yi w c _ zO hc;obtain⟨hent,HF⟩:=hf;have HF:=aQ HF;unfold Ent at hent;by_cases h0:b=0
 ·have e:x9 f a b=⟨0,0,2⟩:=if_pos h0;rw[e];subst h0;clear ha hb hc e;go_enter func334,ntmps334;go_wp2;refine vS (zP (cs:=[_,_,_]) results334 underlying41 rfl zEl _ _ w.heap.size rfl (qI (ye w _))) rfl ?_;exact⟨rfl,za _ _⟩
 ·have hz:(b==0)=false:=by simpa using h0
  by_cases hm:a=-9223372036854775808/\b=-1
  ·have e:x9 f a b=⟨0,0,3⟩:=by unfold x9;rw[if_neg h0,if_pos hm]
   rw[e];obtain⟨rfl,rfl⟩:=hm;clear ha hb hc e h0;go_enter func334,ntmps334;go_wp2;refine vS (zP (cs:=[_,_,_]) results334 underlying41 rfl zEl _ _ w.heap.size rfl (qI (ye w _))) rfl ?_;exact⟨rfl,za _ _⟩
  ·have e:x9 f a b=⟨1,f a b,0⟩:=by unfold x9;rw[if_neg h0,if_neg hm]
   rw[e];have K:=fun w=>HF.out a b w ha hb h0 hm;have K:=aQ K;have hmm:((a == -9223372036854775808)&&(b == -1))=false:=by
    rw[Bool.and_eq_false_iff];by_cases h:a=-9223372036854775808
    ·right;simp;intro hh;exact hm ⟨h,hh⟩
    ·left;simpa using h
   generalize f a b=q at *
   clear ha hb hc e hm HF;cases h1:(a == -9223372036854775808)with
   | false=>
    clear hmm;go_enter func334,ntmps334
    (go_wp2_with fail);refine(K.out _).mono ?_;rintro e w1 ⟨rfl,rfl⟩
    (go_wp2_with fail);refine(numC _ _).mono ?_;rintro e w1 ⟨rfl,hb1⟩;have HT:=zG (xE w) hb1 (by simp)
    go_wp2_with(refine zi zEl rfl (.tmp 5) (.tmp 23) rfl rfl w.heap.size rfl [_,_,_] rfl rfl HT (by simp[Value.oneCell']) ?_;intro w2 g1 g2 g3 g4 g5)
    refine vS (zP (cs:=[_,_,_]) results334 underlying41 rfl zEl _ _ w.heap.size rfl g1) rfl ?_;exact⟨rfl,((za w zO).trans (hb1.mono (by simp))).trans g3⟩
   | true=>
    rw[h1]at hmm;simp only[Bool.true_and]at hmm;go_enter func334,ntmps334
    (go_wp2_with fail);refine(K.out _).mono ?_;rintro e w1 ⟨rfl,rfl⟩
    (go_wp2_with fail);refine(numC _ _).mono ?_;rintro e w1 ⟨rfl,hb1⟩;have HT:=zG (xE w) hb1 (by simp)
    go_wp2_with(refine zi zEl rfl (.tmp 5) (.tmp 23) rfl rfl w.heap.size rfl [_,_,_] rfl rfl HT (by simp[Value.oneCell']) ?_;intro w2 g1 g2 g3 g4 g5)
    refine vS (zP (cs:=[_,_,_]) results334 underlying41 rfl zEl _ _ w.heap.size rfl g1) rfl ?_;exact⟨rfl,((za w zO).trans (hb1.mono (by simp))).trans g3⟩
def ord(a b:Int):Int:=if a<b then -1 else if b<a then 1 else 0
def cmpC(a b:Int)(w:World):Calls prog 336 #[.int .i64 a,.int .i64 b] w fun e w'=>e=.returned (.int .i64 (ord a b))/\w=w':=by
 by_cases h1:a<b
 ·rw[show ord a b=-1 from if_pos h1];go_enter func336,ntmps336;go_wp2
  all_goals go_ret
  all_goals exact⟨rfl,rfl⟩
 ·by_cases h2:b<a
  ·rw[show ord a b=1 by unfold ord;rw[if_neg h1,if_pos h2]];go_enter func336,ntmps336;go_wp2
   all_goals go_ret
   all_goals exact⟨rfl,rfl⟩
  ·rw[show ord a b=0 by unfold ord;rw[if_neg h1,if_neg h2]];go_enter func336,ntmps336;go_wp2
   all_goals go_ret
   all_goals exact⟨rfl,rfl⟩
def Kept(D:Nat->Prop)(w w':World):Prop:=∀k,D k->k<w.heap.size/\w'.heap[k]? =w.heap[k]?
def Kept.below(h:Kept D w w')(hb:Below w'.heap.size w' w''):Kept D w w'':=fun k hk=>by
 have h1:=h k hk;have h2:k<w'.heap.size:=by
  have:∃o,w.heap[k]? =some o:=⟨_,Array.getElem?_eq_getElem h1.1⟩;obtain⟨o,ho⟩:=this;rw[ho]at h1;exact(aU.1 h1.2).1
 exact⟨h1.1,by rw[hb.block k h2];exact h1.2⟩
def Kept.cell(h:Kept D w w')(hc:D c){v:Value}(hv:w.cell? ⟨c,0,none⟩=some v):w'.cell? ⟨c,0,none⟩=some v:=by
 rw[yp (a:=⟨c,0,none⟩) (h c hc).2];exact hv
def jZ(fn:Nat)(caps:Array Value)(h:Int->Bool)(D:Nat->Prop)(w0:World):Prop:=
 Ent fn/\∀(n:Int) (w:World),Kept D w0 w->Calls prog fn (#[.int .i64 n]++caps) w fun e w'=>e=.returned (.bool (h n))/\Below w.heap.size w w'
def zug(w0:World):jZ 311 #[] (fun n=>decide (n<0)) (fun _=>False) w0:=by
 refine⟨by intro args w;simp,fun n w _=>?_⟩;go_enter func311,ntmps311;go_wp2;go_ret;exact⟨rfl,Below.refl _ _⟩
def zsi(w0:World):jZ 312 #[] (fun n=>decide (n<=0)) (fun _=>False) w0:=by
 refine⟨by intro args w;simp,fun n w _=>?_⟩;go_enter func312,ntmps312;go_wp2;go_ret;exact⟨rfl,Below.refl _ _⟩
def zr6(w0:World):jZ 313 #[] (fun n=>decide (0<n)) (fun _=>False) w0:=by
 refine⟨by intro args w;simp,fun n w _=>?_⟩;go_enter func313,ntmps313;go_wp2;go_ret;exact⟨rfl,Below.refl _ _⟩
def zsp(w0:World):jZ 314 #[] (fun n=>decide (0<=n)) (fun _=>False) w0:=by
 refine⟨by intro args w;simp,fun n w _=>?_⟩;go_enter func314,ntmps314;go_wp2;go_ret;exact⟨rfl,Below.refl _ _⟩
def zd3(fn:Nat)(h:Bool->Bool):Prop:=Ent fn/\∀(b:Bool) (w:World),Calls prog fn #[.bool b] w fun e w'=>e=.returned (.bool (h b))/\w=w'
def zpn:zd3 316 (fun b=>b):=by
 refine⟨by intro args w;simp,fun n w=>?_⟩;go_enter func316,ntmps316;go_wp2;go_ret;exact⟨rfl,rfl⟩
def zqf:zd3 317 (fun b=>!b):=by
 refine⟨by intro args w;simp,fun n w=>?_⟩;go_enter func317,ntmps317;go_wp2;go_ret;exact⟨rfl,rfl⟩
def jW(h:Int->Bool)(a b:Int):Ans:=⟨2,b2i (h (ord a b)),0⟩
def At6.facts{b:Nat}{t n:Int}{k:Value}(h:At6 w b t n k):w.cell? ⟨b,0,none⟩=some (.int .i64 t)/\w.cell? ⟨b,1,none⟩=some (.int .i64 n)/\w.cell? ⟨b,2,none⟩=some k/\w.frozen? ⟨b,0,none⟩=false/\w.frozen? ⟨b,1,none⟩=false/\w.frozen? ⟨b,2,none⟩=false:=
 ⟨h.cells.1,h.cells.2.1,h.cells.2.2,by have:=(h.2 0 (by omega)).2;simpa using this,by have:=(h.2 1 (by omega)).2;simpa using this,by have:=(h.2 2 (by omega)).2;simpa using this⟩
def yZ{v:Value}(hb:Below B w w')(hc:c<B)(h:w.cell? ⟨c,0,none⟩=some v):w'.cell? ⟨c,0,none⟩=some v:=by rw[hb.cell (by exact hc)];exact h
def ordC(fn:Nat)(caps:Array Value)(h:Int->Bool)(w0:World)(D:Nat->Prop)(hf:jZ fn caps h D w0)(a b:Int)(c:Nat)(w:World)(hw:Kept D w0 w)(hc:w.cell? ⟨c,0,none⟩=some (.func (.func fn) #[] caps)):Calls prog 335 #[.int .i64 a,.int .i64 b,.pointer (some ⟨c,0,none⟩)] w fun e w'=>e=.returned (AV (jW h a b))/\Below w.heap.size w w':=by
 have hc1:=yi w c _ zO hc;obtain⟨hent,HF⟩:=hf;have HF:=aQ HF;unfold Ent at hent;have hlt:=wW w _ hc;clear hc;have hB:Kept D w0 ((w.alloc zO).drewN 1):=hw.below (zW (za w zO) 1);have HT:=aQ (yw w 0 0 kB);go_enter func335,ntmps335
 go_wp2_with fail
 go_region_held3(fun w'=>w'.cell? ⟨c,0,none⟩=some (.func (.func fn) #[] caps)) (first|assumption|exact yZ (qZ w.heap.size 0 [_,_,_] w2).1 hlt (yZ hb2 (by have:=hb1.size;simp at this;omega) (yZ hb1 (by simp;omega) hc1))|exact yZ hb2 (by have:=hb1.size;simp at this;omega) (yZ hb1 (by simp;omega) hc1)|exact yZ hb1 (by simp;omega) hc1|skip)
  (first|(go_at_call 336;refine(cmpC _ _ _).mono ?_;rintro e w' ⟨rfl,rfl⟩)|(refine(HF.out _ _ hB).mono ?_;rintro e w1 ⟨rfl,hb1⟩;replace hb1:Below (w.alloc zO).heap.size (w.alloc zO) w1:=(zW (Below.refl _ _) 1).trans hb1)|(go_at_call 226;refine(zez _ _).mono ?_;rintro e w2 ⟨rfl,hb2⟩;obtain⟨u0,u1,u2,v0,v1,v2⟩:=((HT.out.below hb1 (by simp)).below hb2 (by have:=hb1.size;simp at this;omega)).facts))
 have HT2:=(HT.out.below hb1 (by simp)).below hb2 (by have:=hb1.size;simp at this;omega);go_wp2;refine vS (zP (cs:=[_,_,_]) results335 underlying41 rfl zEl _ _ w.heap.size rfl (World.rangeAt_setCells_same w2 w.heap.size 0 [_,_,_] HT2.2)) rfl ?_;have s1:=hb1.size;simp only[aE]at s1;exact⟨rfl,(((za w zO).trans (hb1.mono (by simp))).trans (hb2.mono (by omega))).trans (qZ w.heap.size 0 [_,_,_] w2).1⟩
def zo3(fn:Nat)(h:Bool->Bool)(hf:zd3 fn h)(c:Nat)(w0:World)(hc:w0.cell? ⟨c,0,none⟩=some (.func (.func fn) #[] #[])):jZ 337 #[.pointer (some ⟨c,0,none⟩)] (fun n=>h (n==0)) (fun k=>k=c) w0:=by
 refine⟨by intro args w;simp,fun n w hw=>?_⟩;have hc1:=hw.cell rfl hc;obtain⟨hent,HF⟩:=hf;have HF:=aQ HF;unfold Ent at hent;go_enter func337,ntmps337
 go_wp2_with fail
 refine(HF.out _ _).mono ?_;rintro e w1 ⟨rfl,rfl⟩;go_wp2;go_ret;exact⟨rfl,Below.refl _ _⟩
def zks(fn:Nat)(caps:Array Value)(f:Bool->Bool->Bool)(D:Nat->Prop)(w0:World):Prop:=
 Ent fn/\∀(a b:Bool) (w:World),Kept D w0 w->Calls prog fn (#[.bool a,.bool b]++caps) w fun e w'=>e=.returned (.bool (f a b))/\Below w.heap.size w w'
def zpl(fn:Nat)(h:Bool->Bool)(hf:zd3 fn h)(c:Nat)(w0:World)(hc:w0.cell? ⟨c,0,none⟩=some (.func (.func fn) #[] #[])):zks 338 #[.pointer (some ⟨c,0,none⟩)] (fun a b=>h (a==b)) (fun k=>k=c) w0:=by
 refine⟨by intro args w;simp,fun a b w hw=>?_⟩;have hc1:=hw.cell rfl hc;obtain⟨hent,HF⟩:=hf;have HF:=aQ HF;unfold Ent at hent;go_enter func338,ntmps338
 go_wp2_with fail
 refine(HF.out _ _).mono ?_;rintro e w1 ⟨rfl,rfl⟩;go_wp2;go_ret;exact⟨rfl,Below.refl _ _⟩
end
end
end Go.Proofs.YtcilgkdnjgmogaaGreatDoor
