/- A part of the proof. -/
import Derived.WalkKit
import Derived.WalkSpells
import Derived.WalkLawsBesides
import Derived.Lib.Hide
import Derived.Outline
import Derived.Laws.BytesArg
import Derived.Laws.AppendOwnNone
import Derived.Deep.MidRow
import Derived.Deep.RegionHeld3
import Derived.Deep.QuietTactic
import Derived.BigQuiet
import Derived.IntWalk
import Derived.Test.YtcilgkdnjgmogaaGreatDoorXS
import Derived.Test.YtcilgkdnjgmogaaGreatDoorXO
import Derived.Deep.LoopGhost
namespace Go.Proofs.YtcilgkdnjgmogaaGreatDoor
set_option maxRecDepth 100000
set_option maxHeartbeats 12800000
set_option linter.all false
variable {A A0:Option Addr} {B R c cp g k m n n0:Nat} {D M:Nat->Prop} {c0 c1 c2 k0 q u:Value} {n1 t0:Int} {s:List Nat} {w w' w'':World}
section
section
open Go.RowKit
theorem qZ (g o:Nat):∀ (cs:List Value) (w:World),Below g w (w.setCells g o cs)/\(∀ k,k≠g->(w.setCells g o cs).heap[k]? =w.heap[k]?)/\(w.setCells g o cs).heap.size =w.heap.size:=by
 intro cs
 induction cs generalizing o with
 | nil=>exact fun w=>⟨Below.refl _ _,fun _ _=>rfl,rfl⟩
 | cons c cs ih=>
  intro w;have h:=ih (o+1) (w.setCell ⟨g,o,none⟩ c);refine ⟨((Below.refl g w).setCell (p:=⟨g,o,none⟩) (zzA0 _) c).trans h.1,fun k hk=>?_,h.2.2.trans (by simp [World.setCell])⟩;have h2:=h.2.1 k hk;rw [Below.heap_setCell _ _ _ _ hk] at h2;exact h2
theorem zi {ops:Array Oper} {rest:List Oper} {o:Oper} {a:Act} {Q:Exit->Act->World->Prop} {T n:Nat} (hi:(Tryz.prog.info? T).map (·.size) =some n) (hgd:o.guard =none) (x y:Operand) (ho:o.op =.store T x y) (hd:o.dst =none)
  (g:Nat) (hx:a.eval x =.pointer (some ⟨g,0,none⟩)) (cs:List Value) (hl:cs.length =n) (hy:a.eval y =.agg cs.toArray) (ht:w.there g 0 n) (h1:∀ u∈cs,u.oneCell' =true)
  (h:∀ w',w'.rangeAt g 0 cs->w'.there g 0 n->Below g w w'->(∀ k,k≠g->w'.heap[k]? =w.heap[k]?)->w'.heap.size =w.heap.size->wpList Tryz.prog ops Q rest a w'):wpList Tryz.prog ops Q (o::rest) a w:=by
 subst hl;refine wpList_store_mid hgd T x y ho g 0 cs.toArray hx hy (by simpa using ht) (by simpa using hi) (by simpa using h1) ?_;have hb:=qZ g 0 cs w;have:=h (w.setCells g 0 cs) (World.rangeAt_setCells_same w g 0 _ (by simpa using ht)) (World.there_setCells ht _ _ _) hb.1 hb.2.1 hb.2.2;rw [hd];exact this
theorem zU {fn:Func} {s T:Nat} {d:TypeDesc} {cs:List Value} (h:fn.results =#[.cell s T]) (hu:Tryz.prog.underlying T =some d) (hd:d.isRow =true) (hi:(Tryz.prog.info? T).map (·.size) =some cs.length) (tmps:Array Value) (w:World) (g:Nat) (hp:tmps.getD s undef =.pointer (some ⟨g,0,none⟩)) (hr:w.rangeAt g 0 cs) :
  (results fn tmps).run Tryz.prog w =.ok (.agg cs.toArray) w:=by
 have hp':tmps[s]?.getD undef =.pointer (some ⟨g,0,none⟩):=by simpa using hp
 have h1:=run_loadVar_mid (P:=Tryz.prog) w g 0 T cs _ hr hu hd hi;simp [results,h,hp',asAddr,h1]
theorem zP {fn:Func} {s T u:Nat} {d:TypeDesc} {cs:List Value} (h:fn.results =#[.cell s T,.tmp u]) (hu:Tryz.prog.underlying T =some d) (hd:d.isRow =true) (hi:(Tryz.prog.info? T).map (·.size) =some cs.length) (tmps:Array Value) (w:World) (g:Nat) (hp:tmps.getD s undef =.pointer (some ⟨g,0,none⟩)) (hr:w.rangeAt g 0 cs) :
  (results fn tmps).run Tryz.prog w =.ok (.tuple #[.agg cs.toArray,tmps.getD u undef]) w:=by
 have hp':tmps[s]?.getD undef =.pointer (some ⟨g,0,none⟩):=by simpa using hp
 have h1:=run_loadVar_mid (P:=Tryz.prog) w g 0 T cs _ hr hu hd hi;simp [results,h,hp',asAddr,h1]
theorem qI {cs:List Value} {T:TypeId} (h:w.heap[g]? =some (.cells cs.toArray T (0,0))):w.rangeAt g 0 cs:=by
 intro j v hv;rw [cell_of_row _ _ _ _ _ _ h];simpa using hv
theorem xJ {cs:List Value} {T:TypeId} (h:w.heap[g]? =some (.cells cs.toArray T (0,0))) (hn:cs.length =n):w.there g 0 n:=by
 intro j hj;constructor
 ·rw [cell_of_row _ _ _ _ _ _ h]
  simp;omega
 ·simp [World.frozen?,h]
theorem zdn {cs:List Value} (h:w.rangeAt g 0 cs) (hb:Below B w w') (hg:g < B):w'.rangeAt g 0 cs:=by
 intro j v hv;rw [hb.cell (by exact hg)];exact h j v hv
theorem zG (h:w.there g 0 n) (hb:Below B w w') (hg:g < B):w'.there g 0 n:=by
 intro j hj;have e:=hb.block g hg;refine ⟨?_,?_⟩
 ·rw [hb.cell (by exact hg)];exact (h j hj).1
 ·have:=(h j hj).2
  unfold World.frozen? at this ⊢;rw [e];exact this
theorem zu:(Tryz.prog.info? 41).map (·.size) =some 3:=by kernel_rfl
theorem zH:(Tryz.prog.info? 319).map (·.size) =some 3:=by kernel_rfl
theorem zjf:(Tryz.prog.info? 5).map (fun i=>(i.zero,i.size,i.bytes)) =some (some (.int .u8 0),1,1):=by kernel_rfl
theorem info_parts {P:Program} {t:TypeId} {a:Option Value×Nat×Nat} (h:(P.info? t).map (fun i=>(i.zero,i.size,i.bytes)) =some a):∃ i,P.info? t =some i/\i.zero =a.1/\i.size =a.2.1/\i.bytes =a.2.2:=by
 cases hi:P.info? t with
 | none=>rw [hi] at h;cases h
 | some i=>
  rw [hi] at h;injection h with h
  subst h;exact ⟨i,rfl,rfl,rfl,rfl⟩
abbrev VV (t n:Int) (k:Value):Value:=.agg #[.int .i64 t,.int .i64 n,k]
abbrev kB:Value:=.slice none 0 0
abbrev zO:Obj:=.cells #[.int .i64 0,.int .i64 0,kB] 41
def At6 (w:World) (b:Nat) (t n:Int) (k:Value):Prop:=w.rangeAt b 0 [.int .i64 t,.int .i64 n,k]/\w.there b 0 3
theorem At6.below {B b:Nat} {t n:Int} {k:Value} (h:At6 w b t n k) (hb:Below B w w') (hg:b < B):At6 w' b t n k:=⟨zdn h.1 hb hg,zG h.2 hb hg⟩
theorem At6.cells {b:Nat} {t n:Int} {k:Value} (h:At6 w b t n k):w.cell? ⟨b,0,none⟩ =some (.int .i64 t)/\w.cell? ⟨b,1,none⟩ =some (.int .i64 n)/\w.cell? ⟨b,2,none⟩ =some k:=
 ⟨h.1 0 _ rfl,h.1 1 _ rfl,h.1 2 _ rfl⟩
theorem yw (w:World) (t n:Int) (k:Value):At6 (w.alloc (.cells #[.int .i64 t,.int .i64 n,k] 41)) w.heap.size t n k:=
 ⟨qI (cs:=[.int .i64 t,.int .i64 n,k]) (heap_alloc_new w _),xJ (cs:=[.int .i64 t,.int .i64 n,k]) (heap_alloc_new w _) rfl⟩
end
section
open Go.RowKit
def fits (x:Int):Prop:=-9223372036854775808<=x/\x<=9223372036854775807
instance (x:Int):Decidable (fits x):=by unfold fits;infer_instance
theorem zjt (n:Int):IntKind.wrap .i64 n =wrap64 n:=by
 exact IntWalk.i64_left n
theorem zjm (v:BitVec 64):IntKind.wrap .i64 v.toNat =v.toInt:=by
 have:=v.isLt;rw [zjt,BitVec.toInt_eq_toNat_cond];unfold wrap64
 split <;> omega
theorem zg6 {x:Int} (h:fits x):(BitVec.ofInt 64 x).msb =decide (x < 0):=by
 rw [BitVec.msb_eq_toInt,BitVec.toInt_ofInt];obtain ⟨h1,h2⟩:=h;have:x.bmod (2 ^ 64) =x:=by
  rw [Int.bmod_def];split <;> omega
 rw [this]
theorem vI (op:BinOp) (x y:Int):fits (bits op .i64 x y):=by
 unfold bits;simp only [];rw [zjt];unfold fits wrap64;omega
theorem yN (x y:Int) (hx:fits x) (hy:fits y):decide (bits .xor .i64 x y < 0) =(decide (x < 0) ^^ decide (y < 0)):=by
 have:bits .xor .i64 x y =(BitVec.ofInt 64 x ^^^ BitVec.ofInt 64 y).toInt:=zjm _;rw [this,<- BitVec.msb_eq_toInt,BitVec.msb_xor,zg6 hx,zg6 hy]
theorem zhp (x y:Int) (hx:fits x) (hy:fits y):decide (bits .and .i64 x y < 0) =(decide (x < 0) && decide (y < 0)):=by
 have:bits .and .i64 x y =(BitVec.ofInt 64 x &&& BitVec.ofInt 64 y).toInt:=zjm _;rw [this,<- BitVec.msb_eq_toInt,BitVec.msb_and,zg6 hx,zg6 hy]
theorem jw (x:Int):fits (wrap64 x):=by unfold fits wrap64;omega
theorem xQ {x:Int} (h:fits x):wrap64 x =x:=by unfold fits at h;unfold wrap64;omega
theorem zd8 (x:Int) (h:-18446744073709551616<=x/\x < 18446744073709551616):fits (wrap64 x)/\(wrap64 x =x\/wrap64 x =x-18446744073709551616\/wrap64 x =x+18446744073709551616):=by unfold fits wrap64;omega
theorem zna (a b:Int) (ha:fits a) (hb:fits b):decide (bits .and .i64 (bits .xor .i64 a (wrap64 (a+b))) (bits .xor .i64 b (wrap64 (a+b))) < 0) = !decide (fits (a+b)):=by
 rw [zhp _ _ (vI _ _ _) (vI _ _ _),yN _ _ ha (jw _),yN _ _ hb (jw _)];have h:=zd8 (a+b) (by unfold fits at *;omega);generalize wrap64 (a+b) =n at h;obtain ⟨h5,h6⟩:=h;by_cases h1:a < 0 <;> by_cases h2:b < 0 <;> by_cases h3:n < 0 <;> by_cases h4:fits (a+b) <;> simp only [h1,h2,h3,h4,decide_true,decide_false,Bool.xor_self,Bool.xor_true,Bool.xor_false,Bool.and_self,Bool.and_true,Bool.and_false,Bool.not_true,Bool.not_false] <;> exfalso <;> unfold fits at * <;> omega
theorem zk3 (a b:Int) (ha:fits a) (hb:fits b):decide (bits .and .i64 (bits .xor .i64 a b) (bits .xor .i64 a (wrap64 (a-b))) < 0) = !decide (fits (a-b)):=by
 rw [zhp _ _ (vI _ _ _) (vI _ _ _),yN _ _ ha hb,yN _ _ ha (jw _)];have h:=zd8 (a-b) (by unfold fits at *;omega);generalize wrap64 (a-b) =n at h;obtain ⟨h5,h6⟩:=h;by_cases h1:a < 0 <;> by_cases h2:b < 0 <;> by_cases h3:n < 0 <;> by_cases h4:fits (a-b) <;> simp only [h1,h2,h3,h4,decide_true,decide_false,Bool.xor_self,Bool.xor_true,Bool.xor_false,Bool.and_self,Bool.and_true,Bool.and_false,Bool.not_true,Bool.not_false] <;> exfalso <;> unfold fits at * <;> omega
theorem ze2 {n a:Int} (hn:fits n) (h0:a≠0) (h1:a≠-1):fits (n.tdiv a):=by
 have h:=Int.natAbs_tdiv n a;rw [show n.natAbs.div a.natAbs =n.natAbs / a.natAbs from rfl] at h;by_cases ha:a =1
 ·subst ha;rw [Int.tdiv_one];exact hn
 ·have h2:2<=a.natAbs:=by omega
  have h3:n.natAbs / a.natAbs<=n.natAbs / 2:=Nat.div_le_div_left h2 (by omega)
  unfold fits at *
  omega
theorem zie (a b:Int) (ha:fits a) (hb:fits b) (h0:a≠0) (h1:¬(a = -1/\b = -9223372036854775808)):(wrap64 ((wrap64 (a*b)).tdiv a) =b) ↔ fits (a*b):=by
 constructor
 ·intro h
  by_cases hm:a = -1
  ·subst hm
   unfold fits at *
   omega
  ·rw [xQ (ze2 (jw _) h0 hm)] at h
   have e:=Int.mul_tdiv_add_tmod (wrap64 (a*b)) a;have r:=Int.natAbs_tmod (wrap64 (a*b)) a;have r2:=Nat.mod_lt (wrap64 (a*b)).natAbs (show 0 < a.natAbs by omega);rw [h] at e;have f:=jw (a*b);have g:∃ k:Int,wrap64 (a*b) =a*b-18446744073709551616*k:=⟨(a*b+9223372036854775808) / 18446744073709551616,by unfold wrap64;omega⟩;obtain ⟨k,g⟩:=g
   generalize (wrap64 (a*b)).tmod a =m at *
   generalize wrap64 (a*b) =n at *
   generalize a*b =p at *
   unfold fits at *
   omega
 ·intro h
  rw [xQ h,Int.mul_tdiv_cancel_left b h0,xQ hb]
end
section
open Go.RowKit
theorem zeg (w:World) (cs:List Value) (T:TypeId) (o:Obj):((w.alloc (.cells cs.toArray T)).alloc o).rangeAt w.heap.size 0 cs:=
 qI (T:=T) (by rw [Below.heap_alloc _ _ _ (by simp)];exact heap_alloc_new w _)
theorem xD (w:World) (a b:Obj):Below w.heap.size w ((w.alloc a).alloc b):=(za w a).alloc (by simp) b
theorem numC (n:Int) (w:World):Calls Tryz.prog 191 #[.int .i64 n] w fun e w'=>e =.returned (VV 1 n kB)/\Below w.heap.size w w':=by
 go_enter Tryz.func191,Tryz.ntmps191
 go_wp2
 refine bodyPost_ret (zU (cs:=[_,_,_]) Tryz.results191 Tryz.underlying41 rfl zu _ _ w.heap.size rfl (qI (heap_alloc_new w _))) rfl ?_;exact ⟨rfl,za _ _⟩
def b2i (b:Bool):Int:=if b then 1 else 0
theorem zez (b:Bool) (w:World):Calls Tryz.prog 226 #[.bool b] w fun e w'=>e =.returned (VV 2 (b2i b) kB)/\Below w.heap.size w w':=by
 cases b
 ·go_enter Tryz.func226,Tryz.ntmps226
  go_wp2
  refine bodyPost_ret (zU (cs:=[_,_,_]) Tryz.results226 Tryz.underlying41 rfl zu _ _ w.heap.size rfl (zeg w [_,_,_] 41 _)) rfl ?_;exact ⟨rfl,xD _ _ _⟩
 ·go_enter Tryz.func226,Tryz.ntmps226
  go_wp2
  refine bodyPost_ret (zU (cs:=[_,_,_]) Tryz.results226 Tryz.underlying41 rfl zu _ _ w.heap.size rfl (zeg w [_,_,_] 41 _)) rfl ?_;exact ⟨rfl,xD _ _ _⟩
theorem zls (t n:Int) (k:Value) (w:World):Calls Tryz.prog 291 #[VV t n k] w fun e w'=>e =.returned (.bool (n == 1))/\Below w.heap.size w w':=by
 go_enter Tryz.func291,Tryz.ntmps291
 go_wp2
 go_ret;exact ⟨rfl,za _ _⟩
structure Ans where
 t:Int
 n:Int
 e:Int
abbrev AV (r:Ans):Value:=.tuple #[VV r.t r.n kB,.int .i64 r.e]
def vJ (x:Int):Ans:=if fits x then ⟨1,x,0⟩ else ⟨0,0,3⟩
theorem kI {x:Int} (h:fits x):vJ x =⟨1,x,0⟩:=if_pos h
theorem jk {x:Int} (h:¬fits x):vJ x =⟨0,0,3⟩:=if_neg h
theorem xE (w:World):(w.alloc zO).there w.heap.size 0 3:=(yw w 0 0 kB).2
theorem sumC (a b:Int) (w:World) (ha:fits a) (hb:fits b):Calls Tryz.prog 304 #[.int .i64 a,.int .i64 b] w fun e w'=>e =.returned (AV (vJ (a+b)))/\Below w.heap.size w w':=by
 have hs:=zna a b ha hb;by_cases hf:fits (a+b)
 ·rw [kI hf]
  have hd:decide (bits .and .i64 (bits .xor .i64 a (wrap64 (a+b))) (bits .xor .i64 b (wrap64 (a+b))) < 0) =false:=by rw [hs];simp [hf]
  have hw:=xQ hf;rw [hw] at hd;have h1:=hf.1;have h2:=hf.2;clear hs hw ha hb hf;go_enter Tryz.func304,Tryz.ntmps304
  go_wp2_with fail
  refine (numC _ _).mono ?_;rintro e w1 ⟨rfl,hb1⟩;have HT:=zG (xE w) hb1 (by simp)
  go_wp2_with (refine zi zu rfl (.tmp 4) (.tmp 20) rfl rfl w.heap.size rfl [_,_,_] rfl rfl HT (by simp [Value.oneCell']) ?_;intro w2 g1 g2 g3 g4 g5)
  refine bodyPost_ret (zP (cs:=[_,_,_]) Tryz.results304 Tryz.underlying41 rfl zu _ _ w.heap.size rfl g1) rfl ?_;exact ⟨rfl,((za w zO).trans (hb1.mono (by simp))).trans g3⟩
 ·rw [jk hf]
  have hd:decide (bits .and .i64 (bits .xor .i64 a (wrap64 (a+b))) (bits .xor .i64 b (wrap64 (a+b))) < 0) =true:=by rw [hs];simp [hf]
  clear hs ha hb hf;go_enter Tryz.func304,Tryz.ntmps304
  go_wp2
  refine bodyPost_ret (zP (cs:=[_,_,_]) Tryz.results304 Tryz.underlying41 rfl zu _ _ w.heap.size rfl (qI (heap_alloc_new w _))) rfl ?_;exact ⟨rfl,za _ _⟩
theorem zsk (a b:Int) (w:World) (ha:fits a) (hb:fits b):Calls Tryz.prog 293 #[.int .i64 a,.int .i64 b] w fun e w'=>e =.returned (AV (vJ (a-b)))/\Below w.heap.size w w':=by
 have hs:=zk3 a b ha hb;by_cases hf:fits (a-b)
 ·rw [kI hf]
  have hd:decide (bits .and .i64 (bits .xor .i64 a b) (bits .xor .i64 a (wrap64 (a-b))) < 0) =false:=by rw [hs];simp [hf]
  have hw:=xQ hf;rw [hw] at hd;have h1:=hf.1;have h2:=hf.2;clear hs hw ha hb hf;go_enter Tryz.func293,Tryz.ntmps293
  go_wp2_with fail
  refine (numC _ _).mono ?_;rintro e w1 ⟨rfl,hb1⟩;have HT:=zG (xE w) hb1 (by simp)
  go_wp2_with (refine zi zu rfl (.tmp 4) (.tmp 20) rfl rfl w.heap.size rfl [_,_,_] rfl rfl HT (by simp [Value.oneCell']) ?_;intro w2 g1 g2 g3 g4 g5)
  refine bodyPost_ret (zP (cs:=[_,_,_]) Tryz.results293 Tryz.underlying41 rfl zu _ _ w.heap.size rfl g1) rfl ?_;exact ⟨rfl,((za w zO).trans (hb1.mono (by simp))).trans g3⟩
 ·rw [jk hf]
  have hd:decide (bits .and .i64 (bits .xor .i64 a b) (bits .xor .i64 a (wrap64 (a-b))) < 0) =true:=by rw [hs];simp [hf]
  clear hs ha hb hf;go_enter Tryz.func293,Tryz.ntmps293
  go_wp2
  refine bodyPost_ret (zP (cs:=[_,_,_]) Tryz.results293 Tryz.underlying41 rfl zu _ _ w.heap.size rfl (qI (heap_alloc_new w _))) rfl ?_;exact ⟨rfl,za _ _⟩
theorem zvo (a b:Int) (w:World) (ha:fits a) (hb:fits b):Calls Tryz.prog 306 #[.int .i64 a,.int .i64 b] w fun e w'=>e =.returned (AV (vJ (a*b)))/\Below w.heap.size w w':=by
 by_cases h0:a =0
 ·subst h0
  rw [Int.zero_mul,kI (by unfold fits;omega)];clear ha hb;go_enter Tryz.func306,Tryz.ntmps306
  go_wp2_with fail
  refine (numC _ _).mono ?_;rintro e w1 ⟨rfl,hb1⟩;have HT:=zG (xE w) hb1 (by simp)
  go_wp2_with (refine zi zu rfl (.tmp 4) (.tmp 9) rfl rfl w.heap.size rfl [_,_,_] rfl rfl HT (by simp [Value.oneCell']) ?_;intro w2 g1 g2 g3 g4 g5)
  refine bodyPost_ret (zP (cs:=[_,_,_]) Tryz.results306 Tryz.underlying41 rfl zu _ _ w.heap.size rfl g1) rfl ?_;exact ⟨rfl,((za w zO).trans (hb1.mono (by simp))).trans g3⟩
 ·by_cases hm:a = -1/\b = -9223372036854775808
  ·obtain ⟨rfl,rfl⟩:=hm
   rw [jk (by unfold fits;omega)];clear ha hb h0;go_enter Tryz.func306,Tryz.ntmps306
   go_wp2
   refine bodyPost_ret (zP (cs:=[_,_,_]) Tryz.results306 Tryz.underlying41 rfl zu _ _ w.heap.size rfl (qI (heap_alloc_new w _))) rfl ?_;exact ⟨rfl,za _ _⟩
  ·have hp:=zie a b ha hb h0 hm
   have hz:(a == 0) =false:=by simpa using h0
   have hmm:((a == -1) && (b == -9223372036854775808)) =false:=by
    rw [Bool.and_eq_false_iff];by_cases h:a = -1
    ·right;simp;intro hh;exact hm ⟨h,hh⟩
    ·left;simpa using h
   by_cases hf:fits (a*b)
   ·have hd:((wrap64 ((wrap64 (a*b)).tdiv a)) != b) =false:=by rw [hp.2 hf];simp
    rw [kI hf];have HW:=zz9 (xQ hf);clear hp hm hf ha hb;cases h1:(a == -1) with
    | false=>
     clear hmm;go_enter Tryz.func306,Tryz.ntmps306
     go_wp2_with fail
     refine (numC _ _).mono ?_;rintro e w1 ⟨rfl,hb1⟩;rw [HW.out];have HT:=zG (xE w) hb1 (by simp)
     go_wp2_with (refine zi zu rfl (.tmp 4) (.tmp 28) rfl rfl w.heap.size rfl [_,_,_] rfl rfl HT (by simp [Value.oneCell']) ?_;intro w2 g1 g2 g3 g4 g5)
     refine bodyPost_ret (zP (cs:=[_,_,_]) Tryz.results306 Tryz.underlying41 rfl zu _ _ w.heap.size rfl g1) rfl ?_;exact ⟨rfl,((za w zO).trans (hb1.mono (by simp))).trans g3⟩
    | true=>
     rw [h1] at hmm;simp only [Bool.true_and] at hmm;go_enter Tryz.func306,Tryz.ntmps306
     go_wp2_with fail
     refine (numC _ _).mono ?_;rintro e w1 ⟨rfl,hb1⟩;rw [HW.out];have HT:=zG (xE w) hb1 (by simp)
     go_wp2_with (refine zi zu rfl (.tmp 4) (.tmp 28) rfl rfl w.heap.size rfl [_,_,_] rfl rfl HT (by simp [Value.oneCell']) ?_;intro w2 g1 g2 g3 g4 g5)
     refine bodyPost_ret (zP (cs:=[_,_,_]) Tryz.results306 Tryz.underlying41 rfl zu _ _ w.heap.size rfl g1) rfl ?_;exact ⟨rfl,((za w zO).trans (hb1.mono (by simp))).trans g3⟩
   ·have hd:((wrap64 ((wrap64 (a*b)).tdiv a)) != b) =true:=by
     rw [bne_iff_ne];exact fun h=>hf (hp.1 h)
    rw [jk hf];clear hp hm hf ha hb;cases h1:(a == -1) with
    | false=>
     clear hmm;go_enter Tryz.func306,Tryz.ntmps306
     go_wp2
     refine bodyPost_ret (zP (cs:=[_,_,_]) Tryz.results306 Tryz.underlying41 rfl zu _ _ w.heap.size rfl (qI (heap_alloc_new w _))) rfl ?_;exact ⟨rfl,za _ _⟩
    | true=>
     rw [h1] at hmm;simp only [Bool.true_and] at hmm;go_enter Tryz.func306,Tryz.ntmps306
     go_wp2
     refine bodyPost_ret (zP (cs:=[_,_,_]) Tryz.results306 Tryz.underlying41 rfl zu _ _ w.heap.size rfl (qI (heap_alloc_new w _))) rfl ?_;exact ⟨rfl,za _ _⟩
end
section
open Go.RowKit
def zhf (fn:Nat) (f:Int->Int->Int):Prop:=
 Ent fn/\∀ (a b:Int) (w:World),fits a->fits b->b≠0->¬(a = -9223372036854775808/\b = -1)->Calls Tryz.prog fn #[.int .i64 a,.int .i64 b] w fun e w'=>e =.returned (.int .i64 (f a b))/\w =w'
theorem tdiv_fits' {a b:Int} (ha:fits a) (h0:b≠0) (hm:¬(a = -9223372036854775808/\b = -1)):fits (a.tdiv b):=by
 by_cases h:b = -1
 ·subst h
  rw [Int.tdiv_neg,Int.tdiv_one]
  unfold fits at *
  omega
 ·exact ze2 ha h0 h
theorem quoC:zhf 308 Int.tdiv:=by
 refine ⟨by intro args w;simp,fun a b w ha hb h0 hm=>?_⟩;have HW:=zz9 (xQ (tdiv_fits' ha h0 hm));clear ha hb hm;go_enter Tryz.func308,Tryz.ntmps308
 go_wp2
 go_ret;exact ⟨by first|rfl|(rw [HW.out];rfl),rfl⟩
theorem zee {a b:Int} (ha:fits a):fits (a.tmod b):=by
 have h:=Int.natAbs_tmod a b;have h1:=Nat.mod_le a.natAbs b.natAbs;rcases (show a < 0\/0<=a by omega) with hn|hn
 ·have:a.tmod b<=0:=by
   have:=Int.tmod_nonneg b (show 0<=-a by omega);rw [Int.neg_tmod] at this;omega
  unfold fits at *
  omega
 ·have:=Int.tmod_nonneg b hn
  unfold fits at *
  omega
theorem remC:zhf 309 Int.tmod:=by
 refine ⟨by intro args w;simp,fun a b w ha hb h0 hm=>?_⟩;have HW:=zz9 (xQ (zee (b:=b) ha));clear ha hb hm;go_enter Tryz.func309,Tryz.ntmps309
 go_wp2
 go_ret;exact ⟨by first|rfl|(rw [HW.out];rfl),rfl⟩
def x9 (f:Int->Int->Int) (a b:Int):Ans:=if b =0 then ⟨0,0,2⟩ else if a = -9223372036854775808/\b = -1 then ⟨0,0,3⟩ else ⟨1,f a b,0⟩
theorem yi (w:World) (c:Nat) (v:Value) (o:Obj) (h:w.cell? ⟨c,0,none⟩ =some v):(w.alloc o).cell? ⟨c,0,none⟩ =some v:=by
 have:=World.block_lt_of_cell? w _ h;rw [(za w o).cell (by exact this)];exact h
theorem divC (fn:Nat) (f:Int->Int->Int) (hf:zhf fn f) (a b:Int) (c:Nat) (w:World) (ha:fits a) (hb:fits b) (hc:w.cell? ⟨c,0,none⟩ =some (.func (.func fn) #[] #[])) :
  Calls Tryz.prog 334 #[.int .i64 a,.int .i64 b,.pointer (some ⟨c,0,none⟩)] w fun e w'=>e =.returned (AV (x9 f a b))/\Below w.heap.size w w':=by
 have hc1:=yi w c _ zO hc;obtain ⟨hent,HF⟩:=hf;have HF:=zz9 HF;unfold Ent at hent;by_cases h0:b =0
 ·have e:x9 f a b =⟨0,0,2⟩:=if_pos h0
  rw [e];subst h0;clear ha hb hc e;go_enter Tryz.func334,Tryz.ntmps334
  go_wp2
  refine bodyPost_ret (zP (cs:=[_,_,_]) Tryz.results334 Tryz.underlying41 rfl zu _ _ w.heap.size rfl (qI (heap_alloc_new w _))) rfl ?_;exact ⟨rfl,za _ _⟩
 ·have hz:(b == 0) =false:=by simpa using h0
  by_cases hm:a = -9223372036854775808/\b = -1
  ·have e:x9 f a b =⟨0,0,3⟩:=by unfold x9;rw [if_neg h0,if_pos hm]
   rw [e];obtain ⟨rfl,rfl⟩:=hm;clear ha hb hc e h0;go_enter Tryz.func334,Tryz.ntmps334
   go_wp2
   refine bodyPost_ret (zP (cs:=[_,_,_]) Tryz.results334 Tryz.underlying41 rfl zu _ _ w.heap.size rfl (qI (heap_alloc_new w _))) rfl ?_;exact ⟨rfl,za _ _⟩
  ·have e:x9 f a b =⟨1,f a b,0⟩:=by unfold x9;rw [if_neg h0,if_neg hm]
   rw [e];have K:=fun w=>HF.out a b w ha hb h0 hm;have K:=zz9 K;have hmm:((a == -9223372036854775808) && (b == -1)) =false:=by
    rw [Bool.and_eq_false_iff];by_cases h:a = -9223372036854775808
    ·right;simp;intro hh;exact hm ⟨h,hh⟩
    ·left;simpa using h
   generalize f a b =q at *
   clear ha hb hc e hm HF;cases h1:(a == -9223372036854775808) with
   | false=>
    clear hmm;go_enter Tryz.func334,Tryz.ntmps334
    go_wp2_with fail
    refine (K.out _).mono ?_;rintro e w1 ⟨rfl,rfl⟩
    go_wp2_with fail
    refine (numC _ _).mono ?_;rintro e w1 ⟨rfl,hb1⟩;have HT:=zG (xE w) hb1 (by simp)
    go_wp2_with (refine zi zu rfl (.tmp 5) (.tmp 23) rfl rfl w.heap.size rfl [_,_,_] rfl rfl HT (by simp [Value.oneCell']) ?_;intro w2 g1 g2 g3 g4 g5)
    refine bodyPost_ret (zP (cs:=[_,_,_]) Tryz.results334 Tryz.underlying41 rfl zu _ _ w.heap.size rfl g1) rfl ?_;exact ⟨rfl,((za w zO).trans (hb1.mono (by simp))).trans g3⟩
   | true=>
    rw [h1] at hmm;simp only [Bool.true_and] at hmm;go_enter Tryz.func334,Tryz.ntmps334
    go_wp2_with fail
    refine (K.out _).mono ?_;rintro e w1 ⟨rfl,rfl⟩
    go_wp2_with fail
    refine (numC _ _).mono ?_;rintro e w1 ⟨rfl,hb1⟩;have HT:=zG (xE w) hb1 (by simp)
    go_wp2_with (refine zi zu rfl (.tmp 5) (.tmp 23) rfl rfl w.heap.size rfl [_,_,_] rfl rfl HT (by simp [Value.oneCell']) ?_;intro w2 g1 g2 g3 g4 g5)
    refine bodyPost_ret (zP (cs:=[_,_,_]) Tryz.results334 Tryz.underlying41 rfl zu _ _ w.heap.size rfl g1) rfl ?_;exact ⟨rfl,((za w zO).trans (hb1.mono (by simp))).trans g3⟩
def ord (a b:Int):Int:=if a < b then -1 else if b < a then 1 else 0
theorem cmpC (a b:Int) (w:World):Calls Tryz.prog 336 #[.int .i64 a,.int .i64 b] w fun e w'=>e =.returned (.int .i64 (ord a b))/\w =w':=by
 by_cases h1:a < b
 ·rw [show ord a b = -1 from if_pos h1]
  go_enter Tryz.func336,Tryz.ntmps336
  go_wp2
  all_goals go_ret
  all_goals exact ⟨rfl,rfl⟩
 ·by_cases h2:b < a
  ·rw [show ord a b =1 by unfold ord;rw [if_neg h1,if_pos h2]]
   go_enter Tryz.func336,Tryz.ntmps336
   go_wp2
   all_goals go_ret
   all_goals exact ⟨rfl,rfl⟩
  ·rw [show ord a b =0 by unfold ord;rw [if_neg h1,if_neg h2]]
   go_enter Tryz.func336,Tryz.ntmps336
   go_wp2
   all_goals go_ret
   all_goals exact ⟨rfl,rfl⟩
def Kept (D:Nat->Prop) (w w':World):Prop:=∀ k,D k->k < w.heap.size/\w'.heap[k]? =w.heap[k]?
theorem Kept.below (h:Kept D w w') (hb:Below w'.heap.size w' w''):Kept D w w'':=fun k hk=>by
 have h1:=h k hk;have h2:k < w'.heap.size:=by
  have:∃ o,w.heap[k]? =some o:=⟨_,Array.getElem?_eq_getElem h1.1⟩;obtain ⟨o,ho⟩:=this;rw [ho] at h1;exact (zz7.1 h1.2).1
 exact ⟨h1.1,by rw [hb.block k h2];exact h1.2⟩
theorem Kept.cell (h:Kept D w w') (hc:D c) {v:Value} (hv:w.cell? ⟨c,0,none⟩ =some v):w'.cell? ⟨c,0,none⟩ =some v:=by
 rw [World.cell?_of_block (a:=⟨c,0,none⟩) (h c hc).2];exact hv
def jZ (fn:Nat) (caps:Array Value) (h:Int->Bool) (D:Nat->Prop) (w0:World):Prop:=
 Ent fn/\∀ (n:Int) (w:World),Kept D w0 w->Calls Tryz.prog fn (#[.int .i64 n]++caps) w fun e w'=>e =.returned (.bool (h n))/\Below w.heap.size w w'
theorem zug (w0:World):jZ 311 #[] (fun n=>decide (n < 0)) (fun _=>False) w0:=by
 refine ⟨by intro args w;simp,fun n w _=>?_⟩;go_enter Tryz.func311,Tryz.ntmps311
 go_wp2
 go_ret;exact ⟨rfl,Below.refl _ _⟩
theorem zsi (w0:World):jZ 312 #[] (fun n=>decide (n<=0)) (fun _=>False) w0:=by
 refine ⟨by intro args w;simp,fun n w _=>?_⟩;go_enter Tryz.func312,Tryz.ntmps312
 go_wp2
 go_ret;exact ⟨rfl,Below.refl _ _⟩
theorem zr6 (w0:World):jZ 313 #[] (fun n=>decide (0 < n)) (fun _=>False) w0:=by
 refine ⟨by intro args w;simp,fun n w _=>?_⟩;go_enter Tryz.func313,Tryz.ntmps313
 go_wp2
 go_ret;exact ⟨rfl,Below.refl _ _⟩
theorem zsp (w0:World):jZ 314 #[] (fun n=>decide (0<=n)) (fun _=>False) w0:=by
 refine ⟨by intro args w;simp,fun n w _=>?_⟩;go_enter Tryz.func314,Tryz.ntmps314
 go_wp2
 go_ret;exact ⟨rfl,Below.refl _ _⟩
def zd3 (fn:Nat) (h:Bool->Bool):Prop:=Ent fn/\∀ (b:Bool) (w:World),Calls Tryz.prog fn #[.bool b] w fun e w'=>e =.returned (.bool (h b))/\w =w'
theorem zpn:zd3 316 (fun b=>b):=by
 refine ⟨by intro args w;simp,fun n w=>?_⟩;go_enter Tryz.func316,Tryz.ntmps316
 go_wp2
 go_ret;exact ⟨rfl,rfl⟩
theorem zqf:zd3 317 (fun b=>!b):=by
 refine ⟨by intro args w;simp,fun n w=>?_⟩;go_enter Tryz.func317,Tryz.ntmps317
 go_wp2
 go_ret;exact ⟨rfl,rfl⟩
def jW (h:Int->Bool) (a b:Int):Ans:=⟨2,b2i (h (ord a b)),0⟩
theorem At6.facts {b:Nat} {t n:Int} {k:Value} (h:At6 w b t n k):w.cell? ⟨b,0,none⟩ =some (.int .i64 t)/\w.cell? ⟨b,1,none⟩ =some (.int .i64 n)/\w.cell? ⟨b,2,none⟩ =some k/\w.frozen? ⟨b,0,none⟩ =false/\w.frozen? ⟨b,1,none⟩ =false/\w.frozen? ⟨b,2,none⟩ =false:=
 ⟨h.cells.1,h.cells.2.1,h.cells.2.2,by have:=(h.2 0 (by omega)).2;simpa using this,by have:=(h.2 1 (by omega)).2;simpa using this,by have:=(h.2 2 (by omega)).2;simpa using this⟩
theorem yZ {v:Value} (hb:Below B w w') (hc:c < B) (h:w.cell? ⟨c,0,none⟩ =some v):w'.cell? ⟨c,0,none⟩ =some v:=by rw [hb.cell (by exact hc)];exact h
theorem ordC (fn:Nat) (caps:Array Value) (h:Int->Bool) (w0:World) (D:Nat->Prop) (hf:jZ fn caps h D w0) (a b:Int) (c:Nat) (w:World) (hw:Kept D w0 w) (hc:w.cell? ⟨c,0,none⟩ =some (.func (.func fn) #[] caps)) :
  Calls Tryz.prog 335 #[.int .i64 a,.int .i64 b,.pointer (some ⟨c,0,none⟩)] w fun e w'=>e =.returned (AV (jW h a b))/\Below w.heap.size w w':=by
 have hc1:=yi w c _ zO hc;obtain ⟨hent,HF⟩:=hf;have HF:=zz9 HF;unfold Ent at hent;have hlt:=World.block_lt_of_cell? w _ hc;clear hc;have hB:Kept D w0 ((w.alloc zO).drewN 1):=hw.below (zW (za w zO) 1);have HT:=zz9 (yw w 0 0 kB);go_enter Tryz.func335,Tryz.ntmps335
 go_wp2_with fail
 go_region_held3 (fun w'=>w'.cell? ⟨c,0,none⟩ =some (.func (.func fn) #[] caps)) (first|assumption|exact yZ (qZ w.heap.size 0 [_,_,_] w2).1 hlt (yZ hb2 (by have:=hb1.size;simp at this;omega) (yZ hb1 (by simp;omega) hc1))|exact yZ hb2 (by have:=hb1.size;simp at this;omega) (yZ hb1 (by simp;omega) hc1)|exact yZ hb1 (by simp;omega) hc1|skip)
  (first|(go_at_call 336;refine (cmpC _ _ _).mono ?_;rintro e w' ⟨rfl,rfl⟩)|(refine (HF.out _ _ hB).mono ?_;rintro e w1 ⟨rfl,hb1⟩;replace hb1:Below (w.alloc zO).heap.size (w.alloc zO) w1:=(zW (Below.refl _ _) 1).trans hb1)|(go_at_call 226;refine (zez _ _).mono ?_;rintro e w2 ⟨rfl,hb2⟩;obtain ⟨u0,u1,u2,v0,v1,v2⟩:=((HT.out.below hb1 (by simp)).below hb2 (by have:=hb1.size;simp at this;omega)).facts))
 have HT2:=(HT.out.below hb1 (by simp)).below hb2 (by have:=hb1.size;simp at this;omega)
 go_wp2
 refine bodyPost_ret (zP (cs:=[_,_,_]) Tryz.results335 Tryz.underlying41 rfl zu _ _ w.heap.size rfl (World.rangeAt_setCells_same w2 w.heap.size 0 [_,_,_] HT2.2)) rfl ?_;have s1:=hb1.size;simp only [World.size_alloc] at s1;exact ⟨rfl,(((za w zO).trans (hb1.mono (by simp))).trans (hb2.mono (by omega))).trans (qZ w.heap.size 0 [_,_,_] w2).1⟩
theorem zo3 (fn:Nat) (h:Bool->Bool) (hf:zd3 fn h) (c:Nat) (w0:World) (hc:w0.cell? ⟨c,0,none⟩ =some (.func (.func fn) #[] #[])):jZ 337 #[.pointer (some ⟨c,0,none⟩)] (fun n=>h (n == 0)) (fun k=>k =c) w0:=by
 refine ⟨by intro args w;simp,fun n w hw=>?_⟩;have hc1:=hw.cell rfl hc;obtain ⟨hent,HF⟩:=hf;have HF:=zz9 HF;unfold Ent at hent;go_enter Tryz.func337,Tryz.ntmps337
 go_wp2_with fail
 refine (HF.out _ _).mono ?_;rintro e w1 ⟨rfl,rfl⟩
 go_wp2
 go_ret;exact ⟨rfl,Below.refl _ _⟩
def zks (fn:Nat) (caps:Array Value) (f:Bool->Bool->Bool) (D:Nat->Prop) (w0:World):Prop:=
 Ent fn/\∀ (a b:Bool) (w:World),Kept D w0 w->Calls Tryz.prog fn (#[.bool a,.bool b]++caps) w fun e w'=>e =.returned (.bool (f a b))/\Below w.heap.size w w'
theorem zpl (fn:Nat) (h:Bool->Bool) (hf:zd3 fn h) (c:Nat) (w0:World) (hc:w0.cell? ⟨c,0,none⟩ =some (.func (.func fn) #[] #[])):zks 338 #[.pointer (some ⟨c,0,none⟩)] (fun a b=>h (a == b)) (fun k=>k =c) w0:=by
 refine ⟨by intro args w;simp,fun a b w hw=>?_⟩;have hc1:=hw.cell rfl hc;obtain ⟨hent,HF⟩:=hf;have HF:=zz9 HF;unfold Ent at hent;go_enter Tryz.func338,Tryz.ntmps338
 go_wp2_with fail
 refine (HF.out _ _).mono ?_;rintro e w1 ⟨rfl,rfl⟩
 go_wp2
 go_ret;exact ⟨rfl,Below.refl _ _⟩
end
end
section
open Go.RowKit Go.MapKept
class Prt where
 no:Nat->Prop
variable [Prt]
def Sq (n0:Nat) (w:World) (b:Nat):Prop:=n0<=b/\(∃ cs T z,w.heap[b]? =some (.cells cs T z)/\(T =92\/T =95\/T =154\/T =33\/T =105))/\¬ Prt.no b
theorem Sq.same {b:Nat} (h:w'.heap[b]? =w.heap[b]?):Sq n0 w' b ↔ Sq n0 w b:=by unfold Sq;rw [h]
structure Mv (n0:Nat) (M:Nat->Prop) (w w':World):Prop where
 off:Off n0 w w'
 keep:∀ b,b < w.heap.size->¬ Sq n0 w b->(M b->Cel w b)->w'.heap[b]? =w.heap[b]?
theorem Mv.refl (n0:Nat) (M:Nat->Prop) (w:World):Mv n0 M w w:=⟨.refl _ _,fun _ _ _ _=>rfl⟩
theorem Mv.of (h:Below w.heap.size w w'):Mv n0 M w w':=⟨.of h,fun b hb _ _=>h.block b hb⟩
theorem Mv.trans {a b c:World} (h:Mv n0 M a b) (k:Mv n0 M b c):Mv n0 M a c:=
 ⟨h.off.trans k.off,fun i hi hs hm=>by
  have e:=h.keep i hi hs hm
  exact (k.keep i (zzA1 hi h.off.size) (fun h'=>hs ((Sq.same e).1 h')) (fun h'=>by obtain ⟨cs,T,z,h1⟩:=hm h';exact ⟨cs,T,z,by rw [e];exact h1⟩)).trans e⟩
theorem Mv.then {a b c:World} (h:Mv n0 M a b) (k:Below b.heap.size b c):Mv n0 M a c:=h.trans (.of k)
theorem Mv.less {M M':Nat->Prop} (h:Mv n0 M w w') (hM:∀ b,b < w.heap.size->M b->M' b):Mv n0 M' w w':=⟨h.off,fun b hb hs hm=>h.keep b hb hs fun h'=>hm (hM b hb h')⟩
theorem Mv.size (h:Mv n0 M w w'):w.heap.size<=w'.heap.size:=h.off.size
theorem Mv.low (h:Mv n0 M w w') (hn:n0<=w.heap.size):Below n0 w w':=h.off.below hn
theorem jX {b:Nat} {cs:Array Value} {T:TypeId} {z:Nat×Nat} (h:w.heap[b]? =some (.cells cs T z)) (hT:¬ (T =92\/T =95\/T =154\/T =33\/T =105)):¬ Sq n0 w b:=by
 rintro ⟨_,⟨cs',T',z',h1,h2⟩,_⟩;rw [h] at h1;injection h1 with h1
 injection h1 with _ h1 _
 subst h1;exact hT h2
theorem zq6 {b:Nat} {arr:Array MapEntry} (h:w.heap[b]? =some (.map arr c)):¬ Sq n0 w b:=by
 rintro ⟨_,⟨cs',T',z',h1,_⟩,_⟩;rw [h] at h1;cases h1
theorem yJ {b:Nat} {arr:Array MapEntry} (h:w.heap[b]? =some (.map arr c)):¬ Cel w b:=by
 rintro ⟨cs,T,z,h1⟩;rw [h] at h1;cases h1
theorem qs.obj {b:Nat} {es:List (List Nat×Value)} (h:qs w b es):∃ arr c,w.heap[b]? =some (.map arr c):=by
 obtain ⟨arr,c,h1,_⟩:=h;exact ⟨arr,c,h1⟩
theorem Mv.map {arr:Array MapEntry} (hg:w.grownBy w' (some m)) (ho:w.heap[m]? =some (.map arr c)) (hn:n0<=m) (hM:M m):Mv n0 M w w':=
 ⟨Off.other hg (yJ ho) hn,fun b hb _ hm=>hg.block b hb fun e=>by injection e with e;subst e;exact yJ ho (hm hM)⟩
def Vok (v:Va):Prop:=fits v.n/\v.s.length<=1000000
def VaC (w:World) (v:Va) (u:Value):Prop:=∃ k,u =VV v.t v.n k/\SB w w.heap.size k v.s/\Vok v
theorem VaC.off {v:Va} (h:VaC w v u) (ho:Off n0 w w'):VaC w' v u:=by
 obtain ⟨k,h1,h2,h3⟩:=h;exact ⟨k,h1,h2.off ho,h3⟩
theorem VaC.on {v:Va} (h:VaC w v u) (hb:Below w.heap.size w w'):VaC w' v u:=h.off (n0:=0) (.of hb)
inductive EsC (w:World):List (List Nat×Va)->List (List Nat×Value)->Prop
 | nil:EsC w [] []
 | cons {s:List Nat} {v:Va} {u:Value} {f:List (List Nat×Va)} {es:List (List Nat×Value)} (hv:VaC w v u) (hr:EsC w f es):EsC w ((s,v)::f) ((s,u)::es)
theorem EsC.off {f:List (List Nat×Va)} {es:List (List Nat×Value)} (h:EsC w f es) (ho:Off n0 w w'):EsC w' f es:=by
 induction h with
 | nil=>exact .nil
 | cons hv _ ih=>exact .cons (hv.off ho) ih
theorem EsC.seek {f:List (List Nat×Va)} {es:List (List Nat×Value)} (h:EsC w f es) (s:List Nat):(seek f s =none/\seek es s =none)\/∃ v u,seek f s =some v/\seek es s =some u/\VaC w v u:=by
 induction h with
 | nil=>exact .inl ⟨rfl,rfl⟩
 | @cons a v u f es hv hr ih=>
  by_cases h:a =s
  ·exact .inr ⟨v,u,by unfold Go.Proofs.YtcilgkdnjgmogaaGreatDoor.seek;simp [h],by unfold Go.Proofs.YtcilgkdnjgmogaaGreatDoor.seek;simp [h],hv⟩
  ·have e1:Go.Proofs.YtcilgkdnjgmogaaGreatDoor.seek ((a,v)::f) s =Go.Proofs.YtcilgkdnjgmogaaGreatDoor.seek f s:=by unfold Go.Proofs.YtcilgkdnjgmogaaGreatDoor.seek;rw [List.find?_cons_of_neg (by simpa using h)]
   have e2:Go.Proofs.YtcilgkdnjgmogaaGreatDoor.seek ((a,u)::es) s =Go.Proofs.YtcilgkdnjgmogaaGreatDoor.seek es s:=by unfold Go.Proofs.YtcilgkdnjgmogaaGreatDoor.seek;rw [List.find?_cons_of_neg (by simpa using h)]
   rw [e1,e2];exact ih
def updV (f:List (List Nat×Value)) (s:List Nat) (v:Value):List (List Nat×Value):=
 match f with
 | []=>[(s,v)]
 | p::l=>if p.1 =s then (s,v)::l else p::updV l s v
theorem EsC.upd {f:List (List Nat×Va)} {es:List (List Nat×Value)} (h:EsC w f es) {v:Va} (hv:VaC w v u):EsC w (updF f s v) (updV es s u):=by
 induction h with
 | nil=>exact .cons hv .nil
 | @cons a v' u' f es hv' hr ih=>
  unfold updF updV;by_cases h:a =s
  ·simp only [h,if_true]
   exact .cons hv hr
  ·simp only [if_neg h]
   exact .cons hv' ih
theorem EsC.len {f:List (List Nat×Va)} {es:List (List Nat×Value)} (h:EsC w f es):es.length =f.length:=by
 induction h with
 | nil=>rfl
 | cons _ _ ih=>simp [ih]
theorem zaj (hs:Byn s) (u:Value):∀ (l:List MapEntry) (es:List (List Nat×Value)) (i:Nat),l.map (fun e=>(e.key,e.val)) =es.map (fun p=>(Value.string (strN p.1),p.2))->(∀ p∈es,Byn p.1) ->
  (Instr.findNow .string (.string (strN s)) l i =some none/\updV es s u =es++[(s,u)]) \/
  ∃ j e,Instr.findNow .string (.string (strN s)) l i =some (some (i+j,e.val))/\l[j]? =some e/\e.key =.string (strN s)/\(l.modify j fun e=>{ key:=.string (strN s),val:=u,born:=e.born }).map (fun e=>(e.key,e.val)) =(updV es s u).map (fun p=>(Value.string (strN p.1),p.2))
 | [],[],i,_,_=>.inl ⟨rfl,rfl⟩
 | [],p::es,i,h,_=>by simp at h
 | e::l,[],i,h,_=>by simp at h
 | e::l,p::es,i,h,hb=>by
  simp only [List.map_cons,List.cons.injEq,Prod.mk.injEq] at h;obtain ⟨⟨hk,hv⟩,h⟩:=h;have hp:=hb p (List.mem_cons_self ..);have hsn:Instr.sameNow .string (.string (strN s)) e.key =some (decide (s =p.1)):=by rw [hk];simp [Instr.sameNow,zgw hs hp]
  have hu0:updV (p::es) s u =if p.1 =s then (s,u)::es else p::updV es s u:=by
   conv=>lhs;unfold updV
  by_cases he:s =p.1
  ·rw [decide_eq_true he] at hsn
   refine .inr ⟨0,e,?_,rfl,by rw [hk,he],?_⟩
   ·simp only [Instr.findNow,hsn];rfl
   ·rw [hu0,if_pos he.symm]
    simp only [List.modify_zero_cons,List.map_cons,h]
  ·rw [decide_eq_false he] at hsn
   have hf:Instr.findNow .string (.string (strN s)) (e::l) i =Instr.findNow .string (.string (strN s)) l (i+1):=by simp [Instr.findNow,hsn]
   rw [hf,hu0,if_neg fun e=>he e.symm];rcases zaj hs u l es (i+1) h (fun q hq=>hb q (List.mem_cons_of_mem _ hq)) with ⟨h1,h2⟩|⟨j,e',h1,h2,h4,h3⟩
   ·exact .inl ⟨h1,by rw [h2];rfl⟩
   ·refine .inr ⟨j+1,e',?_,by simpa using h2,h4,?_⟩
    ·rw [h1];congr 3;omega
    ·simp only [List.modify_succ_cons,List.map_cons,h3,hk,hv]
theorem zm1 {es:List (List Nat×Value)} (h:∀ p∈es,Byn p.1) (hs:Byn s):∀ p∈updV es s u,Byn p.1:=by
 induction es with
 | nil=>intro p hp;simp [updV] at hp;rw [hp];exact hs
 | cons q l ih=>
  intro p hp;unfold updV at hp
  split at hp
  ·rcases List.mem_cons.1 hp with e|hp
   ·rw [e];exact hs
   ·exact h p (by simp [hp])
  ·rcases List.mem_cons.1 hp with e|hp
   ·rw [e];exact h q (by simp)
   ·exact ih (fun p hp=>h p (by simp [hp])) p hp
theorem zf2 {b:Nat} {es:List (List Nat×Value)} (h:qs w b es) (hs:Byn s) {t e:TypeId} (ht:Tryz.prog.underlying t =some (.map 9 e)) (v:Value) :
  ∃ w',(Instr.mapUpdate t (.map (some b)) (.string (strN s)) v).run Tryz.prog w =.ok () w'/\qs w' b (updV es s v)/\w.grownBy w' (some b)/\w'.heap.size =w.heap.size:=by
 obtain ⟨arr,clock,h1,h2,h3⟩:=h;have hd:Tryz.prog.underlying 9 =some .string:=Tryz.underlying9;have hk:IsKey .string (.string (strN s)):=trivial;rcases zaj hs v arr.toList es 0 h2 h3 with ⟨g2,g3⟩|⟨j,u,g2,g3,g5,g4⟩
 ·refine ⟨{ w with heap:=w.heap.setIfInBounds b (.map (arr.push { key:=.string (strN s),val:=v,born:=clock }) (clock+1)) },?_,⟨_,_,(MapKept.heap_set h1).1,?_,?_⟩,⟨rfl,rfl,rfl,by simp,fun i _ hi=>(MapKept.heap_set h1).2 i (fun e=>hi (by rw [e]))⟩,by simp⟩
  ·simp [Instr.mapUpdate,run_underlying ht,MapKept.run_getObj_map h1,MapKept.run_checkKey hd hk,MapKept.run_findKey hd g2,MapKept.run_setObj_map _ h1,Result.andThen]
  ·rw [g3];simp [h2]
  ·rw [g3]
   intro p hp;rcases List.mem_append.1 hp with hp|hp
   ·exact h3 p hp
   ·simp at hp;subst hp;exact hs
 ·rw [Nat.zero_add] at g2
  have hj:arr[j]? =some u:=by rw [<- Array.getElem?_toList];exact g3
  have hkey:((arr[j]?).map (·.key)).getD (Value.string (strN s)) =Value.string (strN s):=by rw [hj];exact g5
  refine ⟨{ w with heap:=w.heap.setIfInBounds b (.map (arr.modify j fun e=>{ key:=.string (strN s),val:=v,born:=e.born }) clock) },?_,⟨_,_,(MapKept.heap_set h1).1,?_,zm1 h3 hs⟩,⟨rfl,rfl,rfl,by simp,fun i _ hi=>(MapKept.heap_set h1).2 i (fun e=>hi (by rw [e]))⟩,by simp⟩
  ·simp [Instr.mapUpdate,run_underlying ht,MapKept.run_getObj_map h1,MapKept.run_checkKey hd hk,MapKept.run_findKey hd g2,MapKept.run_setObj_map _ h1,Result.andThen,hj,g5,MapKept.run_keyThatStays hk]
  ·rw [Array.toList_modify];exact g4
def MapV (w:World) (m:Nat) (f:List (List Nat×Va)):Prop:=∃ es,qs w m es/\EsC w f es
theorem MapV.mv {f:List (List Nat×Va)} (h:MapV w m f) (hm:Mv n0 M w w') (hM:¬ M m):MapV w' m f:=by
 obtain ⟨es,h1,h2⟩:=h;obtain ⟨arr,c,ho⟩:=h1.obj;exact ⟨es,h1.of (hm.keep m h1.lt (zq6 ho) fun h=>absurd h hM),h2.off hm.off⟩
theorem MapV.lt {f:List (List Nat×Va)} (h:MapV w m f):m < w.heap.size:=by
 obtain ⟨es,h1,_⟩:=h;exact h1.lt
theorem MapV.obj {f:List (List Nat×Va)} (h:MapV w m f):∃ arr c,w.heap[m]? =some (.map arr c):=by
 obtain ⟨es,h1,_⟩:=h;exact h1.obj
inductive ScAt (n0:Nat) (w:World):Value->List Nat->Env->Prop
 | nil:ScAt n0 w (.pointer none) [] []
 | cons {b m:Nat} {q:Value} {ms:List Nat} {f:List (List Nat×Va)} {env:Env} (hb:w.heap[b]? =some (.cells #[.map (some m),q] 206 (0,0))) (hm:MapV w m f) (h0:n0<=m) (hne:m ∉ ms) (hr:ScAt n0 w q ms env):ScAt n0 w (.pointer (some ⟨b,0,none⟩)) (m::ms) (f::env)
theorem ScAt.mv {p:Value} {ms:List Nat} {env:Env} (h:ScAt n0 w p ms env) (hm:Mv n0 M w w') (hM:∀ m∈ms,¬ M m):ScAt n0 w' p ms env:=by
 induction h with
 | nil=>exact .nil
 | cons hb hv h0 hne _ ih=>
  refine .cons ?_ (hv.mv hm (hM _ (by simp))) h0 hne (ih fun m h=>hM m (by simp [h]));rw [hm.keep _ (zz7.1 hb).1 (jX hb (by decide)) fun _=>⟨_,_,_,hb⟩];exact hb
theorem ScAt.on {p:Value} {ms:List Nat} {env:Env} (h:ScAt n0 w p ms env) (hb:Below w.heap.size w w'):ScAt n0 w' p ms env:=h.mv (M:=fun _=>False) (.of hb) (fun _ _ h=>h)
theorem ScAt.ms {p:Value} {ms:List Nat} {env:Env} (h:ScAt n0 w p ms env):∀ m∈ms,n0<=m/\m < w.heap.size/\¬ Cel w m:=by
 induction h with
 | nil=>intro m hm;cases hm
 | cons hb hv h0 hne _ ih=>
  intro m hm;rcases List.mem_cons.1 hm with e|hm
  ·rw [e]
   obtain ⟨arr,c,ho⟩:=hv.obj;exact ⟨h0,hv.lt,yJ ho⟩
  ·exact ih m hm
theorem ScAt.ptr {p:Value} {ms:List Nat} {env:Env} (h:ScAt n0 w p ms env):∃ a,p =.pointer a:=by
 cases h with
 | nil=>exact ⟨_,rfl⟩
 | cons=>exact ⟨_,rfl⟩
mutual
def shE:Xe->Bool
 | .mk _ n t k _=>decide (t.length<=1000000) && (decide (-9223372036854775808<=n/\n<=9223372036854775807) && shL k)
def shL:List Xe->Bool
 | []=>true
 | e::l=>shE e && shL l
end
mutual
def shS:Xs->Bool
 | .mk _ _ es b f _=>shL es && shB b && shB f
def shB:List Xs->Bool
 | []=>true
 | s::l=>shS s && shB l
end
structure Cx10 where
 n0:Nat
 R:Nat
 J:Nat
 g:Nat
 lim:Int
 fs:List Xf
 ks:List Two
 sh:∀ f∈fs,shB f.body =true
def Cx10.F (X:Cx10):List Nat->Option Xf:=fun s=>X.fs.find? (fun f=>f.name == s)
structure RunS (X:Cx10) (c:Nat) (σ:Stt) (w:World):Prop where
 cell:w.heap[X.R]? =some (.cells #[.map (some X.g),.pointer (some ⟨X.J,0,none⟩),.int .i64 X.lim,.int .i64 σ.used,.int .i64 c] 105 (0,0))
 hR:X.n0<=X.R
 jr:Jr X.n0 w X.J σ.hs σ.cur
 tab:qs w X.g (tabC X.fs X.ks)
 hg:X.n0<=X.g
 len:X.ks.length =X.fs.length
 fns:∀ (i:Nat) (f:Xf) (k:Two),X.fs[i]? =some f->X.ks[i]? =some k->XfK w (Lo X.n0) f k
 hn:X.n0<=w.heap.size
 u0:0<=σ.used
 u1:σ.used<=X.lim
 u2:X.lim<=100000
 cnt:(σ.hs.length:Int)*4<=90000+σ.used
 pr:¬ Prt.no X.R
 pj:∀ b,Jb w X.J b->¬ Prt.no b
 pt:∀ b,Prt.no b->b < w.heap.size
theorem RunS.sp {X:Cx10} {σ:Stt} (h:RunS X c σ w):Sp X.n0 w X.R:=
 ⟨h.hR,_,105,_,h.cell,.inr (.inr (.inr (.inr (.inl rfl)))),by intro x hx q y e;subst e;simp at hx⟩
theorem RunS.sq {X:Cx10} {σ:Stt} (h:RunS X c σ w):Sq X.n0 w X.R:=⟨h.hR,⟨_,105,_,h.cell,.inr (.inr (.inr (.inr rfl)))⟩,h.pr⟩
theorem Jr.jb_tag {J:Nat} {hs:List (List PR)} {cur:List PR} (h:Jr n0 w J hs cur) {b:Nat} (hb:Jb w J b):∃ cs T z,w.heap[b]? =some (.cells cs T z)/\(T =92\/T =154):=by
 obtain ⟨A,c,R,cr,fs,Fs,h1,h2,h3,h4,h5,_⟩:=h.ex;rcases hb with rfl|⟨v,R',g1,g2,rfl⟩
 ·exact ⟨_,_,_,h1,.inl rfl⟩
 ·have:v =.slice R hs.length cr:=by
   have e:w.cell? ⟨J,1,none⟩ =some (.slice R hs.length cr):=by simp [World.cell?,h1]
   rw [e] at g1;injection g1 with g1
   exact g1.symm
  subst this;obtain ⟨cs,h6⟩:=h5.tag g2;exact ⟨_,_,_,h6,.inr rfl⟩
theorem Jr.jb_sq {J:Nat} {hs:List (List PR)} {cur:List PR} (h:Jr n0 w J hs cur) {b:Nat} (hb:Jb w J b) (hp:¬ Prt.no b):Sq n0 w b:=by
 obtain ⟨cs,T,z,h1,h2⟩:=h.jb_tag hb;exact ⟨(h.jb_lt hb).2.1,⟨cs,T,z,h1,h2.elim .inl fun e=>.inr (.inr (.inl e))⟩,hp⟩
theorem zp4 {J:Nat} (hJ:w'.heap[J]? =w.heap[J]?) {b:Nat} (h:Jb w' J b):Jb w J b:=by
 rcases h with h|⟨v,R,h1,h2,h3⟩
 ·exact .inl h
 ·exact .inr ⟨v,R,by rw [<- World.cell?_of_block (a:=⟨J,1,none⟩) hJ];exact h1,h2,h3⟩
theorem zpe {J:Nat} {hs:List (List PR)} {cur:List PR} (h:Jr n0 w J hs cur) {b:Nat} (hb:∀ cs z,w.heap[b]?≠some (.cells cs 92 z)) (hb':∀ cs z,w.heap[b]?≠some (.cells cs 154 z)):¬ Jb w J b:=fun h'=>by
 obtain ⟨cs,T,z,h1,h2⟩:=h.jb_tag h';rcases h2 with rfl|rfl
 ·exact hb _ _ h1
 ·exact hb' _ _ h1
theorem RunS.jbR {X:Cx10} {σ:Stt} (h:RunS X c σ w):¬ Jb w X.J X.R:=zpe h.jr (fun cs z e=>by rw [h.cell] at e;injection e with e;injection e with _ e _;exact absurd e (by decide)) (fun cs z e=>by rw [h.cell] at e;injection e with e;injection e with _ e _;exact absurd e (by decide))
theorem zo0 {J:Nat} {hs:List (List PR)} {cur:List PR} (h:Jr n0 w J hs cur) {b:Nat} {arr:Array MapEntry} (hb:w.heap[b]? =some (.map arr c)):¬ Jb w J b:=zpe h (fun cs z e=>by rw [hb] at e;cases e) (fun cs z e=>by rw [hb] at e;cases e)
theorem vL (h:Below n0 w w'):Same (Lo n0) w w':=fun k hk=>h.block k hk
theorem RunS.keep {X:Cx10} {σ:Stt} (h:RunS X c σ w) (ho:Off X.n0 w w') (hR:w'.heap[X.R]? =w.heap[X.R]?) (hJ:∀ b,Jb w X.J b->w'.heap[b]? =w.heap[b]?) (hg:w'.heap[X.g]? =w.heap[X.g]?):RunS X c σ w':=
 ⟨by rw [hR];exact h.cell,h.hR,h.jr.off ho hJ,h.tab.of hg,h.hg,h.len,fun i f k a b=>(h.fns i f k a b).same (vL (ho.below h.hn)),zzA2 h.hn ho.size,h.u0,h.u1,h.u2,h.cnt,h.pr,fun b hb=>h.pj b (zp4 (hJ _ (.inl rfl)) hb),fun b hb=>zzA1 (h.pt b hb) ho.size⟩
theorem RunS.on {X:Cx10} {σ:Stt} (h:RunS X c σ w) (hb:Below w.heap.size w w'):RunS X c σ w':=
 h.keep (.of hb) (hb.block _ h.sp.lt) (fun b hb'=>hb.block b (h.jr.jb_lt hb').1) (hb.block _ h.tab.lt)
theorem RunS.map {X:Cx10} {σ:Stt} {arr:Array MapEntry} (h:RunS X c σ w) (hg:w.grownBy w' (some m)) (hm:w.heap[m]? =some (.map arr k)) (hn:X.n0<=m) (hne:m≠X.g):RunS X c σ w':=by
 refine h.keep (Off.other hg (yJ hm) hn) (hg.block _ h.sp.lt ?_) (fun b hb=>hg.block b (h.jr.jb_lt hb).1 ?_) (hg.block _ h.tab.lt ?_)
 ·intro e
  injection e with e
  rw [<- e,h.cell] at hm;cases hm
 ·intro e
  injection e with e
  subst e;exact zo0 h.jr hm hb
 ·intro e
  injection e with e
  exact hne e.symm
theorem RunS.own {X:Cx10} {σ:Stt} (h:RunS X c σ w) (hg:w.grownBy w' (some X.R)) (c':Nat) (u:Int) (hc:w'.heap[X.R]? =some (.cells #[.map (some X.g),.pointer (some ⟨X.J,0,none⟩),.int .i64 X.lim,.int .i64 u,.int .i64 c'] 105 (0,0))) (hu:σ.used<=u) (hl:u<=X.lim) :
  RunS X c' { σ with used:=u } w'/\Off X.n0 w w':=by
 have hsp':Sp X.n0 w' X.R:=⟨h.hR,_,105,_,hc,.inr (.inr (.inr (.inr (.inl rfl)))),by intro x hx q y e;subst e;simp at hx⟩;have ho:Off X.n0 w w':=Off.grown hg h.sp hsp';have hgne:X.g≠X.R:=fun e=>by
  obtain ⟨arr,k,hm⟩:=h.tab.obj;rw [e,h.cell] at hm;cases hm
 refine ⟨⟨hc,h.hR,h.jr.off ho (fun b hb=>hg.block b (h.jr.jb_lt hb).1 ?_),h.tab.of (hg.block _ h.tab.lt ?_),h.hg,h.len,fun i f k a b=>(h.fns i f k a b).same (vL (ho.below h.hn)),zzA2 h.hn ho.size,Int.le_trans h.u0 hu,hl,h.u2,by have:=h.cnt;show (σ.hs.length:Int)*4<=90000+u;omega,h.pr,fun b hb=>h.pj b (zp4 (hg.block _ (h.jr.jb_lt (.inl rfl)).1 fun e=>by
   injection e with e
   have:=h.jbR;rw [<- e] at this
   exact this (.inl rfl)) hb),fun b hb=>zzA1 (h.pt b hb) ho.size⟩,ho⟩
 ·intro e
  injection e with e
  subst e;exact h.jbR hb
 ·intro e
  injection e with e
  exact hgne e
theorem RunS.chd {X:Cx10} {σ:Stt} {hs:List (List PR)} {cur:List PR} (h:RunS X c σ w) (hc:Chd X.n0 X.J w hs cur w') (hn:(hs.length:Int)*4<=90000+σ.used):RunS X c { σ with hs:=hs,cur:=cur } w':=by
 obtain ⟨ho,hch,hj⟩:=hc;obtain ⟨arr,k,hm⟩:=h.tab.obj;exact ⟨by rw [hch.1 _ h.sp.lt h.jbR];exact h.cell,h.hR,hj,h.tab.of (hch.1 _ h.tab.lt (zo0 h.jr hm)),h.hg,h.len,fun i f k a b=>(h.fns i f k a b).same (vL (ho.below h.hn)),zzA2 h.hn ho.size,h.u0,h.u1,h.u2,hn,h.pr,fun b hb hp=>(hch.2 b hb).elim (fun h'=>h.pj b h' hp) (fun h'=>by have:=h.pt b hp;omega),fun b hb=>zzA1 (h.pt b hb) ho.size⟩
theorem Mv.chd {X:Cx10} {σ:Stt} {hs':List (List PR)} {cur':List PR} (hr:RunS X c σ w) (hc:Chd X.n0 X.J w hs' cur' w'):Mv X.n0 M w w':=
 ⟨hc.1,fun b hb hs _=>hc.2.1.1 b hb fun h=>hs (hr.jr.jb_sq h (hr.pj b h))⟩
theorem Mv.own (hg:w.grownBy w' (some R)) (ho:Off n0 w w') (hs:Sq n0 w R):Mv n0 M w w':=⟨ho,fun b hb h _=>hg.block b hb fun e=>by injection e with e;subst e;exact h hs⟩
abbrev Trp (t:Int):Ending:=.panicked [{ v:=.iface 42 (.int .i64 t),recovered:=false }]
def qR {α:Type} (X:Cx10) (c:Nat) (M:Nat->Prop) (Q:World->α->Value->Prop) (w:World) (r:Ou α) (e:Ending) (w':World):Prop:=
 Mv X.n0 M w w'/\match r with
 | .ok a σ=>∃ v,e =.returned v/\Q w' a v/\RunS X c σ w'
 | .trap t σ=>e =Trp t/\∃ c',RunS X c' σ w'
def NoM:Nat->Prop:=fun _=>False
theorem NoM.mono (h:Mv n0 NoM w w'):Mv n0 M w w':=h.less fun _ _ h=>h.elim
structure VSt (g:Nat) (t n:Int) (k:Value) (w w':World):Prop where
 here:w'.heap[g]? =some (.cells #[.int .i64 t,.int .i64 n,k] 41 (0,0))
 far:∀ b,b≠g->w'.heap[b]? =w.heap[b]?
 size:w'.heap.size =w.heap.size
 os:w'.os =w.os
 tape:w'.tape =w.tape
 output:w'.output =w.output
theorem VSt.below {t n:Int} {k:Value} (h:VSt g t n k w w') (hB:B<=g):Below B w w':=
 ⟨h.os,h.tape,h.output,by rw [h.size];exact zzA0 _,fun b hb=>h.far b (by omega)⟩
theorem VSt.off {t n:Int} {k:Value} (h:VSt g t n k w w') (hn:n0<=g) (hk:∀ y,k≠.int .u8 y) (hw:w.heap[g]? =some (.cells #[.int .i64 t0,.int .i64 n1,k0] 41 (0,0))) (hk0:∀ y,k0≠.int .u8 y):Off n0 w w':=by
 have hN:∀ (t n:Int) (k:Value),(∀ y,k≠.int .u8 y)->NoI #[.int .i64 t,.int .i64 n,k]:=by
  intro t n k hk x hx _ y e;simp at hx;rcases hx with rfl|rfl|rfl
  ·cases e
  ·cases e
  ·exact hk y e
 exact Off.grown ⟨h.os,h.tape,h.output,by rw [h.size];exact zzA0 _,fun b _ hb=>h.far b fun e=>hb (by rw [e])⟩ ⟨hn,_,41,_,hw,.inr (.inr (.inr (.inr (.inr (.inl rfl))))),hN _ _ _ hk0⟩ ⟨hn,_,41,_,h.here,.inr (.inr (.inr (.inr (.inr (.inl rfl))))),hN _ _ _ hk⟩
theorem xa (hw:w.heap[g]? =some (.cells #[c0,c1,c2] 41 (0,0))) (t n:Int) (k:Value):VSt g t n k w (w.setCells g 0 [.int .i64 t,.int .i64 n,k]):=by
 refine ⟨?_,fun b hb=>?_,?_,rfl,rfl,rfl⟩
 ·show (((w.setCell ⟨g,0,none⟩ _).setCell ⟨g,1,none⟩ _).setCell ⟨g,2,none⟩ _).heap[g]? =_
  exact heap_setCell_same _ _ 2 _ _ _ (heap_setCell_same _ _ 1 _ _ _ (heap_setCell_same w g 0 _ _ _ hw))
 ·show (((w.setCell ⟨g,0,none⟩ _).setCell ⟨g,1,none⟩ _).setCell ⟨g,2,none⟩ _).heap[b]? =_
  rw [zf _ _ _ _ _ hb,zf _ _ _ _ _ hb,zf _ _ _ _ _ hb]
 ·show (((w.setCell ⟨g,0,none⟩ _).setCell ⟨g,1,none⟩ _).setCell ⟨g,2,none⟩ _).heap.size =_
  rw [qi,qi,qi]
theorem zm {ops:Array Oper} {rest:List Oper} {o:Oper} {a:Act} {Q:Exit->Act->World->Prop} (hgd:o.guard =none) (x y:Operand) (ho:o.op =.store 41 x y) (hd:o.dst =none) (g:Nat) (hx:a.eval x =.pointer (some ⟨g,0,none⟩)) (t n:Int) (A:Option Addr) (m cp:Nat) (hy:a.eval y =VV t n (.slice A m cp)) (hw:w.heap[g]? =some (.cells #[c0,c1,c2] 41 (0,0)))
  (h:∀ w',VSt g t n (.slice A m cp) w w'->wpList Tryz.prog ops Q rest a w'):wpList Tryz.prog ops Q (o::rest) a w:=by
 refine wpList_store_mid hgd 41 x y ho g 0 #[.int .i64 t,.int .i64 n,.slice A m cp] hx hy (xJ (cs:=[c0,c1,c2]) hw rfl) (by simpa using zu) (by simp [Value.oneCell']) ?_;rw [hd];exact h _ (xa hw t n _)
theorem xF:∀ y,Value.slice A n c≠.int .u8 y:=by intro y e;cases e
theorem RunS.var {X:Cx10} {σ:Stt} {t n:Int} (h:RunS X c σ w) (hv:VSt g t n (.slice A m cp) w w') (hn:X.n0<=g) {m0 cp0:Nat} (hw:w.heap[g]? =some (.cells #[.int .i64 t0,.int .i64 n1,.slice A0 m0 cp0] 41 (0,0))):RunS X c σ w':=by
 refine h.keep (hv.off hn xF hw xF) (hv.far _ ?_) (fun b hb=>hv.far b ?_) (hv.far _ ?_)
 ·exact jV h.cell hw (by decide)
 ·obtain ⟨cs,T,z,h1,h2⟩:=h.jr.jb_tag hb
  exact jV h1 hw (by rcases h2 with rfl|rfl <;> decide)
 ·intro e
  obtain ⟨arr,k,hm⟩:=h.tab.obj;rw [e,hw] at hm;cases hm
end
section
structure LitP (T:List Nat) (P:List Fu):Prop where
 p:jS T =⟨0,P,0⟩
 f:yB 0 P 0 =⟨P,0,0⟩
 o:∀ f∈P,okF f =true
 m:kD (P.map toXf) =none
 s:∀ f∈P.map toXf,shB f.body =true
 y:Byn T
def hdFT:List Nat:=[102,110,32,102,40,97,58,32,105,110,116,41,58,32,105,110,116,32,123,32,114,101,116,117,114,110,32,97,32,47,32,48,59,32,125,32,102,110,32,103,40,97,58,32,105,110,116,41,58,32,105,110,116,32,123,32,114,101,116,117,114,110,32,97,32,43,32,49,59,32,125]
def hdFP:List Fu:=[⟨[102],[([97],1)],1,[.mk 5 [] [.mk 6 0 [47] [.mk 4 0 [97] [] 27,.mk 1 0 [] [] 31] 29] [] [] 20],0⟩,⟨[103],[([97],1)],1,[.mk 5 [] [.mk 6 0 [43] [.mk 4 0 [97] [] 63,.mk 1 1 [] [] 67] 65] [] [] 56],36⟩]
theorem zfn:LitP hdFT hdFP:=by
 refine ⟨by kernel_rfl,by kernel_rfl,?_,by kernel_rfl,?_,by unfold Byn hdFT;decide⟩
 ·have:hdFP.all okF =true:=by kernel_rfl
  exact fun f hf=>List.all_eq_true.1 this f hf
 ·have:(hdFP.map toXf).all (fun f=>shB f.body) =true:=by kernel_rfl
  exact fun f hf=>List.all_eq_true.1 this f hf
def keFT:List Nat:=[102,110,32,112,40,107,58,32,98,121,116,101,115,44,32,118,58,32,98,121,116,101,115,41,32,123,32,112,117,116,40,107,44,32,118,41,59,32,125,32,102,110,32,103,40,107,58,32,98,121,116,101,115,41,58,32,98,121,116,101,115,32,123,32,114,101,116,117,114,110,32,103,101,116,40,107,41,59,32,125,32,102,110,32,104,40,107,58,32,98,121,116,101,115,41,58,32,98,111,111,108,32,123,32,114,101,116,117,114,110,32,104,97,115,40,107,41,59,32,125,32,102,110,32,100,40,107,58,32,98,121,116,101,115,41,32,123,32,100,101,108,40,107,41,59,32,125]
def keFP:List Fu:=[⟨[112],[([107],3),([118],3)],0,[.mk 6 [] [.mk 4 0 [107] [] 31,.mk 4 0 [118] [] 34] [] [] 27],0⟩,⟨[103],[([107],3)],3,[.mk 5 [] [.mk 8 0 [] [.mk 4 0 [107] [] 75] 71] [] [] 64],40⟩,⟨[104],[([107],3)],2,[.mk 5 [] [.mk 9 0 [] [.mk 4 0 [107] [] 115] 111] [] [] 104],81⟩,⟨[100],[([107],3)],0,[.mk 7 [] [.mk 4 0 [107] [] 142] [] [] 138],121⟩]
theorem zxh:LitP keFT keFP:=by
 refine ⟨by kernel_rfl,by kernel_rfl,?_,by kernel_rfl,?_,by unfold Byn keFT;decide⟩
 ·have:keFP.all okF =true:=by kernel_rfl
  exact fun f hf=>List.all_eq_true.1 this f hf
 ·have:(keFP.map toXf).all (fun f=>shB f.body) =true:=by kernel_rfl
  exact fun f hf=>List.all_eq_true.1 this f hf
theorem zfu:hdFP.map toXf =hdFX:=by kernel_rfl
theorem zxg:keFP.map toXf =keFX:=by kernel_rfl
end
section
open Go.RowKit Go.MapKept
variable [Prt]
theorem zcs {b m:Nat} (h:w.heap[b]? =some (.cells #[.map (some m),q] 206 (0,0))):w.cell? ⟨b,0,none⟩ =some (.map (some m))/\w.cell? ⟨b,1,none⟩ =some q:=⟨(kO h).1,(kO h).2.1⟩
theorem yV (w:World):Calls Tryz.prog 82 #[.int .i64 0] w fun e w'=>e =.returned (.tuple #[])/\w' =w:=by
 go_enter Tryz.func82,Tryz.ntmps82
 go_wp2
 go_end0
 exact ⟨rfl,rfl⟩
theorem kt (t:Int) (ht:t≠0) (w:World):Calls Tryz.prog 82 #[.int .i64 t] w fun e w'=>e =Trp t/\w' =w:=by
 have h:(t != 0) =true:=by simpa using ht
 clear ht;go_enter Tryz.func82,Tryz.ntmps82
 go_wp2
 exact ⟨rfl,rfl,rfl⟩
theorem zch (t n:Int) (k:Value) (w:World):Calls Tryz.prog 188 #[VV t n k] w fun e w'=>e =.returned (.bool (n == 1))/\Below w.heap.size w w':=by
 go_enter Tryz.func188,Tryz.ntmps188
 go_wp2
 go_ret;exact ⟨rfl,za _ _⟩
theorem vZ (a:Option Addr) (w:World) :
  Calls Tryz.prog 83 #[.pointer a] w fun e w'=>e =.returned (.pointer (some ⟨w.heap.size+1,0,none⟩))/\w'.heap[w.heap.size+1]? =some (.cells #[.map (some w.heap.size),.pointer a] 206 (0,0))/\qs w' w.heap.size []/\Below w.heap.size w w':=by
 have b1:=za w (.map #[] 0);have b2:=za (w.alloc (.map #[] 0)) (.cells #[.map (some w.heap.size),.pointer a] 206);have hn:=heap_alloc_new (w.alloc (.map #[] 0)) (.cells #[.map (some w.heap.size),.pointer a] 206);have hm:=(qs.made w).of (b2.block _ (by simp));rw [World.size_alloc] at hn;have HN:=zz9 hn;have HM:=zz9 hm;have HB:=zz9 (zd b1 b2 b1.size);have hmm:∀ (t:TypeId) (w:World),(Instr.makeMap t none).run Tryz.prog w =.ok (.map (some w.heap.size)) (w.alloc (.map #[] 0)):=fun t w=>run_makeMap t w;clear b1 b2 hn hm;go_enter Tryz.func83,Tryz.ntmps83
 go_wp2
 go_ret;exact ⟨by first|rfl|simp,HN.out,HM.out,HB.out⟩
theorem ScAt.begin {a:Option Addr} {ms:List Nat} {env:Env} (h:ScAt n0 w (.pointer a) ms env) (hb:Below w.heap.size w w') (h1:w'.heap[w.heap.size+1]? =some (.cells #[.map (some w.heap.size),.pointer a] 206 (0,0))) (h2:qs w' w.heap.size []) (hn:n0<=w.heap.size) :
  ScAt n0 w' (.pointer (some ⟨w.heap.size+1,0,none⟩)) (w.heap.size::ms) ([]::env):=
 .cons h1 ⟨[],h2,.nil⟩ hn (fun h'=>by have:=(h.ms _ h').2.1;omega) (h.on hb)
theorem zbj {v:Va} (h:VaC w v u):∃ k A c,u =VV v.t v.n k/\k =.slice A v.s.length c/\SB w w.heap.size k v.s/\Vok v:=by
 obtain ⟨k,h1,h2,h3⟩:=h;obtain ⟨A,c,e,_⟩:=id h2;exact ⟨k,A,c,h1,e,h2,h3⟩
theorem qr {t n:Int} {k:Value} (h:w.heap[g]? =some (.cells #[.int .i64 t,.int .i64 n,k] 41 (0,0))) :
  w.cell? ⟨g,0,none⟩ =some (.int .i64 t)/\w.cell? ⟨g,1,none⟩ =some (.int .i64 n)/\w.cell? ⟨g,2,none⟩ =some k:=by
 refine ⟨?_,?_,?_⟩ <;> simp [World.cell?,h]
theorem qs.drew {b:Nat} {es:List (List Nat×Value)} (h:qs w b es):qs w.drew b es:=h.of rfl
theorem ww (X:Cx10) (c:Nat) (σ:Stt) (w:World) (b m:Nat) (ms:List Nat) (f:List (List Nat×Va)) (env:Env) (s:List Nat) (v:Va) (u:Value)
  (hr:RunS X c σ w) (hs:ScAt X.n0 w (.pointer (some ⟨b,0,none⟩)) (m::ms) (f::env)) (hg:m≠X.g) (hy:Byn s) (hv:VaC w v u) :
  Calls Tryz.prog 84 #[.pointer (some ⟨b,0,none⟩),.string (strN s),u] w fun e w'=>e =.returned (.tuple #[])/\Mv X.n0 (· =m) w w'/\ScAt X.n0 w' (.pointer (some ⟨b,0,none⟩)) (m::ms) (updF f s v::env)/\RunS X c σ w':=by
 obtain ⟨k,A,kc,rfl,rfl,hk,hfit⟩:=zbj hv;have BA:=zz9 (za w (.cells #[.int .i64 v.t,.int .i64 v.n,.slice A v.s.length kc] 41));obtain ⟨z0,z1,z2⟩:=qr (heap_alloc_new w (.cells #[.int .i64 v.t,.int .i64 v.n,.slice A v.s.length kc] 41));have HV:=zz9 (hv.on BA.out);have HR:=zz9 (hr.on BA.out);have hs0:=hs.on BA.out;clear hv hk hr hs;obtain ⟨w0,hw0⟩:∃ w0,w.alloc (.cells #[.int .i64 v.t,.int .i64 v.n,.slice A v.s.length kc] 41) =w0:=⟨_,rfl⟩;rw [hw0] at BA z0 z1 z2 HV HR hs0;have HW0:=zz9 hw0;clear hw0;cases hs0 with
 | cons hb hm h0 hne hrest=>
  obtain ⟨es,hme,hes⟩:=hm;obtain ⟨c0,c1⟩:=zcs hb;obtain ⟨w1,hup,hm1,hg1,hz1⟩:=zf2 (w:=w0.drew) hme.drew hy Tryz.underlying204 (VV v.t v.n (.slice A v.s.length kc));obtain ⟨arr,cl,ho⟩:=hme.obj;have hM0:Mv X.n0 (· =m) w0 w1:=Mv.map (w:=w0) ⟨hg1.os,hg1.tape,hg1.output,hg1.size,hg1.block⟩ ho h0 rfl;have HF:Hid (Mv X.n0 (· =m) w0 w1/\ScAt X.n0 w1 (.pointer (some ⟨b,0,none⟩)) (m::ms) (updF f s v::env)/\RunS X c σ w1):=by
   refine ⟨hM0,?_,HR.out.map (w:=w0) ⟨hg1.os,hg1.tape,hg1.output,hg1.size,hg1.block⟩ ho h0 hg⟩;refine .cons ?_ ⟨_,hm1,(hes.upd HV.out).off hM0.off⟩ h0 hne (hrest.mv hM0 fun m' h' e=>hne (by rw [<- e];exact h'));rw [hM0.keep _ (zz7.1 hb).1 (jX hb (by decide)) fun _=>⟨_,_,_,hb⟩];exact hb
  clear hM0 hm1 hg1 hz1 hes hme hrest ho;go_enter Tryz.func84,Tryz.ntmps84
  go_upto_region 1 with fail
  rw [HW0.out]
  go_region
  go_end0
  exact ⟨rfl,(Mv.of BA.out).trans (HF.out.1.less (fun _ _ h=>h)),HF.out.2.1,HF.out.2.2⟩
end
end Go.Proofs.YtcilgkdnjgmogaaGreatDoor
