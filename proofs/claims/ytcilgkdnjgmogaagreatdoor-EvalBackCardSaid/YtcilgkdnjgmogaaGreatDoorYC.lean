/- A part of the proof. -/
import Derived.Test.YtcilgkdnjgmogaaGreatDoorYB
import Derived.Deep.RegionHeld3
namespace Go.Proofs.YtcilgkdnjgmogaaGreatDoor
open Go.Proofs.Tryz
set_option maxRecDepth 100000
set_option maxHeartbeats 12800000
set_option linter.all false
variable {A:Option Addr} {B R c g i k m n p z:Nat} {D:Nat->Prop} {e:TypeId} {w w' w0 w1:World}
section
section
open Go.RowKit
def zdq:∀(ts:List Tok) (i j:Nat) (t:Tok),ts[i]? =some t->j<4->(yF ts)[i*4+j]? =(tokC t)[j]?
 | [],i,j,t,h,_=>by simp at h
 | x::ts,0,j,t,h,hj=>by
  simp at h;subst h;show(tokC x++yF ts)[0*4+j]? =_;rw[aF (by simp[tokC];omega)];simp
 | x::ts,i+1,j,t,h,hj=>by
  have ih:=zdq ts i j t (by simpa using h) hj;show(tokC x++yF ts)[(i+1)*4+j]? =_;rw[aG (by simp[tokC];omega)];rw[show(i+1)*4+j-(tokC x).length=i*4+j by simp[tokC];omega];exact ih
def zkg(w:World)(g i:Nat)(t:Tok):Prop:=
 w.cell? ⟨g,i*4,none⟩=some (.int .i64 t.kind)/\w.cell? ⟨g,i*4+1,none⟩=some (.string (strN t.aZ))/\w.cell? ⟨g,i*4+2,none⟩=some (.int .i64 t.num)/\w.cell? ⟨g,i*4+3,none⟩=some (.int .i64 t.aW)
structure Src where
 g:Option Nat
 c:Nat
 all:List Tok
 z:Nat
def Src.V(S:Src):Value:=.slice (S.g.map fun g=>⟨g,0,none⟩) S.all.length S.c
def Src.Ok(S:Src)(w:World)(R:Nat):Prop:=
 S.all.length<=S.c/\S.c<=maxLen/\(∀t∈S.all,Byn t.aZ)/\(S.g=none->S.all=[])/\∀g,S.g=some g->g<R/\∀i t,S.all[i]? =some t->zkg w g i t
def rdO(S:Src)(i:Nat):Obj:=.cells #[S.V,.int .i64 i,.int .i64 S.z] 79 (0,0)
def At(w:World)(R:Nat)(S:Src)(ts:List Tok):Prop:=
 S.Ok w R/\∃i,i<=S.all.length/\ts=S.all.drop i/\w.heap[R]? =some (rdO S i)
def zr(R:Nat)(w w':World):Prop:=w.grownBy w' (some R)
def zr.refl(R:Nat)(w:World):zr R w w:=World.grownBy.refl _ _
def zr.trans{a b c:World}(h:zr R a b)(k:zr R b c):zr R a c:=zQ h k
def zr.below{a b c:World}(h:zr R a b)(k:Below B b c)(hB:b.heap.size<=B):zr R a c:=
 h.trans ⟨k.os,k.tape,k.output,k.size,fun i hi _=>k.block i (by omega)⟩
def zr.of_below{b c:World}(k:Below B b c)(hB:b.heap.size<=B):zr R b c:=(zr.refl R b).below k hB
def zr.same(h:zr R w w')(hD:∀k,D k->k<w.heap.size/\k≠R):Same D w w':=fun k h1=>h.block k (hD k h1).1 (by intro e;injection e with e;exact(hD k h1).2 e)
def zr.cell(h:zr R w w'){a:Addr}(h1:a.block<w.heap.size)(h2:a.block≠R):w'.cell? a=w.cell? a:=yp (h.block _ h1 (by intro e;injection e;omega))
def zkg.of{t:Tok}(h:zkg w g i t)(hb:w'.heap[g]? =w.heap[g]?):zkg w' g i t:=by
 have e:∀o,w'.cell? ⟨g,o,none⟩=w.cell? ⟨g,o,none⟩:=fun o=>yp hb;unfold zkg;rw[e,e,e,e];exact h
def Src.Ok.of{S:Src}(h:S.Ok w R)(hb:∀k,k<R->w'.heap[k]? =w.heap[k]?):S.Ok w' R:=
 ⟨h.1,h.2.1,h.2.2.1,h.2.2.2.1,fun g hg=>⟨(h.2.2.2.2 g hg).1,fun i t ht=>((h.2.2.2.2 g hg).2 i t ht).of (hb g (h.2.2.2.2 g hg).1)⟩⟩
def At.lt{S:Src}{ts:List Tok}(h:At w R S ts):R<w.heap.size:=by
 obtain⟨_,i,_,_,hb⟩:=h;exact(aU.1 hb).1
def At.below{S:Src}{ts:List Tok}(h:At w R S ts)(hb:Below B w w')(hB:w.heap.size<=B):At w' R S ts:=by
 have hl:=h.lt;obtain⟨h1,i,h2,h3,h4⟩:=h;exact⟨h1.of fun k hk=>hb.block k (by omega),i,h2,h3,by rw[hb.block R (by omega)];exact h4⟩
def tokV(t:Tok):Value:=.agg (tokC t).toArray
def kl(g o:Nat):∀(cs:List Value) (w:World),Below g w (w.setCells g o cs)/\(∀k,k≠g->(w.setCells g o cs).heap[k]? =w.heap[k]?)/\(w.setCells g o cs).heap.size=w.heap.size:=by
 intro cs
 induction cs generalizing o with
 | nil=>exact fun w=>⟨Below.refl _ _,fun _ _=>rfl,rfl⟩
 | cons c cs ih=>
  intro w;have h:=ih (o+1) (w.setCell ⟨g,o,none⟩ c);refine⟨((Below.refl g w).setCell (p:=⟨g,o,none⟩) (aR _) c).trans h.1,fun k hk=>?_,h.2.2.trans (by simp[World.setCell])⟩;have h2:=h.2.1 k hk;rw[Below.heap_setCell _ _ _ _ hk]at h2;exact h2
def zc{ops:Array Oper}{rest:List Oper}{o:Oper}{a:Act}{Q:Exit->Act->World->Prop}{T n:Nat}(hi:(prog.info? T).map (·.size)=some n)(hgd:o.guard=none)(x y:Operand)(ho:o.op=.store T x y)(hd:o.dst=none)
  (g:Nat) (hx:a.eval x=.pointer (some ⟨g,0,none⟩)) (cs:List Value) (hl:cs.length=n) (hy:a.eval y=.agg cs.toArray) (ht:w.there g 0 n) (h1:∀u∈cs,u.oneCell'=true)
  (h:∀w',w'.rangeAt g 0 cs->w'.there g 0 n->Below g w w'->(∀k,k≠g->w'.heap[k]? =w.heap[k]?)->w'.heap.size=w.heap.size->wpList prog ops Q rest a w'):wpList prog ops Q (o::rest) a w:=by
 subst hl;refine wpList_store_mid hgd T x y ho g 0 cs.toArray hx hy (by simpa using ht) (by simpa using hi) (by simpa using h1) ?_;have hb:=kl g 0 cs w;have:=h (w.setCells g 0 cs) (World.rangeAt_setCells_same w g 0 _ (by simpa using ht)) (World.there_setCells ht _ _ _) hb.1 hb.2.1 hb.2.2;rw[hd];exact this
def zx{fn:Func}{s T:Nat}{d:TypeDesc}{cs:List Value}(h:fn.results=#[.cell s T])(hu:prog.underlying T=some d)(hd:d.isRow=true)(hi:(prog.info? T).map (·.size)=some cs.length)(tmps:Array Value)(w:World)(g:Nat)(hp:tmps.getD s undef=.pointer (some ⟨g,0,none⟩))(hr:w.rangeAt g 0 cs):(results fn tmps).run prog w=.ok (.agg cs.toArray) w:=by
 have hp':tmps[s]?.getD undef=.pointer (some ⟨g,0,none⟩):=by simpa using hp
 have h1:=run_loadVar_mid (P:=prog) w g 0 T cs _ hr hu hd hi;simp[results,h,hp',asAddr,h1]
def zZ{cs:List Value}{T:TypeId}(h:w.heap[g]? =some (.cells cs.toArray T (0,0))):w.rangeAt g 0 cs:=by
 intro j v hv;rw[wy _ _ _ _ _ _ h];simpa using hv
def zD{cs:List Value}{T:TypeId}(h:w.heap[g]? =some (.cells cs.toArray T (0,0)))(hn:cs.length=n):w.there g 0 n:=by
 intro j hj;constructor
 ·rw[wy _ _ _ _ _ _ h];simp;omega
 ·simp[World.frozen?,h]
def zaa:(prog.info? 134).map (·.size)=some 4:=by kernel_rfl
def zv:(prog.info? 202).map (·.size)=some 5:=by kernel_rfl
def zV:(prog.info? 145).map (·.size)=some 6:=by kernel_rfl
def zcx:(prog.info? 69).map (·.size)=some 5:=by kernel_rfl
def At.cells{S:Src}(h:w.heap[R]? =some (rdO S i)):w.cell? ⟨R,0,none⟩=some S.V/\w.cell? ⟨R,1,none⟩=some (.int .i64 i)/\w.cell? ⟨R,2,none⟩=some (.int .i64 S.z):=
 ⟨by rw[wy _ _ _ _ _ _ h];rfl,by rw[wy _ _ _ _ _ _ h];rfl,by rw[wy _ _ _ _ _ _ h];rfl⟩
def peek(R:Nat)(S:Src)(ts:List Tok)(w:World)(ha:At w R S ts):Calls prog 109 #[.pointer (some ⟨R,0,none⟩)] w fun e w'=>e=.returned (tokV (qE S.z ts))/\Below w.heap.size w w':=by
 have b0:=aQ (za w (.cells #[.int .i64 0,.string ⟨#[]⟩,.int .i64 0,.int .i64 0] 134));have ha':=ha.below b0.out (aR _);obtain⟨h1,i,h2,h3,h4⟩:=ha';obtain⟨c0,c1,c2⟩:=At.cells h4;have hc:=h1.1;have hm:=h1.2.1;have hm':=hm;unfold maxLen at hm';have hne:R≠w.heap.size:=aL ha.lt
 have HB:Hid (∀n,Below w.heap.size w ((w.alloc (.cells #[.int .i64 0,.string ⟨#[]⟩,.int .i64 0,.int .i64 0] 134)).drewN n)/\((w.alloc (.cells #[.int .i64 0,.string ⟨#[]⟩,.int .i64 0,.int .i64 0] 134)).drewN n).there w.heap.size 0 4):=fun n=>
  ⟨zW b0.out n,zD (cs:=[.int .i64 0,.string ⟨#[]⟩,.int .i64 0,.int .i64 0]) (ye w _) rfl⟩
 unfold Src.V at c0;clear ha;by_cases hi:i=S.all.length
 ·subst hi;have HT:Hid (ts=[]):=by rw[h3];simp[Hid]
  clear h1 h3 h4;go_enter func109,ntmps109
  (go_wp2_with fail);go_quiet (fail)
  go_wp2_with(refine zc zaa rfl (.tmp 2) (.tmp 17) rfl rfl w.heap.size rfl [_,_,_,_] rfl rfl (HB.out _).2 (by simp[Value.oneCell']) ?_;intro w3 g1 g2 g3 g4 g5)
  refine vS (zx (cs:=[_,_,_,_]) results109 underlying134 rfl zaa _ _ w.heap.size rfl g1) rfl ?_;exact⟨by rw[HT.out];rfl,(HB.out _).1.trans g3⟩
 ·have hlt:i<S.all.length:=by omega
  have hg:S.all[i]? =some S.all[i]:=vp hlt;have hts:ts=S.all[i]::S.all.drop (i+1):=by rw[h3,wv hlt]
  generalize S.all[i]=t at hg hts;have HT:=aQ hts;have hgo:∃g,S.g=some g:=by
   cases hgg:S.g with
   | none=>rw[h1.2.2.2.1 hgg]at hlt;simp at hlt
   | some g=>exact⟨g,rfl⟩
  obtain⟨g,hgg⟩:=hgo;have htok:=(h1.2.2.2.2 g hgg).2 i t hg;obtain⟨k0,k1,k2,k3⟩:=htok;rw[hgg]at c0;simp only[Option.map_some]at c0;have hne2:((i:Int)==(S.all.length:Int))=false:=by rw[yI];omega
  clear h1 h3 h4 hts hg hi;go_enter func109,ntmps109
  (go_wp2_with fail);go_quiet (fail)
  go_wp2_with fail
  go_region
  go_wp2;refine vS (zx (cs:=[_,_,_,_]) results109 underlying134 rfl zaa _ _ w.heap.size rfl (World.rangeAt_setCells_same _ w.heap.size 0 [_,_,_,_] (HB.out _).2)) rfl ?_;exact⟨by rw[HT.out];rfl,(HB.out _).1.trans (kl w.heap.size 0 [_,_,_,_] _).1⟩
def Lies.str{ss:List (List Nat)}(h:Lies w B A c (ss.map strV))(hk:k<ss.length):∃(ad:Addr) (x:List Nat),A=some ad/\ad.block<B/\ss[k]? =some x/\w.cell? (ad.add k)=some (.string (strN x)):=by
 have hl:ss[k]? =some ss[k]:=vp hk;obtain⟨ad,h1,h2,h3⟩:=h.2 k (strV ss[k]) (by simp[hl]);exact⟨ad,_,h1,h2,hl,h3⟩
def zu9(A:Option Addr)(ss:List (List Nat))(c B:Nat)(s:List Nat)(w:World)(hc:ss.length<=c)(hcm:c<=maxLen)(hl:Lies w B A c (ss.map strV))(hy:∀x∈ss,Byn x)(hs:Byn s):Calls prog 254 #[.slice A ss.length c,.string (strN s)] w fun e w'=>(∃k:Int,e=.returned (.int .i64 k)/\decide (k ≥ 0)=ss.contains s)/\w=w':=by
 have HL:=aQ hl;have HY:=aQ hy;have HS:=aQ hs;clear hl hy hs;unfold maxLen at hcm;go_enter func254,ntmps254;go_wp2
 go_loop [8] (fun i=>∃k:Nat,k<=ss.length/\i=.int .i64 k/\Hid (s ∉ ss.take k)) (fun i=>ss.length-(intOf i).toNat)
 case atStart=>exact⟨0,aK _,rfl,by simp[Hid]⟩
 case round=>
  obtain⟨k,hk,rfl,HR⟩:=hrel;by_cases hlt:k<ss.length
  ·obtain⟨ad,x,rfl,hB,hg,hcell⟩:=HL.out.str hlt;have H1:=aQ hg;have H3:=aQ (HY.out x (wM hg));clear hg;by_cases he:s=x
   ·have heq:=zac HS.out H3.out;rw[decide_eq_true he]at heq;have HE:=aQ he;clear he;go_wp2;go_ret;refine⟨⟨_,rfl,?_⟩,rfl⟩;have:x∈ss:=wM H1.out;rw[HE.out];simp[this]
   ·have heq:=zac HS.out H3.out;rw[decide_eq_false he]at heq;have HE:=aQ he;clear he;go_wp2
    go_round
    case rel=>
     refine⟨k+1,by omega,by go_num,?_⟩;have h1:=HR.out;have h2:=HE.out;show s ∉ ss.take (k+1);rw[List.take_add_one,H1.out];simp[h1,h2]
    case measure=>simp[intOf];omega
  ·obtain rfl:k=ss.length:=by omega
   go_wp2;go_ret;refine⟨⟨_,rfl,?_⟩,rfl⟩;have h1:=HR.out;rw[List.take_length]at h1;simp[h1]
def zob(A:Option Addr)(ss:List (List Nat))(c B:Nat)(s:List Nat)(w:World)(hc:ss.length<=c)(hcm:c<=maxLen)(hl:Lies w B A c (ss.map strV))(hy:∀x∈ss,Byn x)(hs:Byn s):Calls prog 217 #[.slice A ss.length c,.string (strN s)] w fun e w'=>e=.returned (.bool (ss.contains s))/\w=w':=by
 have K:=aQ (zu9 A ss c B s w hc hcm hl hy hs);clear hl hy hs hcm
 generalize ss.contains s=b at *
 go_enter func217,ntmps217
 go_wp2_with(go_at_call 254;refine K.out.mono ?_;rintro e w' ⟨⟨k,rfl,hk⟩,rfl⟩)
 go_ret;exact⟨rfl,rfl⟩
def zpk(t:Tok)(A:Option Addr)(ss:List (List Nat))(c:Nat)(w:World)(hc:ss.length<=c)(hcm:c<=maxLen)(hl:Lies w w.heap.size A c (ss.map strV))(hy:∀x∈ss,Byn x)(ht:Byn t.aZ):Calls prog 181 #[tokV t,.slice A ss.length c] w fun e w'=>e=.returned (.bool (zcf ss t))/\Below w.heap.size w w':=by
 have b0:=aQ (za w (.cells (tokC t).toArray 134));have K:=aQ (zob A ss c w.heap.size t.aZ (w.alloc (.cells (tokC t).toArray 134)) hc hcm (hl.below b0.out) hy ht);clear hl hy ht hcm;have HI:Hid (zcf ss t=(decide (t.kind=4)&&ss.contains t.aZ)):=rfl
 generalize ss.contains t.aZ=b at *
 unfold tokV
 simp only[tokC,List.toArray]at *
 by_cases h4:t.kind=4
 ·have h4':((t.kind:Int)==4)=true:=by rw[beq_iff_eq];omega
  have H4:=aQ h4;clear h4;go_enter func181,ntmps181
  go_wp2_with(go_at_call 217;refine K.out.mono ?_;rintro e w' ⟨rfl,rfl⟩)
  go_ret;exact⟨qP (by rw[HI.out,H4.out];rfl),b0.out⟩
 ·have h4':((t.kind:Int)==4)=false:=by rw[yI];omega
  have H4:=aQ h4;clear h4;go_enter func181,ntmps181;go_wp2;go_ret;exact⟨qP (by rw[HI.out,decide_eq_false H4.out];rfl),b0.out⟩
def zog{S:Src}{ts:List Tok}(ha:At w R S ts):Byn (qE S.z ts).aZ:=by
 obtain⟨h1,i,h2,rfl,h4⟩:=ha;cases hd:S.all.drop i with
 | nil=>intro b hb;simp[qE,zov]at hb
 | cons t r=>exact h1.2.2.1 t (List.mem_of_mem_drop (by rw[hd];simp))
def sees(R:Nat)(S:Src)(ts:List Tok)(A:Option Addr)(ss:List (List Nat))(c:Nat)(w:World)(ha:At w R S ts)(hc:ss.length<=c)(hcm:c<=maxLen)(hl:Lies w w.heap.size A c (ss.map strV))(hy:∀x∈ss,Byn x):Calls prog 145 #[.pointer (some ⟨R,0,none⟩),.slice A ss.length c] w fun e w'=>e=.returned (.bool (zC S.z ss ts))/\Below w.heap.size w w':=by
 have K:=aQ (peek R S ts w ha)
 have HK:Hid (∀w1,Below w.heap.size w w1->Calls prog 181 #[tokV (qE S.z ts),.slice A ss.length c] w1 fun e w'=>e=.returned (.bool (zC S.z ss ts))/\Below w1.heap.size w1 w'):=fun w1 hb=>
  zpk (qE S.z ts) A ss c w1 hc hcm ((hl.below hb).more hb.size) hy (zog ha)
 clear hl hy ha hcm
 generalize zC S.z ss ts=b at *
 generalize tokV (qE S.z ts)=tv at *
 go_enter func145,ntmps145
 go_wp2_with fail
 refine K.out.mono ?_;rintro e w1 ⟨rfl,h1⟩;have K2:=aQ (HK.out w1 h1);have H1:=aQ h1;clear h1
 go_wp2_with(go_at_call 181;refine K2.out.mono ?_;rintro e w' ⟨rfl,h2⟩)
 go_ret;exact⟨rfl,H1.out.trans (h2.mono H1.out.size)⟩
abbrev zjy(c p:Nat):Ending:=.panicked [{ v:=.iface 75 (.agg #[.int .i64 c,.int .i64 p]),recovered:=false }]
def kT(w:World)(t:Tok):(Instr.field 134 (.agg #[.int .i64 t.kind,.string (strN t.aZ),.int .i64 t.num,.int .i64 t.aW]) 3).run prog w=.ok (.int .i64 t.aW) w/\(Instr.field 134 (.agg #[.int .i64 t.kind,.string (strN t.aZ),.int .i64 t.num,.int .i64 t.aW]) 1).run prog w=.ok (.string (strN t.aZ)) w:=by
 constructor<;>simp[Instr.field,asAgg,go_sem]
def fail(R:Nat)(S:Src)(ts:List Tok)(c:Nat)(w:World)(ha:At w R S ts):Calls prog 143 #[.pointer (some ⟨R,0,none⟩),.int .i64 c] w fun e w'=>e=zjy c (qE S.z ts).aW/\Below w.heap.size w w':=by
 have K:=aQ (peek R S ts w ha);clear ha
 generalize qE S.z ts=t at *
 simp only[tokV,tokC]at K;have hf:=fun w'=>(kT w' t).1;go_enter func143,ntmps143
 go_wp2_with(go_at_call 109;refine K.out.mono ?_;rintro e w' ⟨rfl,h2⟩)
 exact⟨rfl,rfl,h2⟩
def zab(w:World)(ss:List (List Nat)):Lies (w.alloc (.cells (ss.map strV).toArray 9)) (w.alloc (.cells (ss.map strV).toArray 9)).heap.size (some ⟨w.heap.size,0,none⟩) ss.length (ss.map strV):=by
 refine⟨(fun e=>by cases e),fun j u hu=>⟨_,rfl,by simp,?_⟩⟩;have hb:(w.alloc (.cells (ss.map strV).toArray 9)).heap[w.heap.size]? =some (.cells (ss.map strV).toArray 9):=ye w _;rw[Addr.add_lit,wy _ _ _ _ _ _ hb];simpa using hu
def jC(R:Nat)(S:Src)(ts:List Tok)(ss:List (List Nat))(w:World)(cs:Array Value)(hcs:cs=(ss.map strV).toArray)(n:Nat)(hn:n=ss.length)(hn2:n<100)(ha:At w R S ts)(hy:∀x∈ss,Byn x):Calls prog 145 #[.pointer (some ⟨R,0,none⟩),.slice (some ⟨w.heap.size,0,none⟩) n n] (w.alloc (.cells cs 9)) fun e w'=>e=.returned (.bool (zC S.z ss ts))/\Below w.heap.size w w'/\At w' R S ts:=by
 subst hcs hn;have b0:=za w (.cells (ss.map strV).toArray 9);refine(sees R S ts _ ss ss.length _ (ha.below b0 (aR _)) (aR _) (by unfold maxLen;omega) (zab w ss) hy).mono ?_;rintro e w' ⟨h1,h2⟩;have h3:=b0.trans (h2.mono b0.size);exact⟨h1,h3,ha.below h3 (aR _)⟩
def At.step{S:Src}{ts:List Tok}(ha:At w R S ts)(hk:(qE S.z ts).kind=k)(h0:0<k):∃i:Nat,w.cell? ⟨R,1,none⟩=some (.int .i64 i)/\w.frozen? ⟨R,1,none⟩=false/\i<2 ^ 63-1/\At (w.setCell ⟨R,1,none⟩ (.int .i64 ((i:Int)+1))) R S ts.tail/\zr R w (w.setCell ⟨R,1,none⟩ (.int .i64 ((i:Int)+1))):=by
 have hl:=ha.lt;obtain⟨h1,i,h2,h3,h4⟩:=ha;have hlt:i<S.all.length:=by
  cases ts with
  | nil=>simp[qE,zov]at hk;omega
  | cons t r=>
   have:=congrArg List.length h3;simp at this;omega
 have hm:=h1.2.1;have hc:=h1.1;unfold maxLen at hm;have hs:(w.setCell ⟨R,1,none⟩ (.int .i64 ((i:Int)+1))).heap[R]? =some (rdO S (i+1)):=by
  simp only[World.setCell,Array.getElem?_modify,if_true];rw[h4];rfl
 refine⟨i,(At.cells h4).2.1,by simp[World.frozen?,h4,rdO],by omega,⟨h1.of fun k hk=>Below.heap_setCell _ _ _ _ (by show k≠R;omega),i+1,by omega,?_,hs⟩,⟨rfl,rfl,rfl,by simp[World.setCell],fun k _ hr=>Below.heap_setCell _ _ _ _ (by intro e;exact hr (by rw[e]))⟩⟩;rw[h3,List.tail_drop]
def vY{ss:List (List Nat)}{ts:List Tok}(h:zC z ss ts=true):(qE z ts).kind=4:=by
 unfold zC zcf at h;simp at h;exact h.1
def xA(R:Nat)(S:Src)(ts:List Tok)(s:List Nat)(sv:ByteArray)(w:World)(ha:At w R S ts)(hs:sv=strN s)(hy:Byn s):Calls prog 115 #[.pointer (some ⟨R,0,none⟩),.string sv] w fun e w'=>e=.returned (.bool (zC S.z [s] ts))/\zr R w w'/\At w' R S (bif zC S.z [s] ts then ts.tail else ts):=by
 have K:=aQ (jC R S ts [s] w #[.string sv] (by rw[hs];rfl) 1 rfl (by omega) ha (by simpa using hy));have HK:Hid (zC S.z [s] ts=true->(qE S.z ts).kind=4):=vY;clear hs hy ha
 generalize zC S.z [s] ts=b at *
 cases b with
 | false=>
  go_enter func115,ntmps115
  go_wp2_with(go_at_call 145;refine K.out.mono ?_;rintro e w' ⟨rfl,h2,h3⟩)
  go_ret;exact⟨rfl,zr.of_below h2 (aR _),h3⟩
 | true=>
  go_enter func115,ntmps115
  (go_wp2_with fail);refine K.out.mono ?_;rintro e w1 ⟨rfl,h2,h3⟩;obtain⟨i,c1,f1,hi,h4,h5⟩:=h3.step (HK.out trivial) (by omega);have H2:=aQ h2;have H4:=aQ h4;have H5:=aQ h5;clear h2 h3 h4 h5
  go_wp2;go_ret;exact⟨rfl,(zr.of_below H2.out (aR _)).trans H5.out,H4.out⟩
def Got{α:Type}(R:Nat)(S:Src)(Q:World->α->Value->Prop)(w:World)(m:Res α)(e:Ending)(w':World):Prop:=
 zr R w w'/\((∃v r x,m=.ok v r/\e=.returned x/\Q w' v x/\At w' R S r)\/(∃c p,m=.bad c p/\e=zjy c p))
def Got.ok{α:Type}{S:Src}{Q:World->α->Value->Prop}{m:Res α}{v:α}{r:List Tok}{x:Value}(hm:zr R w w')(hr:m=.ok v r)(hq:Q w' v x)(ha:At w' R S r):Got R S Q w m (.returned x) w':=
 ⟨hm,.inl ⟨v,r,x,hr,rfl,hq,ha⟩⟩
def Got.bad{α:Type}{S:Src}{Q:World->α->Value->Prop}{m:Res α}(hm:zr R w w')(hr:m=.bad c p):Got R S Q w m (zjy c p) w':=
 ⟨hm,.inr ⟨c,p,hr,rfl⟩⟩
def QU(_:World)(_:Unit)(x:Value):Prop:=x=.tuple #[]
def QT(_:World)(t:Tok)(x:Value):Prop:=x=tokV t
def QS(_:World)(s:List Nat)(x:Value):Prop:=x=.string (strN s)
def QN(_:World)(n:Nat)(x:Value):Prop:=x=.int .i64 n
def want(R:Nat)(S:Src)(ts:List Tok)(s:List Nat)(sv:ByteArray)(w:World)(ha:At w R S ts)(hs:sv=strN s)(hy:Byn s):Calls prog 110 #[.pointer (some ⟨R,0,none⟩),.string sv] w (Got R S QU w (qt S.z s ts)):=by
 have K:=aQ (xA R S ts s sv w ha hs hy);have HW:Hid (qt S.z s ts=if zC S.z [s] ts then .ok () ts.tail else yG S.z 41 ts):=rfl;clear hs hy ha
 generalize qt S.z s ts=m at *
 generalize zC S.z [s] ts=b at *
 cases b with
 | true=>
  go_enter func110,ntmps110
  go_wp2_with(go_at_call 115;refine K.out.mono ?_;rintro e w' ⟨rfl,h2,h3⟩)
  refine vS (results_none rfl _ _ _) rfl ?_;exact .ok h2 (by rw[HW.out];rfl) rfl h3
 | false=>
  go_enter func110,ntmps110
  (go_wp2_with fail);refine K.out.mono ?_;rintro e w1 ⟨rfl,h2,h3⟩;have K2:=aQ (fail R S ts 41 w1 h3);have H2:=aQ h2;clear h2 h3
  go_wp2_with(go_at_call 143;refine K2.out.mono ?_;rintro e w' ⟨rfl,h2⟩)
  refine⟨rfl,?_⟩;exact .bad (H2.out.below h2 (aR _)) (by rw[HW.out];rfl)
def zcl(R:Nat)(d:Nat)(w:World)(hd:d<=32):Calls prog 146 #[.pointer (some ⟨R,0,none⟩),.int .i64 d] w fun e w'=>e=.returned (.tuple #[])/\w=w':=by
 go_enter func146,ntmps146;go_wp2
 go_end0
 exact⟨rfl,rfl⟩
def zah(R:Nat)(S:Src)(ts:List Tok)(w:World)(ha:At w R S ts)(d:Nat)(hd:32<d):Calls prog 146 #[.pointer (some ⟨R,0,none⟩),.int .i64 d] w fun e w'=>e=zjy 42 (qE S.z ts).aW/\Below w.heap.size w w':=by
 have K:=aQ (fail R S ts 42 w ha);clear ha;go_enter func146,ntmps146
 go_wp2_with(go_at_call 143;refine K.out.mono ?_;rintro e w' ⟨rfl,h2⟩)
 exact⟨rfl,rfl,h2⟩
def zr.low{a b c:World}(h:zr R a b)(k:Below B b c)(hB:a.heap.size<=B):zr R a c:=
 ⟨k.os.trans h.os,k.tape.trans h.tape,k.output.trans h.output,aT h.size k.size,fun i hi hr=>(k.block i (by omega)).trans (h.block i hi hr)⟩
def At.other{S:Src}{ts:List Tok}(h:At w R S ts)(hg:R<g)(ho:∀k,k≠g->w'.heap[k]? =w.heap[k]?):At w' R S ts:=by
 obtain⟨h1,i,h2,h3,h4⟩:=h;exact⟨h1.of fun k hk=>ho k (by omega),i,h2,h3,by rw[ho R (by omega)];exact h4⟩
def take(R:Nat)(S:Src)(ts:List Tok)(k:Nat)(w:World)(ha:At w R S ts)(hk:0<k):Calls prog 144 #[.pointer (some ⟨R,0,none⟩),.int .i64 k] w (Got R S QT w (ju S.z k ts)):=by
 have b0:=aQ (za w (.cells #[.int .i64 0,.string ⟨#[]⟩,.int .i64 0,.int .i64 0] 134));have hn:=aQ (ye w (.cells #[.int .i64 0,.string ⟨#[]⟩,.int .i64 0,.int .i64 0] 134));have HA:=aQ (ha.below b0.out (aR _));have HL:=aQ ha.lt;have K:=aQ (peek R S ts _ HA.out);have HW:Hid (ju S.z k ts=if(qE S.z ts).kind=k then .ok (qE S.z ts) ts.tail else yG S.z 41 ts):=rfl;clear ha;go_enter func144,ntmps144
 go_wp2_with fail
 generalize w.alloc (.cells #[.int .i64 0,.string ⟨#[]⟩,.int .i64 0,.int .i64 0] 134)=w0 at *
 refine K.out.mono ?_;rintro e w1 ⟨rfl,h2⟩;have H1:=aQ (HA.out.below h2 (aR _));have B1:=aQ (b0.out.trans (h2.mono b0.out.size));have hw1:w1.heap[w.heap.size]? =some (.cells #[.int .i64 0,.string ⟨#[]⟩,.int .i64 0,.int .i64 0] 134 (0,0)):=by
  rw[h2.block _ (lt_of_block hn.out)];exact hn.out
 have hlt:=lt_of_block hw1;have HN:=aQ hw1;clear h2 K hw1;simp only[tokV,tokC];have HP:=aQ (rfl:qE S.z ts=qE S.z ts);generalize hpt:qE S.z ts=t at HW HP⊢;have HPT:=aQ hpt;clear hpt;have b2:=aQ (za w1 (.cells #[.int .i64 t.kind,.string (strN t.aZ),.int .i64 t.num,.int .i64 t.aW] 134));have A2:=aQ (H1.out.below b2.out (aR _));have hne:w.heap.size≠w1.heap.size:=aL hlt;have N2:=aQ (b2.out.block w.heap.size hlt);by_cases hkk:t.kind=k
 ·have hkb:((t.kind:Int)!=(k:Int))=false:=by simp[hkk]
  have HW2:Hid (ju S.z k ts=.ok t ts.tail):=by show _=_;rw[HW.out,if_pos hkk]
  obtain⟨i,c1,f1,hi,h4,h5⟩:=A2.out.step (k:=k) (by rw[HPT.out];exact hkk) hk;have H4:=aQ h4;have H5:=aQ h5;have hRne:R≠w1.heap.size:=aL H1.out.lt;have hth:Hid ((((w1.alloc (.cells #[.int .i64 t.kind,.string (strN t.aZ),.int .i64 t.num,.int .i64 t.aW] 134))).setCell ⟨R,1,none⟩ (.int .i64 ((i:Int)+1))).there w.heap.size 0 4):=by
   refine zD (cs:=[.int .i64 0,.string ⟨#[]⟩,.int .i64 0,.int .i64 0]) (T:=134) ?_ rfl;rw[Below.heap_setCell _ _ _ _ (by show w.heap.size≠R;have:=HL.out;omega),N2.out,HN.out]
  clear h4 h5 hkk
  go_wp2_with(refine zc zaa rfl (.tmp 4) (.tmp 21) rfl rfl w.heap.size rfl [_,_,_,_] rfl rfl hth.out (by simp[Value.oneCell']) ?_;intro w3 g1 g2 g3 g4 g5)
  refine vS (zx (cs:=[_,_,_,_]) results144 underlying134 rfl zaa _ _ w.heap.size rfl g1) rfl ?_;exact .ok ((((zr.of_below B1.out (aR _)).below b2.out (aR _)).trans H5.out).low g3 (aR _)) HW2.out rfl (H4.out.other HL.out g4)
 ·have hkb:((t.kind:Int)!=(k:Int))=true:=by rw[bne_iff_ne];omega
  have HW2:Hid (ju S.z k ts=.bad 41 t.aW):=by show _=_;rw[HW.out,if_neg hkk];unfold yG;rw[HPT.out]
  have K2:=aQ (fail R S ts 41 _ A2.out);rw[HPT.out]at K2;clear hkk
  go_wp2_with(go_at_call 143;refine K2.out.mono ?_;rintro e w' ⟨rfl,h2⟩)
  exact⟨rfl,.bad (((zr.of_below B1.out (aR _)).below b2.out (aR _)).below h2 (aR _)) HW2.out⟩
def name(R:Nat)(S:Src)(ts:List Tok)(w:World)(ha:At w R S ts):Calls prog 111 #[.pointer (some ⟨R,0,none⟩)] w (Got R S QS w (yE S.z ts)):=by
 have K:=aQ (take R S ts 1 w ha (by omega));have HW:Hid (yE S.z ts=(ju S.z 1 ts).bind fun t r=>.ok t.aZ r):=rfl
 generalize yE S.z ts=m at *
 generalize ju S.z 1 ts=m1 at *
 clear ha;go_enter func111,ntmps111
 go_wp2_with fail
 refine K.out.mono ?_;rintro e w1 ⟨hm,⟨t,r,x,rfl,rfl,hq,ha⟩|⟨c,p,rfl,rfl⟩⟩
 ·have HQ:Hid (zr R w w1/\At w1 R S r):=⟨hm,ha⟩;have hf:=fun w'=>(kT w' t).2;subst hq;clear hm ha K;simp only[tokV,tokC];go_wp2;go_ret;exact .ok HQ.out.1 HW.out rfl HQ.out.2
 ·have HQ:=aQ hm;clear hm K;go_wp2;exact⟨rfl,.bad HQ.out HW.out⟩
def EntC(fn:Nat):Prop:=∀(args:Array Value) (w:World),(callFunc fn args).run prog w=.ok (.enter fn args) w
def QE(lo:Nat)(w:World)(e:Ex)(x:Value):Prop:=ExV w (Rng lo w.heap.size) e x
def QD(D:Nat->Prop)(lo:Nat)(w:World)(e:Ex)(x:Value):Prop:=ExV w (fun k=>D k\/Rng lo w.heap.size k) e x
def yY(R:Nat)(S:Src)(fn:Nat)(caps:Array Value)(p:Par Ex)(w0:World):Prop:=
 EntC fn/\∀w ts,zr R w0 w->At w R S ts->Calls prog fn caps w (Got R S (QE w.heap.size) w (p ts))
def yY.later{S:Src}{fn:Nat}{caps:Array Value}{p:Par Ex}(h:yY R S fn caps p w0)(hm:zr R w0 w1):yY R S fn caps p w1:=
 ⟨h.1,fun w ts h1 h2=>h.2 w ts (hm.trans h1) h2⟩
def zff(tb bb:Nat)(t:Tok)(cs:List Value)(w:World):Prop:=
 w.cell? ⟨tb,1,none⟩=some (.string (strN t.aZ))/\w.cell? ⟨tb,3,none⟩=some (.int .i64 t.aW)/\w.rangeAt bb 0 cs
def zff.of{tb bb:Nat}{t:Tok}{cs:List Value}(h:zff tb bb t cs w)(h1:w'.heap[tb]? =w.heap[tb]?)(h2:w'.heap[bb]? =w.heap[bb]?):zff tb bb t cs w':=
 ⟨by rw[yp (a:=⟨tb,1,none⟩) h1];exact h.1,by rw[yp (a:=⟨tb,3,none⟩) h1];exact h.2.1,fun j v hv=>by rw[yp (a:=⟨bb,0+j,none⟩) h2];exact h.2.2 j v hv⟩
def zR{e:Ex}{v:Value}(h:ExV w D e v):∃k,v=.agg #[.int .i64 e.op,.int .i64 e.num,.string (strN e.aZ),k,.int .i64 e.aW]/\ExsC w D e.aX k/\k.oneCell'=true:=by
 obtain⟨k,h1,h2⟩:=h;refine⟨k,h1,h2,?_⟩;cases h2 with
 | mk l ks V hk hr _=>
  obtain⟨A,c,rfl,_⟩:=hr;rfl
def yP{S:Src}{ts:List Tok}(ha:At w R S ts)(a b:Obj):At ((w.alloc a).alloc b) R S ts/\Below w.heap.size w ((w.alloc a).alloc b)/\((w.alloc a).alloc b).heap[w.heap.size]? =some a/\((w.alloc a).alloc b).heap[w.heap.size+1]? =some b/\((w.alloc a).alloc b).heap.size=w.heap.size+2:=by
 have hb:=wG (Below.refl w.heap.size w) (aR _) a b;refine⟨ha.below hb (aR _),hb,?_,?_,by simp⟩
 ·rw[Below.heap_alloc _ _ _ (by simp)];exact ye w a
 ·have:=ye (w.alloc a) b;simpa using this
def zr.block'(h:zr R w w')(h1:k<w.heap.size)(h2:k≠R):w'.heap[k]? =w.heap[k]?:=h.block k h1 (by intro e;injection e;omega)
abbrev exO(x:Ex)(k:Value):Obj:=.cells #[.int .i64 x.op,.int .i64 x.num,.string (strN x.aZ),k,.int .i64 x.aW] 202
abbrev tokO(t:Tok):Obj:=.cells #[.int .i64 t.kind,.string (strN t.aZ),.int .i64 t.num,.int .i64 t.aW] 134
def zlp{b:Nat}(h:w.heap[b]? =some (.cells #[.int .i64 0,.int .i64 0,.string ⟨#[]⟩,.slice none 0 0,.int .i64 0] 202)):(w.cell? ⟨b,0,none⟩=some (.int .i64 0)/\w.cell? ⟨b,1,none⟩=some (.int .i64 0)/\w.cell? ⟨b,2,none⟩=some (.string ⟨#[]⟩)/\w.cell? ⟨b,3,none⟩=some (.slice none 0 0)/\w.cell? ⟨b,4,none⟩=some (.int .i64 0)) /\
  (w.frozen? ⟨b,0,none⟩=false/\w.frozen? ⟨b,1,none⟩=false/\w.frozen? ⟨b,2,none⟩=false/\w.frozen? ⟨b,3,none⟩=false/\w.frozen? ⟨b,4,none⟩=false):=by
 have c:∀j,w.cell? ⟨b,j,none⟩=#[Value.int .i64 0,.int .i64 0,.string ⟨#[]⟩,.slice none 0 0,.int .i64 0][j]?:=fun j=>wy _ _ _ _ _ _ h;have f:∀j,w.frozen? ⟨b,j,none⟩=false:=fun j=>by simp[World.frozen?,h]
 exact⟨⟨c 0,c 1,c 2,c 3,c 4⟩,f 0,f 1,f 2,f 3,f 4⟩
def zqh{b:Nat}{x y:Ex}{k k2:Value}(hb:w'.heap[b]? =some (.cells #[.int .i64 x.op,.int .i64 x.num,.string (strN x.aZ),k,.int .i64 x.aW,.int .i64 y.op,.int .i64 y.num,.string (strN y.aZ),k2,.int .i64 y.aW] 202))(hlo:D b)
  (hx:ExsC w' D x.aX k) (hy:ExsC w' D y.aX k2):ExsC w' D [x,y] (.slice (some ⟨b,0,none⟩) 2 2):=by
 refine .mk [x,y] [k,k2] _ rfl ⟨_,_,rfl,aR _,by unfold maxLen;simp,(fun e=>by cases e),fun j u hu=>⟨_,rfl,hlo,?_⟩⟩ fun i e q he hq=>?_
 ·rw[Addr.add_lit,wy _ _ _ _ _ _ hb,Nat.zero_add];simpa[exsC,exC]using hu
 ·rcases i with _|_|i
  ·simp at he hq;subst he hq;exact hx
  ·simp at he hq;subst he hq;exact hy
  ·simp at he
def zpc(R:Nat)(S:Src)(ts:List Tok)(fn:Nat)(caps:Array Value)(p:Par Ex)(D:Nat->Prop)(x:Ex)(lv:Value)(w:World)(ha:At w R S ts)(hp:yY R S fn caps p w)(hD:∀k,D k->k<w.heap.size/\k≠R)(hx:ExV w D x lv):Calls prog 283 #[.pointer (some ⟨R,0,none⟩),lv,.func (.func fn) #[] caps] w (Got R S (QD D w.heap.size) w (xN S.z p x ts)):=by
 obtain⟨k,rfl,hk,hk1⟩:=zR hx;clear hx;have he:=hp.1;unfold EntC at he;have HP:=aQ hp.2;have HX:=aQ hk;have HO:=aQ (yP ha (exO x k) (.cells #[.int .i64 0,.int .i64 0,.string ⟨#[]⟩,.slice none 0 0,.int .i64 0] 202));have hRw:=ha.lt;have K:=aQ (take R S ts 4 _ HO.out.1 (by omega));have HW:Hid (xN S.z p x ts=(ju S.z 4 ts).bind fun t r=>(p r).bind fun y r'=>.ok (.mk 6 0 t.aZ [x,y] t.aW) r'):=rfl;clear ha hp hk
 generalize xN S.z p x ts=m at *
 generalize ju S.z 4 ts=m1 at *
 go_enter func283,ntmps283
 go_wp2_with fail
 generalize((w.alloc (exO x k)).alloc (.cells #[.int .i64 0,.int .i64 0,.string ⟨#[]⟩,.slice none 0 0,.int .i64 0] 202))=w0 at *
 refine K.out.mono ?_;rintro e w1 ⟨hm,⟨t,r,xv,rfl,rfl,hq,ha1⟩|⟨c,q,rfl,rfl⟩⟩
 ·have s0:=HO.out.2.2.2.2;have s1:=hm.size;have n0:w1.heap[w.heap.size]? =some (exO x k):=by rw[hm.block' (by omega) (by omega)];exact HO.out.2.2.1
  have n1:w1.heap[w.heap.size+1]? =some (.cells #[.int .i64 0,.int .i64 0,.string ⟨#[]⟩,.slice none 0 0,.int .i64 0] 202):=by rw[hm.block' (by omega) (by omega)];exact HO.out.2.2.2.1
  have HM:=aQ ((zr.of_below (R:=R) HO.out.2.1 (aR _)).trans hm);have bt:=za w1 (tokO t);have N0:Hid ((w1.alloc (tokO t)).heap[w.heap.size]? =some (exO x k)):=by show _=_;rw[bt.block _ (by omega)];exact n0
  have N1:Hid ((w1.alloc (tokO t)).heap[w.heap.size+1]? =some (.cells #[.int .i64 0,.int .i64 0,.string ⟨#[]⟩,.slice none 0 0,.int .i64 0] 202)):=by show _=_;rw[bt.block _ (by omega)];exact n1
  have N2:=aQ (ye w1 (tokO t));have A2:=aQ (ha1.below bt (aR _));have M2:=aQ (HM.out.below bt (aR _));have S2:(w1.alloc (tokO t)).heap.size=w1.heap.size+1:=by simp
  subst hq;clear hm ha1 K n0 n1 bt HO;simp only[tokV,tokC]
  go_wp2_with fail
  generalize w1.alloc (tokO t)=wt at *
  have HS:Hid (zff w1.heap.size w.heap.size t [.int .i64 x.op,.int .i64 x.num,.string (strN x.aZ),k,.int .i64 x.aW] wt):=
   ⟨by rw[wy _ _ _ _ _ _ N2.out];rfl,by rw[wy _ _ _ _ _ _ N2.out];rfl,zZ (cs:=[_,_,_,_,_]) N0.out⟩
  have HSd:Hid (∀w',zff w1.heap.size w.heap.size t [.int .i64 x.op,.int .i64 x.num,.string (strN x.aZ),k,.int .i64 x.aW] w'->w'.cell? ⟨w1.heap.size,1,none⟩=some (.string (strN t.aZ))/\w'.cell? ⟨w1.heap.size,3,none⟩=some (.int .i64 t.aW)):=fun w' h=>⟨h.1,h.2.1⟩;refine wp_region_held_drew (S:=zff w1.heap.size w.heap.size t [.int .i64 x.op,.int .i64 x.num,.string (strN x.aZ),k,.int .i64 x.aW]) (by kernel_rfl) (HS.out.of rfl rfl) (fun hHeld=>?_);refine aO 0 ?_
  try simp only[Act.put,zzs]
  refine zz8 1 ?v1 rfl (fun _ _ _ h=>h) ?y1 ?r1
  case y1=>(intro w hSw;obtain⟨q1,q2⟩:=HSd.out _ hSw;(try dsimp only at hSw);go_simp;(try with_reducible rfl))
  try simp only[Act.put,zzs]
  refine wpAnyH_take (i:=2) (v:=.agg #[.int .i64 x.op,.int .i64 x.num,.string (strN x.aZ),k,.int .i64 x.aW]) rfl (by kernel_rfl) (by kernel_rfl) (by kernel_rfl) (fun _ _ _ h=>h) (yieldsIf_load_mid (by kernel_rfl) 202 (.tmp 4) rfl w.heap.size 0 rfl _ _ (fun w' h=>h.2.2) underlying202 rfl zv) (by assumption) ?r2
  try simp only[Act.put,zzs]
  refine aO 3 ?_
  try simp only[Act.put,zzs]
  refine aO 6 ?_
  try simp only[Act.put,zzs]
  refine zz8 7 ?v7 rfl (fun _ _ _ h=>h) ?y7 ?r7
  case y7=>(intro w hSw;obtain⟨q1,q2⟩:=HSd.out _ hSw;(try dsimp only at hSw);go_simp;(try with_reducible rfl))
  try simp only[Act.put,zzs]
  have K2:=aQ (HP.out wt.drew r (M2.out.trans ⟨rfl,rfl,rfl,aR _,fun _ _ _=>rfl⟩) (A2.out.below ((Below.refl wt.heap.size wt).drew) (aR _)));refine aa 4 rfl fun K hK=>?_;go_simp;refine K2.out.mono ?_;clear K2;rintro e w2 ⟨hm2,⟨y,r',yv,hr',rfl,hqy,ha2⟩|⟨c,q,hr',rfl⟩⟩
  ·obtain⟨k2,rfl,hk2,hk21⟩:=zR hqy;clear hqy;have s2:=hm2.size;have s2':wt.heap.size<=w2.heap.size:=s2;have HM2:=aQ (M2.out.trans (zr.trans (b:=wt.drew) ⟨rfl,rfl,rfl,aR _,fun _ _ _=>rfl⟩ hm2));have kb:∀b,b<wt.heap.size->b≠R->w2.heap[b]? =wt.heap[b]?:=fun b h1 h2=>hm2.block' (w:=wt.drew) h1 h2;have hS2:zff w1.heap.size w.heap.size t [.int .i64 x.op,.int .i64 x.num,.string (strN x.aZ),k,.int .i64 x.aW] w2:=HS.out.of (kb _ (by omega) (by omega)) (kb _ (by omega) (by omega));have HN:=aQ ((kb (w.heap.size+1) (by omega) (by omega)).trans N1.out);have HA2:=aQ ha2;have HK2:=aQ hk2;have HR:=aQ hr';clear hm2 ha2 hk2 hr' kb hHeld;refine hK.out _ _ hS2 (fun hHeld=>?_);clear hK K;refine aa 5 rfl fun K hK=>?_;go_simp;have bz:=za w2 (.cells #[.int .i64 x.op,.int .i64 x.num,.string (strN x.aZ),k,.int .i64 x.aW,.int .i64 y.op,.int .i64 y.num,.string (strN y.aZ),k2,.int .i64 y.aW] 202);have HZ:=aQ (ye w2 (.cells #[.int .i64 x.op,.int .i64 x.num,.string (strN x.aZ),k,.int .i64 x.aW,.int .i64 y.op,.int .i64 y.num,.string (strN y.aZ),k2,.int .i64 y.aW] 202));have hS3:=hS2.of (bz.block w1.heap.size (by omega)) (bz.block w.heap.size (by omega));have HN3:=aQ ((bz.block (w.heap.size+1) (by omega)).trans HN.out);have A3:=aQ (HA2.out.below bz (aR _));have M3:=aQ (HM2.out.below bz (aR _));have sz:(w2.alloc (.cells #[.int .i64 x.op,.int .i64 x.num,.string (strN x.aZ),k,.int .i64 x.aW,.int .i64 y.op,.int .i64 y.num,.string (strN y.aZ),k2,.int .i64 y.aW] 202)).heap.size=w2.heap.size+1:=by simp
   have X3:=aQ ((HX.out.same (HM2.out.same hD)).same (fun q h1=>bz.block q (aS (hD q h1).1 HM2.out.size)));have Y3:=aQ (HK2.out.same (fun q h1=>bz.block q h1.2))
   generalize(w2.alloc (.cells #[.int .i64 x.op,.int .i64 x.num,.string (strN x.aZ),k,.int .i64 x.aW,.int .i64 y.op,.int .i64 y.num,.string (strN y.aZ),k2,.int .i64 y.aW] 202))=wz at *
   refine hK.out _ _ hS3 (fun hHeld=>?_);clear hK K hS2 bz;refine aO 8 ?_
   try simp only[Act.put,zzs]
   obtain⟨⟨z0,z1,z2,z3,z4⟩,f0,f1,f2,f3,f4⟩:=zlp HN3.out;refine aa 9 rfl fun K hK=>?_;go_simp;have hb:=kl (w.heap.size+1) 0 [.int .i64 6,.int .i64 0,.string (strN t.aZ),.slice (some ⟨w2.heap.size,0,none⟩) 2 2,.int .i64 t.aW] wz;have hrg:=World.rangeAt_setCells_same wz (w.heap.size+1) 0 [.int .i64 6,.int .i64 0,.string (strN t.aZ),.slice (some ⟨w2.heap.size,0,none⟩) 2 2,.int .i64 t.aW] (zD (cs:=[.int .i64 0,.int .i64 0,.string ⟨#[]⟩,.slice none 0 0,.int .i64 0]) HN3.out rfl)
   change K _ (wz.setCells (w.heap.size+1) 0 [.int .i64 6,.int .i64 0,.string (strN t.aZ),.slice (some ⟨w2.heap.size,0,none⟩) 2 2,.int .i64 t.aW])
   generalize wz.setCells (w.heap.size+1) 0 [.int .i64 6,.int .i64 0,.string (strN t.aZ),.slice (some ⟨w2.heap.size,0,none⟩) 2 2,.int .i64 t.aW]=w4 at *
   refine hK.out _ _ (hHeld.of (hb.2.1 _ (by omega)) (hb.2.1 _ (by omega))) (fun _=>?_);clear hK K hHeld hS3 z0 z1 z2 z3 z4 f0 f1 f2 f3 f4;refine aJ (by kernel_rfl) ?_ _;have HB:=aQ hb;clear hb;go_wp2;refine vS (zx (cs:=[_,_,_,_,_]) results283 underlying202 rfl zv _ _ (w.heap.size+1) rfl hrg) rfl ?_;have sx:Same (Rng wt.drew.heap.size w2.heap.size) wz w4:=fun q h1=>HB.out.2.1 q (by have:wt.heap.size<=q:=h1.1;omega);have sy:Same D wz w4:=fun q h1=>HB.out.2.1 q (by have:=(hD q h1).1;omega);have s4:=HB.out.2.2;refine .ok (M3.out.low HB.out.1 (by omega)) (by rw[HW.out];simp only[Res.bind_ok];rw[HR.out];rfl) ⟨.slice (some ⟨w2.heap.size,0,none⟩) 2 2,rfl,?_⟩ (A3.out.other (by omega) HB.out.2.1);show ExsC w4 _ [x,y] _;refine zqh (by rw[HB.out.2.1 _ (by omega)];exact HZ.out) (.inr ⟨by omega,by omega⟩) ((X3.out.same sy).more fun k h=>.inl h) ((Y3.out.same sx).more fun k h=>.inr ⟨?_,?_⟩)
   ·have:wt.heap.size<=k:=h.1;omega
   ·have:k<w2.heap.size:=h.2;omega
  ·have HQ:=aQ (M2.out.trans (zr.trans (b:=wt.drew) ⟨rfl,rfl,rfl,aR _,fun _ _ _=>rfl⟩ hm2));exact⟨rfl,.bad HQ.out (by rw[HW.out];simp only[Res.bind_ok];rw[hr'];rfl)⟩
 ·have HQ:=aQ ((zr.of_below (R:=R) HO.out.2.1 (aR _)).trans hm);clear hm K HO;go_wp2;exact⟨rfl,.bad HQ.out HW.out⟩
def zbb(R:Nat)(w:World):Nat:=match w.cell? ⟨R,1,none⟩with|some (.int _ q)=>q.toNat|_=>0
def At.next{S:Src}{ts:List Tok}(h:At w R S ts):S.all.length-zbb R w=ts.length:=by
 obtain⟨_,i,h2,rfl,h4⟩:=h;unfold zbb;rw[(At.cells h4).2.1];simp
def ExAt(w:World)(b:Nat)(x:Ex)(k:Value):Prop:=w.rangeAt b 0 (exC x k)/\w.there b 0 5
def ExAt.cells{b:Nat}{x:Ex}{k:Value}(h:ExAt w b x k):w.cell? ⟨b,0,none⟩=some (.int .i64 x.op)/\w.cell? ⟨b,1,none⟩=some (.int .i64 x.num)/\w.cell? ⟨b,2,none⟩=some (.string (strN x.aZ))/\w.cell? ⟨b,3,none⟩=some k/\w.cell? ⟨b,4,none⟩=some (.int .i64 x.aW):=
 ⟨h.1 0 _ rfl,h.1 1 _ rfl,h.1 2 _ rfl,h.1 3 _ rfl,h.1 4 _ rfl⟩
def ExAt.of_block{b:Nat}{x:Ex}{k:Value}(h:w.heap[b]? =some (exO x k)):ExAt w b x k:=⟨zZ (cs:=exC x k) h,zD (cs:=exC x k) h rfl⟩
def zl{b n:Nat}(h:w.there b 0 n)(hb:w'.heap[b]? =w.heap[b]?):w'.there b 0 n:=fun j hj=>by
 rw[yp (a:=⟨b,0+j,none⟩) hb,World.frozen?_of_block (a:=⟨b,0+j,none⟩) hb];exact h j hj
def ExAt.of{b:Nat}{x:Ex}{k:Value}(h:ExAt w b x k)(hb:w'.heap[b]? =w.heap[b]?):ExAt w' b x k:=
 ⟨fun j v hv=>by rw[yp (a:=⟨b,0+j,none⟩) hb];exact h.1 j v hv,zl h.2 hb⟩
def zb8{b n:Nat}(h:w.there b 0 n)(hn:0<n):b<w.heap.size:=by
 have h1:=(h 0 hn).1;obtain⟨u,hu⟩:=Option.isSome_iff_exists.1 h1;exact wW w _ hu
def yf{ss:List (List Nat)}{ts:List Tok}(h:zC z ss ts=true):ju z 4 ts=.ok (qE z ts) ts.tail:=by
 unfold ju;rw[if_pos (vY h)]
def vr{ss:List (List Nat)}{ts:List Tok}(h:zC z ss ts=true):ts.tail.length+1=ts.length:=by
 cases ts with
 | nil=>have:=vY h;simp[qE,zov]at this
 | cons t r=>simp
def zbl{ss:List (List Nat)}{p:Par Ex}{f:Nat}{x:Ex}{ts:List Tok}(h:zC z ss ts=true):ym z ss p (f+1) x ts=(xN z p x ts).bind fun e r=>ym z ss p f e r:=by
 unfold xN;rw[yf h,ym,if_pos h];simp only[Res.bind_ok];cases p ts.tail<;>rfl
def zfy{ss:List (List Nat)}{p:Par Ex}{x:Ex}{ts:List Tok}(h:zC z ss ts=false):∀f,ym z ss p f x ts=.ok x ts
 | 0=>rfl
 | f+1=>by rw[ym,if_neg (by simp[h])]
def jv{ss:List (List Nat)}{p:Par Ex}{x e:Ex}{ts r:List Tok}(h:zC z ss ts=true)(hp:qq p)(hj:xN z p x ts=.ok e r):r.length+1<=ts.length:=by
 unfold xN at hj;rw[yf h]at hj;simp only[Res.bind_ok]at hj;cases hq:p ts.tail with
 | bad c q=>rw[hq]at hj;simp at hj
 | ok y r'=>
  rw[hq]at hj;simp at hj;have:=hp _ _ _ hq;have:=vr h;rw[<- hj.2];omega
def zq{l:List Ex}{k:Value}(h:ExsC w D l k):∃A c,k=.slice A l.length c:=by
 cases h with
 | mk l ks V hk hr _=>
  obtain⟨A,c,e,_⟩:=hr;exact⟨A,c,e⟩
def GrpS(R:Nat)(S:Src)(w:World)(b L:Nat)(m:Res Ex)(ss:List (List Nat))(p:Par Ex)(wr:World):Prop:=
 ∃x k ts f,At wr R S ts/\ExAt wr L x k/\wr.there b 0 5/\ExsC wr (fun q=>(b<q/\q≠L)/\q<wr.heap.size) x.aX k/\zr R w wr/\ts.length<=f/\m=ym S.z ss p f x ts
def zql(R:Nat)(S:Src)(ts:List Tok)(fn:Nat)(caps:Array Value)(p:Par Ex)(A:Option Addr)(ss:List (List Nat))(c:Nat)(w:World)(ha:At w R S ts)(hp:yY R S fn caps p w)(hs:qq p)(hc:ss.length<=c)(hcm:c<=maxLen)(hl:Lies w w.heap.size A c (ss.map strV))(hA:∀ad,A=some ad->ad.block≠R)(hy:∀x∈ss,Byn x):Calls prog 256 #[.pointer (some ⟨R,0,none⟩),.func (.func fn) #[] caps,.slice A ss.length c] w (Got R S (QE w.heap.size) w (xb S.z ss p ts)):=by
 have he:=hp.1;unfold EntC at he;have HP:=aQ hp;have HSh:=aQ hs
 have HL:Hid (∀wr,zr R w wr->Lies wr wr.heap.size A c (ss.map strV)):=fun wr hm=>⟨hl.1,fun j u hu=>by
  obtain⟨ad,e,hB,hcell⟩:=hl.2 j u hu
  exact⟨ad,e,aS hB hm.size,by rw[hm.cell (by rw[qh];exact hB) (by rw[qh];exact hA ad e)];exact hcell⟩⟩
 have HY:=aQ hy;have b0:=aQ (za w (.cells #[.int .i64 0,.int .i64 0,.string ⟨#[]⟩,.slice none 0 0,.int .i64 0] 202));have N0:=aQ (ye w (.cells #[.int .i64 0,.int .i64 0,.string ⟨#[]⟩,.slice none 0 0,.int .i64 0] 202));have hRw:=ha.lt;have A0:=aQ (ha.below b0.out (aR _));have s0:(w.alloc (.cells #[.int .i64 0,.int .i64 0,.string ⟨#[]⟩,.slice none 0 0,.int .i64 0] 202)).heap.size=w.heap.size+1:=by simp
 have K:=aQ (hp.2 _ ts (zr.of_below b0.out (aR _)) A0.out);have HW:Hid (xb S.z ss p ts=(p ts).bind fun x r=>ym S.z ss p r.length x r):=rfl;clear ha hp hl hy hA hs
 generalize xb S.z ss p ts=m at *
 go_enter func256,ntmps256
 go_wp2_with fail
 generalize w.alloc (.cells #[.int .i64 0,.int .i64 0,.string ⟨#[]⟩,.slice none 0 0,.int .i64 0] 202)=w0 at *
 refine K.out.mono ?_;clear K;rintro e w1 ⟨hm,⟨x,r,xv,hr,rfl,hq,ha1⟩|⟨c,q,hr,rfl⟩⟩
 ·obtain⟨k,rfl,hk,hk1⟩:=zR hq;obtain⟨Ak,ck,rfl⟩:=zq hk;clear hq hk1;have s1:=hm.size;have bt:=za w1 (exO x (.slice Ak x.aX.length ck));have n0:w1.heap[w.heap.size]? =some (.cells #[.int .i64 0,.int .i64 0,.string ⟨#[]⟩,.slice none 0 0,.int .i64 0] 202):=by rw[hm.block' (by omega) (by omega)];exact N0.out
  have HG:Hid (GrpS R S w w.heap.size w1.heap.size m ss p (w1.alloc (exO x (.slice Ak x.aX.length ck)))):=by
   refine⟨x,_,r,r.length,ha1.below bt (aR _),ExAt.of_block (ye w1 (exO x (.slice Ak x.aX.length ck))),?_,?_,((zr.of_below b0.out (aR _)).trans hm).below bt (aR _),aR _,?_⟩
   ·exact zD (cs:=[_,_,_,_,_]) ((bt.block _ (by omega)).trans n0) rfl
   ·refine(hk.same (fun q h=>bt.block q h.2)).more fun q h=>?_;have h1:w0.heap.size<=q:=h.1;have h2:q<w1.heap.size:=h.2;simp;omega
   ·rw[HW.out,hr];rfl
  clear hk hm ha1 bt n0;go_wp2
  generalize w1.alloc (exO x (.slice Ak x.aX.length ck))=w2 at *
  go_loopw [] (fun wr=>GrpS R S w w.heap.size w1.heap.size m ss p wr) (fun wr=>S.all.length-zbb R wr)
  case atStart=>exact HG.out
  case round=>
   obtain⟨x2,k2,ts2,f,hA2,hL2,hb2,hk2,hm2,hf2,hmr⟩:=hrel;obtain⟨A3,c3,rfl⟩:=zq hk2;have K:=aQ (sees R S ts2 A ss c wr hA2 hc hcm (HL.out wr hm2) HY.out);have hLw:=zb8 hL2.2 (by omega);have hbw:=zb8 hb2 (by omega);by_cases hsee:zC S.z ss ts2=true
   ·rw[hsee]at K;have HQ:Hid (At wr R S ts2/\ExAt wr w1.heap.size x2 (.slice A3 x2.aX.length c3)/\wr.there w.heap.size 0 5/\ExsC wr (fun q=>(w.heap.size<q/\q≠w1.heap.size)/\q<wr.heap.size) x2.aX (.slice A3 x2.aX.length c3)/\zr R w wr/\ts2.length<=f/\m=ym S.z ss p f x2 ts2/\zC S.z ss ts2=true):=⟨hA2,hL2,hb2,hk2,hm2,hf2,hmr,hsee⟩;clear hA2 hL2 hb2 hk2 hm2 hf2 hmr hsee
    (go_wp2_with fail);refine K.out.mono ?_;clear K;rintro e w3 ⟨rfl,hb3⟩;obtain⟨hA2,hL2,hb2,hk2,hm2,hf2,hmr,hsee⟩:=HQ.out;have s3:=hb3.size;have A3':=hA2.below hb3 (aR _);have L3:=hL2.of (hb3.block _ hLw);have b3:=zl hb2 (hb3.block _ hbw);have k3:=hk2.same (fun q h=>hb3.block q h.2);have m3:=hm2.below hb3 (aR _);have K2:=aQ (zpc R S ts2 fn caps p (fun q=>(w.heap.size<q/\q≠w1.heap.size)/\q<wr.heap.size) x2 _ w3 A3' (HP.out.later m3) (fun q h=>⟨by omega,by omega⟩) ⟨_,rfl,k3⟩);obtain⟨l0,l1,l2,l3,l4⟩:=L3.cells;have HQ3:Hid (ExAt w3 w1.heap.size x2 (.slice A3 x2.aX.length c3)/\w3.there w.heap.size 0 5/\zr R w w3):=⟨L3,b3,m3⟩;simp only[exC]at K2;clear hA2 hL2 hb2 hk2 hm2 hf2 hmr hsee A3' L3 b3 k3 m3 hb3
    (go_wp2_with fail);refine K2.out.mono ?_;clear K2 l0 l1 l2 l3 l4;rintro e w4 ⟨hm4,⟨y,r4,yv,hr4,rfl,hq4,ha4⟩|⟨c4,q4,hr4,rfl⟩⟩
    ·obtain⟨k4,rfl,hk4,hk41⟩:=zR hq4;obtain⟨A4,c4,rfl⟩:=zq hk4;have s4:=hm4.size;have th4:=aQ (zl HQ3.out.1.2 (hm4.block' (by omega) (by omega)));have tb4:=aQ (zl HQ3.out.2.1 (hm4.block' (by omega) (by omega)));have H4:Hid (zr R w w4/\ExsC w4 _ y.aX (.slice A4 y.aX.length c4)/\At w4 R S r4/\xN S.z p x2 ts2=.ok y r4):=⟨HQ3.out.2.2.trans hm4,hk4,ha4,hr4⟩;clear hm4 hq4 hk4 ha4 hr4 hk41
     go_wp2_with(refine zc zv rfl (.tmp 7) (.tmp 16) rfl rfl w1.heap.size rfl [_,_,_,_,_] rfl rfl th4.out (by simp[Value.oneCell']) ?_;intro w5 g1 g2 g3 g4 g5)
     go_roundw
     case rel=>
      obtain⟨hA2,_,_,_,_,hf2,hmr,hsee⟩:=HQ.out;have hcons:=vr hsee;obtain⟨f',rfl⟩:∃f',f=f'+1:=⟨f-1,by omega⟩;have hsh:=jv hsee HSh.out H4.out.2.2.2;refine⟨y,_,r4,f',H4.out.2.2.1.other (by omega) g4,⟨g1,g2⟩,zl tb4.out (g4 _ (by omega)),?_,H4.out.1.low g3 (by omega),by omega,?_⟩
      ·refine(H4.out.2.1.same (fun q h=>g4 q ?_)).more fun q h=>?_
       ·rcases h with h|h
        ·exact h.1.2
        ·have:w3.heap.size<=q:=h.1;omega
       ·rw[g5];rcases h with h|h
        ·exact⟨h.1,by omega⟩
        ·have h1:w3.heap.size<=q:=h.1;have h2:q<w4.heap.size:=h.2;refine⟨⟨?_,?_⟩,h2⟩<;>omega
      ·rw[hmr,zbl hsee,H4.out.2.2.2];rfl
     case measure=>
      obtain⟨hA2,_,_,_,_,hf2,hmr,hsee⟩:=HQ.out;have hsh:=jv hsee HSh.out H4.out.2.2.2;rw[hA2.next,(H4.out.2.2.1.other (g:=w1.heap.size) (by omega) g4).next];omega
    ·have HB:=aQ (HQ3.out.2.2.trans hm4);clear hm4;go_wp2;obtain⟨hA2,_,_,_,_,hf2,hmr,hsee⟩:=HQ.out;have hcons:=vr hsee;obtain⟨f',rfl⟩:∃f',f=f'+1:=⟨f-1,by omega⟩;exact⟨rfl,.bad HB.out (by rw[hmr,zbl hsee,hr4];rfl)⟩
   ·have hsf:zC S.z ss ts2=false:=by simpa using hsee
    rw[hsf]at K;have HQ:Hid (At wr R S ts2/\ExAt wr w1.heap.size x2 (.slice A3 x2.aX.length c3)/\wr.there w.heap.size 0 5/\ExsC wr (fun q=>(w.heap.size<q/\q≠w1.heap.size)/\q<wr.heap.size) x2.aX (.slice A3 x2.aX.length c3)/\zr R w wr/\ts2.length<=f/\m=ym S.z ss p f x2 ts2/\zC S.z ss ts2=false):=⟨hA2,hL2,hb2,hk2,hm2,hf2,hmr,hsf⟩;clear hA2 hL2 hb2 hk2 hm2 hf2 hmr hsee hsf
    (go_wp2_with fail);refine K.out.mono ?_;clear K;rintro e w3 ⟨rfl,hb3⟩;obtain⟨hA2,hL2,hb2,hk2,hm2,hf2,hmr,hsf⟩:=HQ.out;have s3:=hb3.size;have L3:=hL2.of (hb3.block _ hLw);obtain⟨l0,l1,l2,l3,l4⟩:=L3.cells;have tb3:=aQ (zl hb2 (hb3.block _ hbw))
    have H3:Hid (At w3 R S ts2/\ExsC w3 (fun q=>(w.heap.size<q/\q≠w1.heap.size)/\q<wr.heap.size) x2.aX (.slice A3 x2.aX.length c3)/\zr R w w3/\m=.ok x2 ts2):=
     ⟨hA2.below hb3 (aR _),hk2.same (fun q h=>hb3.block q h.2),hm2.below hb3 (aR _),by rw[hmr,zfy hsf]⟩
    clear hA2 hL2 hb2 hk2 hm2 hf2 hmr hsf L3 hb3
    go_wp2_with(refine zc zv rfl (.tmp 6) (.tmp 17) rfl rfl w.heap.size rfl [_,_,_,_,_] rfl rfl tb3.out (by simp[Value.oneCell']) ?_;intro w5 g1 g2 g3 g4 g5)
    refine vS (zx (cs:=[_,_,_,_,_]) results256 underlying202 rfl zv _ _ w.heap.size rfl g1) rfl ?_;refine .ok (H3.out.2.2.1.low g3 (aR _)) H3.out.2.2.2 ⟨_,rfl,?_⟩ (H3.out.1.other hRw g4);refine(H3.out.2.1.same (fun q h=>g4 q (by omega))).more fun q h=>⟨?_,?_⟩
    ·omega
    ·rw[g5];omega
 ·have HQ:=aQ ((zr.of_below (R:=R) b0.out (aR _)).trans hm);clear hm;go_wp2;exact⟨rfl,.bad HQ.out (by rw[HW.out,hr];rfl)⟩
def xz(R:Nat)(S:Src)(d:Nat)(e:Par Ex):Prop:=∀w ts,At w R S ts->Calls prog 220 #[.pointer (some ⟨R,0,none⟩),.int .i64 d] w (Got R S (QE w.heap.size) w (e ts))
def zb5(R:Nat)(S:Src)(d:Nat)(e:Par Ex):Prop:=∀w ts,At w R S ts->Calls prog 286 #[.pointer (some ⟨R,0,none⟩),.int .i64 d] w (Got R S (QE w.heap.size) w (e ts))
def OwnE(lo:Nat)(w:World)(l:List Ex)(V:Value):Prop:=
 ∃ks:List Value,ks.length=l.length/\w.ownsRow lo 202 5 V l.length (exsC l ks)/\∀(i:Nat) (e:Ex) (k:Value),l[i]? =some e->ks[i]? =some k->ExsC w (fun b=>(lo<=b/\some b≠V.ownBlock)/\b<w.heap.size) e.aX k
def OwnE.exs{lo:Nat}{l:List Ex}{V:Value}(h:OwnE lo w l V):ExsC w (Rng lo w.heap.size) l V:=by
 obtain⟨ks,h1,h2,h3⟩:=h;exact .mk l ks V h1 (RowF.own h2) fun i e k he hk=>(h3 i e k he hk).more fun q hq=>⟨hq.1.1,hq.2⟩
def OwnE.moves{R lo:Nat}{l:List Ex}{V:Value}(h:OwnE lo w l V)(hm:zr R w w')(hR:R<lo):OwnE lo w' l V:=by
 obtain⟨ks,h1,h2,h3⟩:=h;refine⟨ks,h1,h2.kept hm ?_,fun i e k he hk=>((h3 i e k he hk).same (hm.same fun q hq=>⟨hq.2,by omega⟩)).more fun q hq=>⟨hq.1,aS hq.2 hm.size⟩⟩;cases hv:V.ownBlock with
 | none=>exact .inl rfl
 | some k=>
  refine .inr fun e=>?_;injection e with e
  have:=(h2.lt k hv).1;omega
def OwnE.low{lo lo':Nat}{l:List Ex}{V:Value}(h:OwnE lo w l V)(hl:lo'<=lo):OwnE lo' w l V:=by
 obtain⟨ks,h1,h2,h3⟩:=h;exact⟨ks,h1,vz h2 hl,fun i e k he hk=>(h3 i e k he hk).more fun q hq=>⟨⟨by omega,hq.1.2⟩,hq.2⟩⟩
def OwnE.nothing(lo:Nat)(w:World):OwnE lo w [] (.slice none 0 0):=⟨[],rfl,World.ownsRow_nil _ _ _ _,fun i e k h=>by simp at h⟩
def OwnE.one{lo:Nat}{x:Ex}{k:Value}(hk:ExsC w (Rng lo w.heap.size) x.aX k)(hlo:lo<=w.heap.size):OwnE lo (w.alloc (exO x k)) [x] (.slice (some ⟨w.heap.size,0,none⟩) 1 1):=by
 have bt:=za w (exO x k);refine⟨[k],rfl,⟨by simp[exsC,exC],.inr ⟨w.heap.size,1,_,rfl,hlo,ye w (exO x k),aR _,by unfold maxLen;omega,rfl,rfl⟩⟩,fun i e q he hq=>?_⟩;rcases i with _|i
 ·simp at he hq;subst he hq;refine(hk.same (fun q h=>bt.block q h.2)).more fun q h=>⟨⟨h.1,?_⟩,?_⟩
  ·intro e;have:q=w.heap.size:=by simpa[Value.ownBlock]using e
   have:=h.2;omega
  ·have:=h.2;have:=bt.size;omega
 ·simp at he
def OwnE.snoc{lo:Nat}{l:List Ex}{V V':Value}{x:Ex}{k:Value}{ks:List Value}(hk:ks.length=l.length)(h3:∀(i:Nat) (e:Ex) (k:Value),l[i]? =some e->ks[i]? =some k->ExsC w (fun b=>(lo<=b/\some b≠V.ownBlock)/\b<w.heap.size) e.aX k)
  (ho:w'.ownsRow lo 202 5 V' (l.length+1) (exsC l ks++exC x k)) (hg:w.grownBy w' V.ownBlock) (hV:V'.ownBlock=V.ownBlock\/∃g,V'.ownBlock=some g/\w.heap.size<=g) (hx:ExsC w (fun b=>(lo<=b/\some b≠V.ownBlock)/\b<w.heap.size) x.aX k):OwnE lo w' (l++[x]) V':=by
 have hsame:∀ {l':List Ex} {q:Value},ExsC w (fun b=>(lo<=b/\some b≠V.ownBlock)/\b<w.heap.size) l' q->ExsC w' (fun b=>(lo<=b/\some b≠V'.ownBlock)/\b<w'.heap.size) l' q:=fun h=>
  (h.same (fun b hb=>hg.block b hb.2 hb.1.2)).more fun b hb=>⟨⟨hb.1.1,by
   rcases hV with e|⟨g,e,hge⟩
   ·rw[e];exact hb.1.2
   ·rw[e];intro h2;injection h2;omega⟩,aS hb.2 hg.size⟩
 refine⟨ks++[k],by simp[hk],by rw[zef l ks hk];simpa using ho,fun i e q he hq=>?_⟩;rcases xH he with he|⟨e1,rfl⟩<;>rcases xH hq with hq|⟨e2,rfl⟩
 ·exact hsame (h3 i e q he hq)
 ·have:=(vm.1 he).1;omega
 ·have:=(vm.1 hq).1;omega
 ·exact hsame hx
def qG(e:Par Ex):Par (List Ex):=fun ts=>(e ts).bind fun x r=>.ok [x] r
def zba(R:Nat)(S:Src)(d:Nat)(e:Par Ex)(he:xz R S d e)(ts:List Tok)(w:World)(ha:At w R S ts):Calls prog 218 #[.pointer (some ⟨R,0,none⟩),.int .i64 d] w (Got R S (OwnE w.heap.size) w (qG e ts)):=by
 have K:=aQ (he w ts ha);have HW:Hid (qG e ts=(e ts).bind fun x r=>.ok [x] r):=rfl;clear ha
 generalize qG e ts=m at *
 go_enter func218,ntmps218
 go_wp2_with fail
 refine K.out.mono ?_;clear K;rintro e' w1 ⟨hm,⟨x,r,xv,hr,rfl,hq,ha1⟩|⟨c,q,hr,rfl⟩⟩
 ·obtain⟨k,rfl,hk,hk1⟩:=zR hq;obtain⟨A,c,rfl⟩:=zq hk
  have HQ:Hid (m=.ok [x] r/\zr R w (w1.alloc (exO x (.slice A x.aX.length c)))/\At (w1.alloc (exO x (.slice A x.aX.length c))) R S r/\OwnE w.heap.size (w1.alloc (exO x (.slice A x.aX.length c))) [x] (.slice (some ⟨w1.heap.size,0,none⟩) 1 1)):=
   ⟨by rw[HW.out,hr];rfl,hm.below (za w1 _) (aR _),ha1.below (za w1 _) (aR _),OwnE.one hk hm.size⟩
  clear hm hr hq ha1 hk hk1;go_wp2;go_ret;exact .ok HQ.out.2.1 HQ.out.1 HQ.out.2.2.2 HQ.out.2.2.1
 ·have HQ:=aQ hm;clear hm;go_wp2;exact⟨rfl,.bad HQ.out (by rw[HW.out,hr];rfl)⟩
def vF(R:Nat)(S:Src)(d:Nat)(e:Par Ex)(he:xz R S d e)(ts:List Tok)(w:World)(ha:At w R S ts):Calls prog 222 #[.pointer (some ⟨R,0,none⟩),.int .i64 d] w (Got R S (OwnE w.heap.size) w (qc S.z e ts)):=by
 have hR:=ha.lt;have K:=aQ (want R S ts [40] ⟨#[40]⟩ w ha (by kernel_rfl) (by unfold Byn;decide));have HE:=aQ he;have HW:Hid (qc S.z e ts=(qt S.z [40] ts).bind fun _ r=>(qG e r).bind fun l r'=>(qt S.z [41] r').bind fun _ r''=>.ok l r''):=by
  show _=_;unfold qc qG;cases qt S.z [40] ts with
  | bad c p=>rfl
  | ok v r=>
   simp only[Res.bind_ok];cases e r<;>rfl
 clear ha he
 generalize qc S.z e ts=m at *
 go_enter func222,ntmps222
 go_wp2_with fail
 refine K.out.mono ?_;clear K;rintro e' w1 ⟨hm,⟨u,r,xv,hr,rfl,hq,ha1⟩|⟨c,q,hr,rfl⟩⟩
 ·rw[show xv=.tuple #[] from hq];have K:=aQ (zba R S d e HE.out r w1 ha1);have M1:=aQ hm;have HW1:Hid (m=(qG e r).bind fun l r'=>(qt S.z [41] r').bind fun _ r''=>.ok l r''):=by show _=_;rw[HW.out,hr];rfl
  clear hm ha1 hr hq
  (go_wp2_with fail);refine K.out.mono ?_;clear K;rintro e' w2 ⟨hm,⟨l,r2,xv,hr,rfl,hq,ha2⟩|⟨c,q,hr,rfl⟩⟩
  ·have K:=aQ (want R S r2 [41] ⟨#[41]⟩ w2 ha2 (by kernel_rfl) (by unfold Byn;decide));have M2:=aQ (M1.out.trans hm);have HW2:Hid (m=(qt S.z [41] r2).bind fun _ r''=>.ok l r''):=by show _=_;rw[HW1.out,hr];rfl
   have O2:=aQ (hq.low M1.out.size);clear hm ha2 hr hq
   (go_wp2_with fail);refine K.out.mono ?_;clear K;rintro e' w3 ⟨hm,⟨u,r3,xu,hr,rfl,hq,ha3⟩|⟨c,q,hr,rfl⟩⟩
   ·rw[show xu=.tuple #[] from hq];have HQ:Hid (m=.ok l r3/\zr R w w3/\At w3 R S r3/\OwnE w.heap.size w3 l xv):=⟨by rw[HW2.out,hr];rfl,M2.out.trans hm,ha3,O2.out.moves hm hR⟩;clear hm hr hq ha3;go_wp2;go_ret;exact .ok HQ.out.2.1 HQ.out.1 HQ.out.2.2.2 HQ.out.2.2.1
   ·have HQ:=aQ (M2.out.trans hm);clear hm;go_wp2;exact⟨rfl,.bad HQ.out (by rw[HW2.out,hr];rfl)⟩
  ·have HQ:=aQ (M1.out.trans hm);clear hm;go_wp2;exact⟨rfl,.bad HQ.out (by rw[HW1.out,hr];rfl)⟩
 ·have HQ:=aQ hm;clear hm;go_wp2;exact⟨rfl,.bad HQ.out (by rw[HW.out,hr];rfl)⟩
def zat{P:Program}(w:World)(base:Nat)(t ty e:TypeId)(i:TypeInfo)(z:Value)(size bytes:Nat)(ht:P.underlying t=some (.slice e))(hi:P.info? e=some i)(hz:i.zero=some z)
  (hsize:i.size=size) (hby:i.bytes=bytes) (hzs:z.cells.size=size) (hsz:0<size) (v:Value) (n:Nat) (xs:List Value) (hown:w.ownsRow base e size v n xs)
  (a:Addr) (c:Nat) (news:List Value) (hl:news.length=size) (hnews:∀j u,news[j]? =some u->w.cell? (a.add j)=some u) (h1:∀u∈news,u.oneCell'=true)
  (hbytes:(n+1)*bytes<=140737488355328) (h63:n+1<=maxLen) (hbase:base<=w.heap.size) :
  ∃v' w',(Builtin.append_ #[t,t] ty #[v,.slice (some a) 1 c]).run P w=.ok v' w'/\w'.ownsRow base e size v' (n+1) (xs++news)/\w.grownBy w' v.ownBlock/\(v'.ownBlock=v.ownBlock\/∃g,v'.ownBlock=some g/\w.heap.size<=g):=by
 have hl':news.length=1*size:=by omega
 obtain⟨v',w',hr,h2,h3,_⟩:=run_append_own (P:=P) w base t ty e i z size bytes ht hi hz hsize hby hzs hsz v n xs hown a 1 c news hl' hnews h1 h63 hbytes hbase;refine⟨v',w',hr,h2,h3,?_⟩;subst hsize hby;have h63':n+1<=9223372036854775807:=by simp only[maxLen]at h63;omega
 rcases hown.2 with⟨rfl,rfl⟩|⟨g,cap,cur,rfl,hbg,hg,hnc,hcm,hcs,htake⟩
 ·have hr2:=run_append_nil (P:=P) w t ty e i z ht hi hz a 1 c news hl' hnews (by omega) (by omega) (by omega);rw[hr]at hr2;injection hr2 with e1 e2
  subst e1;exact .inr ⟨_,rfl,aR _⟩
 ·by_cases hroom:n+1<=cap
  ·have hfit:n*i.size+news.length<=cur.size:=by rw[hl',hcs,<- Nat.add_mul];exact Nat.mul_le_mul_right _ hroom
   have hr2:=run_append_room (P:=P) w t ty e i ht hi g n cap cur hg a 1 c news hl' hnews h1 hroom hfit;rw[hr]at hr2;injection hr2 with e1 e2
   subst e1;exact .inl rfl
  ·have holds:∀j u,xs[j]? =some u->w.cell? ((⟨g,0,none⟩:Addr).add j)=some u:=hown.cells (g:=g) rfl;have hr2:=run_append_grow (P:=P) w t ty e i z ht hi hz ⟨g,0,none⟩ n cap xs hown.1 holds a 1 c news hl' hnews (by omega) (by omega) (growslice_fits (by omega) hbytes);rw[hr]at hr2;injection hr2 with e1 e2
   subst e1;exact .inr ⟨_,rfl,aR _⟩
def zK{P:Program}(w:World){o:Oper}{a:Act}{K:Act->World->Prop}{Q:Exit->Act->World->Prop}(s x:Operand)(t:TypeId)(ho:o.op=.call { callee:=.builtin .append,args:=#[s,x],argTypes:=#[t,t] })
  (base:Nat) (e:TypeId) (i:TypeInfo) (z:Value) (size bytes:Nat) (ht:P.underlying t=some (.slice e)) (hi:P.info? e=some i) (hz:i.zero=some z)
  (hsize:i.size=size) (hby:i.bytes=bytes) (hzs:z.cells.size=size) (hsz:0<size) (v:Value) (n:Nat) (xs:List Value) (hs:a.eval s=v) (hown:w.ownsRow base e size v n xs)
  (ad:Addr) (c:Nat) (news:List Value) (hx:a.eval x=.slice (some ad) 1 c) (hl:news.length=size) (hnews:∀j u,news[j]? =some u->w.cell? (ad.add j)=some u) (h1:∀u∈news,u.oneCell'=true)
  (hbytes:(n+1)*bytes<=140737488355328) (h63:n+1<=maxLen) (hbase:base<=w.heap.size)
  (h:∀v' w',w'.ownsRow base e size v' (n+1) (xs++news)->w.grownBy w' v.ownBlock->(v'.ownBlock=v.ownBlock\/∃g,v'.ownBlock=some g/\w.heap.size<=g)->K (a.put o.dst v') w'):o.wp P a w K Q:=by
 obtain⟨v',w',hr,h2,h3,h4⟩:=zat (P:=P) w base t o.type e i z size bytes ht hi hz hsize hby hzs hsz v n xs hown ad c news hl hnews h1 hbytes h63 hbase;unfold Oper.wp execOp;simp only[ho,resolve,invoke,builtin,Sem.run_bind,Sem.run_pure,Result.andThen_ok,List.map_toArray,List.map_cons,List.map_nil,hs,hx,hr];exact h v' w' h2 h3 h4
def kH{P:Program}(w:World){ops:Array Oper}{rest:List Oper}{o:Oper}{a:Act}{Q:Exit->Act->World->Prop}(hgd:o.guard=none)(s x:Operand)(t:TypeId)(ho:o.op=.call { callee:=.builtin .append,args:=#[s,x],argTypes:=#[t,t] })
  (base:Nat) (e:TypeId) (i:TypeInfo) (z:Value) (size bytes:Nat) (ht:P.underlying t=some (.slice e)) (hi:P.info? e=some i) (hz:i.zero=some z)
  (hsize:i.size=size) (hby:i.bytes=bytes) (hzs:z.cells.size=size) (hsz:0<size) (v:Value) (n:Nat) (xs:List Value) (hs:a.eval s=v) (hown:w.ownsRow base e size v n xs)
  (ad:Addr) (c:Nat) (news:List Value) (hx:a.eval x=.slice (some ad) 1 c) (hl:news.length=size) (hnews:∀j u,news[j]? =some u->w.cell? (ad.add j)=some u) (h1:∀u∈news,u.oneCell'=true)
  (hbytes:(n+1)*bytes<=140737488355328) (h63:n+1<=maxLen) (hbase:base<=w.heap.size)
  (h:∀v' w',w'.ownsRow base e size v' (n+1) (xs++news)->w.grownBy w' v.ownBlock->(v'.ownBlock=v.ownBlock\/∃g,v'.ownBlock=some g/\w.heap.size<=g)->wpList P ops Q rest (a.put o.dst v') w'):wpList P ops Q (o::rest) a w:=
 wpList_plain hgd fun _ hK=>zK w s x t ho base e i z size bytes ht hi hz hsize hby hzs hsz v n xs hs hown ad c news hx hl hnews h1 hbytes h63 hbase fun v' w' h2 h3 h4=>hK _ _ (h v' w' h2 h3 h4)
def zk7:(prog.info? 202).map (fun i=>(i.zero,i.size,i.bytes))=some (some (.agg #[.int .i64 0,.int .i64 0,.string ⟨#[]⟩,.slice none 0 0,.int .i64 0]),5,64):=by kernel_rfl
def one5{a b c:Int}{s:ByteArray}:∀u∈[Value.int .i64 a,.int .i64 b,.string s,.slice A n m,.int .i64 c],u.oneCell'=true:=by
 intro u hu;simp at hu;rcases hu with rfl|rfl|rfl|rfl|rfl<;>rfl
def OwnE.grown{lo:Nat}{l:List Ex}{V V':Value}{x:Ex}{k:Value}{ks:List Value}(hk:ks.length=l.length)(h3:∀(i:Nat) (e:Ex) (k:Value),l[i]? =some e->ks[i]? =some k->ExsC w (fun b=>(lo<=b/\some b≠V.ownBlock)/\b<w.heap.size) e.aX k)
  (ho0:w.ownsRow lo 202 5 V l.length (exsC l ks)) (ho:w'.ownsRow lo 202 5 V' (l.length+1) (exsC l ks++exC x k)) (hg:w.grownBy w' V.ownBlock) (hV:V'.ownBlock=V.ownBlock\/∃g,V'.ownBlock=some g/\w.heap.size<=g) (hx:ExsC w (fun b=>(lo<=b/\some b≠V.ownBlock)/\b<w.heap.size) x.aX k) (hlo:lo<=w.heap.size) :
  OwnE lo w' (l++[x]) V'/\Below lo w w':=by
 refine⟨OwnE.snoc hk h3 ho hg hV hx,hg.os,hg.tape,hg.output,hg.size,fun q hq=>hg.block q (by omega) fun e=>?_⟩;have:=(ho0.lt q e.symm).1;omega
def zbf{lo b:Nat}{V:Value}{l:List Ex}{k:Value}(h:ExsC w' (Rng b w'.heap.size) l k)(hV:∀g,V.ownBlock=some g->g<b)(hlo:lo<=b):ExsC w' (fun q=>(lo<=q/\some q≠V.ownBlock)/\q<w'.heap.size) l k:=
 h.more fun q hq=>⟨⟨aT hlo hq.1,fun e=>by have h1:=hV q e.symm;have h2:b<=q:=hq.1;omega⟩,hq.2⟩
def At.under{R lo:Nat}{S:Src}{ts:List Tok}(h:At w R S ts)(hb:Below lo w w')(hR:R<lo):At w' R S ts:=by
 obtain⟨h1,i,h2,h3,h4⟩:=h;exact⟨h1.of fun k hk=>hb.block k (by omega),i,h2,h3,by rw[hb.block R hR];exact h4⟩
def pair(R:Nat)(S:Src)(d:Nat)(e:Par Ex)(he:xz R S d e)(ts:List Tok)(w:World)(ha:At w R S ts):Calls prog 221 #[.pointer (some ⟨R,0,none⟩),.int .i64 d] w (Got R S (OwnE w.heap.size) w (ze6 S.z e ts)):=by
 have hR:=ha.lt;obtain⟨i0,hi,hz0,hz1,hz2⟩:=info_parts zk7;have K:=aQ (want R S ts [40] ⟨#[40]⟩ w ha (by kernel_rfl) (by unfold Byn;decide));have HE:=aQ he;have HW:Hid (ze6 S.z e ts=(qt S.z [40] ts).bind fun _ r=>(qG e r).bind fun l r'=>(qt S.z [44] r').bind fun _ r''=>(e r'').bind fun y q=>(qt S.z [41] q).bind fun _ q'=>.ok (l++[y]) q'):=by
  show _=_;unfold ze6 qG;cases qt S.z [40] ts with
  | bad c p=>rfl
  | ok v r=>
   simp only[Res.bind_ok];cases e r<;>rfl
 clear ha he
 generalize ze6 S.z e ts=m at *
 go_enter func221,ntmps221
 go_wp2_with fail
 refine K.out.mono ?_;clear K;rintro e' w1 ⟨hm,⟨u,r,xv,hr,rfl,hq,ha1⟩|⟨c,q,hr,rfl⟩⟩
 ·rw[show xv=.tuple #[] from hq];have K:=aQ (zba R S d e HE.out r w1 ha1);have M1:=aQ hm;have HW1:Hid (m=(qG e r).bind fun l r'=>(qt S.z [44] r').bind fun _ r''=>(e r'').bind fun y q=>(qt S.z [41] q).bind fun _ q'=>.ok (l++[y]) q'):=by show _=_;rw[HW.out,hr];rfl
  clear hm ha1 hr hq
  (go_wp2_with fail);refine K.out.mono ?_;clear K;rintro e' w2 ⟨hm,⟨l,r2,V,hr,rfl,hq,ha2⟩|⟨c,q,hr,rfl⟩⟩
  ·have K:=aQ (want R S r2 [44] ⟨#[44]⟩ w2 ha2 (by kernel_rfl) (by unfold Byn;decide));have M2:=aQ (M1.out.trans hm);have hll:l.length=1:=by
    unfold qG at hr;cases hx:e r with
    | bad c p=>rw[hx]at hr;simp at hr
    | ok y q=>rw[hx]at hr;simp at hr;rw[<- hr.1];rfl
   have HW2:Hid (m=(qt S.z [44] r2).bind fun _ r''=>(e r'').bind fun y q=>(qt S.z [41] q).bind fun _ q'=>.ok (l++[y]) q'):=by show _=_;rw[HW1.out,hr];rfl
   have O2:=aQ (hq.low M1.out.size);clear hm ha2 hr hq
   (go_wp2_with fail);refine K.out.mono ?_;clear K;rintro e' w3 ⟨hm,⟨u,r3,xu,hr,rfl,hq,ha3⟩|⟨c,q,hr,rfl⟩⟩
   ·rw[show xu=.tuple #[] from hq];have O3:=aQ (O2.out.moves hm hR);have M3:=aQ (M2.out.trans hm);have HW3:Hid (m=(e r3).bind fun y q=>(qt S.z [41] q).bind fun _ q'=>.ok (l++[y]) q'):=by show _=_;rw[HW2.out,hr];rfl
    have K:=aQ (HE.out w3 r3 ha3);clear hm hr hq ha3
    (go_wp2_with fail);refine K.out.mono ?_;clear K;rintro e' w4 ⟨hm,⟨y,r4,yv,hr,rfl,hq,ha4⟩|⟨c,q,hr,rfl⟩⟩
    ·obtain⟨k,rfl,hk,hk1⟩:=zR hq;obtain⟨A,c,rfl⟩:=zq hk;have bt:=za w4 (exO y (.slice A y.aX.length c));have mt:zr R w3 (w4.alloc (exO y (.slice A y.aX.length c))):=hm.below bt (aR _);have O4:=O3.out.moves mt hR;obtain⟨ks,hks,hown,hkid⟩:=O4
     have hapart:=zbf (V:=V) (lo:=w.heap.size) ((hk.same (fun q h=>bt.block q h.2)).more (D':=Rng w3.heap.size (w4.alloc (exO y (.slice A y.aX.length c))).heap.size) fun q h=>⟨h.1,aS h.2 bt.size⟩) (fun g hg=>by
      obtain⟨ks',_,ho',_⟩:=O3.out
      exact(ho'.lt g hg).2) M3.out.size
     have HQ:Hid (zr R w (w4.alloc (exO y (.slice A y.aX.length c)))/\At (w4.alloc (exO y (.slice A y.aX.length c))) R S r4/\m=(qt S.z [41] r4).bind fun _ q'=>.ok (l++[y]) q'):=⟨M3.out.trans mt,ha4.below bt (aR _),by rw[HW3.out,hr];rfl⟩;have HO:=aQ hown;have HKd:=aQ hkid;have HAp:=aQ hapart;have HN:Hid (∀(j:Nat) (u:Value),(exC y (.slice A y.aX.length c))[j]? =some u->(w4.alloc (exO y (.slice A y.aX.length c))).cell? ((Addr.mk w4.heap.size 0 none).add j)=some u):=fun j u hu=>by
      rw[Addr.add_mid];exact zZ (cs:=exC y (.slice A y.aX.length c)) (ye w4 (exO y (.slice A y.aX.length c))) j u hu
     have hsz:w.heap.size<=(w4.alloc (exO y (.slice A y.aX.length c))).heap.size:=HQ.out.1.size;clear hm hr hq ha4 hk hk1 bt mt hown hkid hapart
     go_wp2_with(at_builtin;refine kH _ rfl (.tmp 13) (.tmp 17) 143 rfl w.heap.size 202 i0 _ 5 64 underlying143 hi hz0 hz1 hz2 rfl (by omega) _ _ _ rfl HO.out ⟨w4.heap.size,0,none⟩ 1 (exC y (.slice A y.aX.length c)) rfl rfl HN.out one5 (by rw[hll];omega) (by rw[hll];unfold maxLen;omega) hsz ?_;intro v5 w5 ho5 hg5 hv5)
     obtain⟨O5,B5⟩:=OwnE.grown hks HKd.out HO.out ho5 hg5 hv5 HAp.out hsz;have M5:=aQ (HQ.out.1.low B5 (aR _));have A5:=HQ.out.2.1.under B5 hR;have HO5:=aQ O5;have K:=aQ (want R S r4 [41] ⟨#[41]⟩ w5 A5 (by kernel_rfl) (by unfold Byn;decide));clear ho5 hg5 hv5 O5 B5 A5 HO HKd HAp HN
     (go_wp2_with fail);refine K.out.mono ?_;clear K;rintro e' w6 ⟨hm,⟨u,r6,xu,hr,rfl,hq,ha6⟩|⟨c,q,hr,rfl⟩⟩
     ·rw[show xu=.tuple #[] from hq];have HF:Hid (zr R w w6/\At w6 R S r6/\OwnE w.heap.size w6 (l++[y]) v5/\m=.ok (l++[y]) r6):=⟨M5.out.trans hm,ha6,HO5.out.moves hm hR,by rw[HQ.out.2.2,hr];rfl⟩;clear hm hr hq ha6;go_wp2;go_ret;exact .ok HF.out.1 HF.out.2.2.2 HF.out.2.2.1 HF.out.2.1
     ·have HF:=aQ (M5.out.trans hm);clear hm;go_wp2;exact⟨rfl,.bad HF.out (by rw[HQ.out.2.2,hr];rfl)⟩
    ·have HQ:=aQ (M3.out.trans hm);clear hm;go_wp2;exact⟨rfl,.bad HQ.out (by rw[HW3.out,hr];rfl)⟩
   ·have HQ:=aQ (M2.out.trans hm);clear hm;go_wp2;exact⟨rfl,.bad HQ.out (by rw[HW2.out,hr];rfl)⟩
  ·have HQ:=aQ (M1.out.trans hm);clear hm;go_wp2;exact⟨rfl,.bad HQ.out (by rw[HW1.out,hr];rfl)⟩
 ·have HQ:=aQ hm;clear hm;go_wp2;exact⟨rfl,.bad HQ.out (by rw[HW.out,hr];rfl)⟩
def GotI{α:Type}(R:Nat)(S:Src)(Inv:α->World->Prop)(J:World->Prop)(m:Res α)(e:Ending)(w':World):Prop:=
 (∃v r,m=.ok v r/\e=.returned (.tuple #[])/\Inv v w'/\At w' R S r)\/(∃c q,m=.bad c q/\e=zjy c q/\J w')
structure zj4{α:Type}(R:Nat)(S:Src)(fn:Nat)(caps:Array Value)(p:Par α)(Inv:List α->World->Prop)(J:World->Prop):Prop where
 ent:EntC fn
 takes:qL p
 inv:∀l w w',Inv l w->zr R w w'->Inv l w'
 toJ:∀l w,Inv l w->J w
 call:∀l w ts,Inv l w->At w R S ts->l.length+ts.length<=S.all.length->Calls prog fn caps w (GotI R S (fun v w'=>Inv (l++[v]) w') J (p ts))
def At.len{S:Src}{ts:List Tok}(h:At w R S ts):ts.length<=S.all.length:=by
 obtain⟨_,i,_,rfl,_⟩:=h;simp
def zbw{α:Type}{p:Par α}{f:Nat}{l:List α}{ts:List Tok}(h:zC z [[44]] ts=true):vH z p (f+1) l ts=(p ts.tail).bind fun y r=>vH z p f (l++[y]) r:=by
 rw[vH,if_pos h]
def zfx{α:Type}{p:Par α}{l:List α}{ts:List Tok}(h:zC z [[44]] ts=false):∀f,vH z p f l ts=(qt z [41] ts).bind fun _ r=>.ok l r
 | 0=>rfl
 | f+1=>by rw[vH,if_neg (by simp[h])]
def LstS{α:Type}(R:Nat)(S:Src)(p:Par α)(Inv:List α->World->Prop)(m:Res (List α))(wr:World):Prop:=
 ∃l ts f,Inv l wr/\At wr R S ts/\ts.length<=f/\l.length+ts.length<=S.all.length/\m=vH S.z p f l ts
def list{α:Type}(R:Nat)(S:Src)(fn:Nat)(caps:Array Value)(p:Par α)(Inv:List α->World->Prop)(J:World->Prop)(hp:zj4 R S fn caps p Inv J)(ts:List Tok)(w:World)(ha:At w R S ts)(h0:Inv [] w):Calls prog 112 #[.pointer (some ⟨R,0,none⟩),.func (.func fn) #[] caps] w (GotI R S Inv J (wq S.z p ts)):=by
 have he:=hp.ent;unfold EntC at he;have HP:=aQ hp;have K:=aQ (want R S ts [40] ⟨#[40]⟩ w ha (by kernel_rfl) (by unfold Byn;decide));have HI:=aQ h0;have HW:Hid (wq S.z p ts=(qt S.z [40] ts).bind fun _ r=>if zC S.z [[41]] r then .ok [] r.tail else(p r).bind fun x r'=>vH S.z p r'.length [x] r'):=rfl;clear ha hp h0
 generalize wq S.z p ts=m at *
 go_enter func112,ntmps112
 go_wp2_with fail
 refine K.out.mono ?_;clear K;rintro e' w1 ⟨hm,⟨u,r,xv,hr,rfl,hq,ha1⟩|⟨c,q,hr,rfl⟩⟩
 ·rw[show xv=.tuple #[] from hq];have K:=aQ (xA R S r [41] ⟨#[41]⟩ w1 ha1 (by kernel_rfl) (by unfold Byn;decide));have I1:=aQ (HP.out.inv _ _ _ HI.out hm);have HW1:Hid (m=if zC S.z [[41]] r then .ok [] r.tail else(p r).bind fun x r'=>vH S.z p r'.length [x] r'):=by show _=_;rw[HW.out,hr];rfl
  clear hm hr hq ha1;cases hs:zC S.z [[41]] r with
  | true=>
   rw[hs]at K HW1;clear hs
   (go_wp2_with fail);refine K.out.mono ?_;clear K;rintro e' w2 ⟨rfl,hm,ha2⟩;have HQ:Hid (Inv [] w2/\At w2 R S r.tail):=⟨HP.out.inv _ _ _ I1.out hm,ha2⟩;clear hm ha2
   go_wp2;refine vS (results_none rfl _ _ _) rfl ?_;exact .inl ⟨[],r.tail,by rw[HW1.out];rfl,rfl,HQ.out.1,HQ.out.2⟩
  | false=>
   rw[hs]at K HW1;clear hs
   (go_wp2_with fail);refine K.out.mono ?_;clear K;rintro e' w2 ⟨rfl,hm,ha2⟩;have ha2':At w2 R S r:=ha2;have I2:=HP.out.inv _ _ _ I1.out hm;have hlen:=ha2'.len;have HLen:=aQ hlen;have K:=aQ (HP.out.call [] w2 r I2 ha2' (by simpa using hlen));have HW2:Hid (m=(p r).bind fun x r'=>vH S.z p r'.length [x] r'):=by show _=_;rw[HW1.out];rfl
   clear hm ha2 I2 ha2' hlen
   (go_wp2_with fail);refine K.out.mono ?_;clear K;rintro e' w3 (⟨x,r3,hr,rfl,I3,ha3⟩|⟨c,q,hr,rfl,hj⟩)
   ·have HG:Hid (LstS R S p Inv m w3):=by
     have ht:=HP.out.takes _ _ _ hr;have hl:=HLen.out;refine⟨[x],r3,r3.length,I3,ha3,aR _,by simp;omega,?_⟩;rw[HW2.out,hr];rfl
    clear I3 ha3 hr;go_wp2
    go_loopw [] (fun wr=>LstS R S p Inv m wr) (fun wr=>S.all.length-zbb R wr)
    case atStart=>exact HG.out
    case round=>
     obtain⟨l,ts2,f,hI,hA,hf,hll,hmr⟩:=hrel;have K:=aQ (xA R S ts2 [44] ⟨#[44]⟩ wr hA (by kernel_rfl) (by unfold Byn;decide));have HQ:Hid (Inv l wr/\At wr R S ts2/\ts2.length<=f/\l.length+ts2.length<=S.all.length/\m=vH S.z p f l ts2):=⟨hI,hA,hf,hll,hmr⟩;clear hI hA hf hll hmr;cases hs:zC S.z [[44]] ts2 with
     | true=>
      have HS:=aQ hs;rw[hs]at K;clear hs
      (go_wp2_with fail);refine K.out.mono ?_;clear K;rintro e' w4 ⟨rfl,hm,ha4⟩;have ha4':At w4 R S ts2.tail:=ha4;have hcons:=vr HS.out;have hq:=HQ.out;have K:=aQ (HP.out.call l w4 ts2.tail (HP.out.inv _ _ _ hq.1 hm) ha4' (by have:=hq.2.2.2.1;omega));have HC:=aQ hcons;clear hm ha4 ha4' hcons hq
      (go_wp2_with fail);refine K.out.mono ?_;clear K;rintro e' w5 (⟨x5,r5,hr,rfl,I5,ha5⟩|⟨c,q,hr,rfl,hj⟩)
      ·have HR:Hid (p ts2.tail=.ok x5 r5/\Inv (l++[x5]) w5/\At w5 R S r5):=⟨hr,I5,ha5⟩;clear hr I5 ha5;go_wp2
       go_roundw
       case rel=>
        obtain⟨hI,hA,hf,hll,hmr⟩:=HQ.out;have ht:=HP.out.takes _ _ _ HR.out.1;have hc:=HC.out;obtain⟨f',rfl⟩:∃f',f=f'+1:=⟨f-1,by omega⟩;refine⟨l++[x5],r5,f',HR.out.2.1,HR.out.2.2,by omega,by simp;omega,?_⟩;rw[hmr,zbw HS.out,HR.out.1];rfl
       case measure=>
        have ht:=HP.out.takes _ _ _ HR.out.1;have hc:=HC.out;rw[HQ.out.2.1.next,HR.out.2.2.next];omega
      ·have HJ:=aQ hj;clear hj;go_wp2;obtain⟨hI,hA,hf,hll,hmr⟩:=HQ.out;have hc:=HC.out;obtain⟨f',rfl⟩:∃f',f=f'+1:=⟨f-1,by omega⟩;exact⟨rfl,.inr ⟨c,q,by rw[hmr,zbw HS.out,hr];rfl,rfl,HJ.out⟩⟩
     | false=>
      have HS:=aQ hs;rw[hs]at K;clear hs
      (go_wp2_with fail);refine K.out.mono ?_;clear K;rintro e' w4 ⟨rfl,hm,ha4⟩;have ha4':At w4 R S ts2:=ha4;have I4:=aQ (HP.out.inv _ _ _ HQ.out.1 hm);have K:=aQ (want R S ts2 [41] ⟨#[41]⟩ w4 ha4' (by kernel_rfl) (by unfold Byn;decide));have HWm:Hid (m=(qt S.z [41] ts2).bind fun _ r=>.ok l r):=by show _=_;rw[HQ.out.2.2.2.2,zfx HS.out]
      clear hm ha4 ha4'
      (go_wp2_with fail);refine K.out.mono ?_;clear K;rintro e' w5 ⟨hm,⟨u,r5,xu,hr,rfl,hq,ha5⟩|⟨c,q,hr,rfl⟩⟩
      ·rw[show xu=.tuple #[] from hq];have HF:Hid (Inv l w5/\At w5 R S r5/\m=.ok l r5):=⟨HP.out.inv _ _ _ I4.out hm,ha5,by rw[HWm.out,hr];rfl⟩;clear hm hr hq ha5;go_wp2
       first|go_end0|refine vS (results_none rfl _ _ _) rfl ?_
       exact .inl ⟨l,r5,HF.out.2.2,rfl,HF.out.1,HF.out.2.1⟩
      ·have HJ:=aQ (HP.out.toJ _ _ (HP.out.inv _ _ _ I4.out hm));clear hm;go_wp2;exact⟨rfl,.inr ⟨c,q,by rw[HWm.out,hr];rfl,rfl,HJ.out⟩⟩
   ·have HQ:=aQ hj;clear hj;go_wp2;exact⟨rfl,.inr ⟨c,q,by rw[HW2.out,hr];rfl,rfl,HQ.out⟩⟩
 ·have HQ:=aQ (HP.out.toJ _ _ (HP.out.inv _ _ _ HI.out hm));clear hm;go_wp2;exact⟨rfl,.inr ⟨c,q,by rw[HW.out,hr];rfl,rfl,HQ.out⟩⟩
def yA(g:Nat)(e:TypeId):∀(cs:List Value) (o:Nat) (w:World) (cur:Array Value),w.heap[g]? =some (.cells cur e (0,0))->o+cs.length<=cur.size ->
  ∃cur':Array Value,(w.setCells g o cs).heap[g]? =some (.cells cur' e (0,0))/\cur'.size=cur.size/\cur'.toList=cur.toList.take o++cs++cur.toList.drop (o+cs.length)
 | [],o,w,cur,h,_=>⟨cur,h,rfl,by simp⟩
 | c::cs,o,w,cur,h,hb=>by
  have h1:(w.setCell ⟨g,o,none⟩ c).heap[g]? =some (.cells (cur.setIfInBounds o c) e (0,0)):=by
   simp only[World.setCell,Array.getElem?_modify,if_true,h];rfl
  simp only[aB]at hb;obtain⟨cur',g1,g2,g3⟩:=yA g e cs (o+1) (w.setCell ⟨g,o,none⟩ c) (cur.setIfInBounds o c) h1 (by simp;omega);refine⟨cur',g1,by simpa using g2,?_⟩;rw[g3];have hlt:o<cur.toList.length:=by simp;omega
  simp only[Array.toList_setIfInBounds,aB];rw[List.take_add_one,List.drop_set_of_lt (by omega),List.take_set_of_le (aR _)];simp[List.getElem?_set,show o<cur.size by simpa using hlt]
  congr 1
  omega
def kV{lo:Nat}{size n:Nat}{V:Value}{xs ys zs:List Value}(h:w.ownsRow lo e size V (n+1) (xs++ys))(hx:xs.length=n*size)(hz:zs.length=size)(hs:0<size):∃g cap,V=.slice (some ⟨g,0,none⟩) (n+1) cap/\lo<=g/\g<w.heap.size/\w.there g (n*size) size/\n+1<=cap/\cap<=maxLen/\(w.setCells g (n*size) zs).ownsRow lo e size V (n+1) (xs++zs):=by
 have hlen:=h.1;rcases h.2 with⟨rfl,h0⟩|⟨g,cap,cur,rfl,hb,hg,hn,hm,hc,ht⟩
 ·omega
 ·have hmul:(n+1)*size<=cap*size:=Nat.mul_le_mul_right _ hn;have hadd:(n+1)*size=n*size+size:=by rw[Nat.add_mul,Nat.one_mul]
  have hys:ys.length=size:=by simp at hlen;omega
  obtain⟨cur',g1,g2,g3⟩:=yA g e zs (n*size) w cur hg (by omega);refine⟨g,cap,rfl,hb,lt_of_block hg,fun j hj=>⟨?_,by simp[World.frozen?,hg]⟩,hn,hm,by simp;omega,.inr ⟨g,cap,cur',rfl,hb,g1,hn,hm,by omega,?_⟩⟩
  ·rw[wy _ _ _ _ _ _ hg];simp;omega
  ·rw[g3];have ht1:cur.toList.take (n*size)=xs:=by
    have:=congrArg (List.take (n*size)) ht;rw[List.take_take,Nat.min_eq_left (by omega),List.take_left' hx]at this;exact this
   rw[ht1,List.take_left' (by simp;omega)]
end
end
end Go.Proofs.YtcilgkdnjgmogaaGreatDoor
