/- A part of the proof. -/
import Derived.WalkKit
import Derived.Laws.BytesArg
import Derived.Laws.AppendOwnNone
import Derived.Laws.BitsAllLaws
import Derived.Deep.RegionHeld3
import Derived.Deep.QuietTactic
import Derived.BigQuiet
import Derived.Lib.Hide
namespace Go.Proofs.YtcilgkdnjgmogaaGreatDoor
set_option maxRecDepth 100000
set_option maxHeartbeats 12800000
set_option linter.all false
section
open Go.RowKit
def aQ{p : Prop}(h : p): Hid p := Lib.hid h
theorem zz1: type_of% @List.getElem_toArray.{0} := @List.getElem_toArray.{0}
theorem zz2: type_of% @List.getElem_cons_zero.{0} := @List.getElem_cons_zero.{0}
theorem zz3: type_of% @List.getElem_cons_succ.{0} := @List.getElem_cons_succ.{0}
theorem zz4: type_of% @List.setIfInBounds_toArray.{0} := @List.setIfInBounds_toArray.{0}
theorem zz5: type_of% @List.set_cons_zero.{0} := @List.set_cons_zero.{0}
theorem zz6: type_of% @List.set_cons_succ.{0} := @List.set_cons_succ.{0}
theorem zz8{P : Program}{md : Region.Mode}{ops : Array Oper}{Q : Exit → Act → World → Prop}{S : World → Prop}(i : Nat){oi : Oper}(v : Value){fuel : Nat}{listed : Array Bool}{a : Act}{w : World}(hi : ops[i]? = some oi)(hQ : ∀c a w,Q (.panic c) (a.put oi.dst v) w → Q (.panic c) a w)(hv : ∀w,S w → (execOp a.eval oi).run P w=.ok (.value v) w)(h : wpAnyH P md ops Q S fuel (listed.setIfInBounds i true) (a.put oi.dst v) w)(hs : Region.noSelect ops=true := by kernel_rfl)(hf : Region.free md ops listed i=true := by kernel_rfl)(hr : (Region.ready md ops listed).contains i=true := by kernel_rfl)(hg : Region.wanted oi (yielded ops a.tmps)=true := by kernel_rfl)(hS : S w := by assumption): wpAnyH P md ops Q S (fuel + 1) listed a w := wpAnyH_take hi hs hf hr hQ (.inl ⟨hg,hv⟩) hS h
def aO{P : Program}{md : Region.Mode}{ops : Array Oper}{Q : Exit → Act → World → Prop}{S : World → Prop}(i : Nat){oi : Oper}{v : Value}{fuel : Nat}{listed : Array Bool}{a : Act}{w : World}(h : wpAnyH P md ops Q S fuel (listed.setIfInBounds i true) (a.put oi.dst v) w)(hi : ops[i]? = some oi := by rfl)(hv : ∀w,S w → (execOp a.eval oi).run P w=.ok (.value v) w := by(intro w hSw;(try dsimp only at hSw);go_simp;(try with_reducible rfl)))(hQ : ∀c a w,Q (.panic c) (a.put oi.dst v) w → Q (.panic c) a w := by exact fun _ _ _ h => by first | exact h | cases h.1)(hs : Region.noSelect ops=true := by kernel_rfl)(hf : Region.free md ops listed i=true := by kernel_rfl)(hr : (Region.ready md ops listed).contains i=true := by kernel_rfl)(hg : Region.wanted oi (yielded ops a.tmps)=true := by kernel_rfl)(hS : S w := by assumption): wpAnyH P md ops Q S (fuel + 1) listed a w := wpAnyH_take hi hs hf hr hQ (.inl ⟨hg,hv⟩) hS h
def aP{P : Program}{md : Region.Mode}{ops : Array Oper}{Q : Exit → Act → World → Prop}{S : World → Prop}(i : Nat){oi : Oper}{v : Value}{fuel : Nat}{listed : Array Bool}{a : Act}{w : World}(h : wpAnyH P md ops Q S fuel (listed.setIfInBounds i true) (a.put oi.dst v) w)(hi : ops[i]? = some oi := by rfl)(hv : ∀w,S w → (execOp a.eval oi).run P w=.ok (.value v) w := by(intro w hSw;(try dsimp only at hSw);obtain⟨s1,s2⟩ := hSw;go_simp;(try with_reducible rfl)))(hQ : ∀c a w,Q (.panic c) (a.put oi.dst v) w → Q (.panic c) a w := by exact fun _ _ _ h => by first | exact h | cases h.1)(hs : Region.noSelect ops=true := by kernel_rfl)(hf : Region.free md ops listed i=true := by kernel_rfl)(hr : (Region.ready md ops listed).contains i=true := by kernel_rfl)(hg : Region.wanted oi (yielded ops a.tmps)=true := by kernel_rfl)(hS : S w := by assumption): wpAnyH P md ops Q S (fuel + 1) listed a w := wpAnyH_take hi hs hf hr hQ (.inl ⟨hg,hv⟩) hS h
def aa{P : Program}{md : Region.Mode}{ops : Array Oper}{Q : Exit → Act → World → Prop}{S : World → Prop}(i : Nat){o : Oper}{fuel : Nat}{listed : Array Bool}{a : Act}{w : World}(ho : ops[i]? = some o)(h : (∀K : Act → World → Prop,Shut (∀a w,S w → (S w → wpAnyH P md ops Q S fuel (listed.setIfInBounds i true) a w) → K a w) → if Region.wanted o (yielded ops a.tmps)=true then Oper.wp P o a w K Q else K (a.put (o).dst undef) w))(hr : Region.ready md ops listed=[i] := by kernel_rfl): wpAnyH P md ops Q S (fuel + 1) listed a w := wpAnyH_ready hr (by simp) (AllReadyH.cons ho h AllReadyH.nil)
def ab{P : Program}{md : Region.Mode}{ops : Array Oper}{Q : Exit → Act → World → Prop}{S : World → Prop}(i j : Nat){o u : Oper}{fuel : Nat}{listed : Array Bool}{a : Act}{w : World}(ho : ops[i]? = some o)(hu : ops[j]? = some u)(h : (∀K : Act → World → Prop,Shut (∀a w,S w → (S w → wpAnyH P md ops Q S fuel (listed.setIfInBounds i true) a w) → K a w) → if Region.wanted o (yielded ops a.tmps)=true then Oper.wp P o a w K Q else K (a.put (o).dst undef) w))(k : (∀K : Act → World → Prop,Shut (∀a w,S w → (S w → wpAnyH P md ops Q S fuel (listed.setIfInBounds j true) a w) → K a w) → if Region.wanted u (yielded ops a.tmps)=true then Oper.wp P u a w K Q else K (a.put (u).dst undef) w))(hr : Region.ready md ops listed=[i,j] := by kernel_rfl): wpAnyH P md ops Q S (fuel + 1) listed a w := wpAnyH_ready hr (by simp) (AllReadyH.cons ho h (AllReadyH.cons hu k AllReadyH.nil))
theorem zzs: (type_of% @zz1) ∧ (type_of% @zz2) ∧ (type_of% @zz3) ∧ (type_of% @zz4) ∧ (type_of% @zz5) ∧ (type_of% @zz6) := ⟨@zz1,@zz2,@zz3,@zz4,@zz5,@zz6⟩
theorem aU: type_of% @Array.getElem?_eq_some_iff.{0} := @Array.getElem?_eq_some_iff.{0}
theorem aR: type_of% @Nat.le_refl := @Nat.le_refl
theorem aS: type_of% @Nat.lt_of_lt_of_le := @Nat.lt_of_lt_of_le
theorem aT: type_of% @Nat.le_trans := @Nat.le_trans
theorem zz: type_of% @AllReadyH.cons := @AllReadyH.cons
theorem jO: type_of% @AllReadyH.nil := @AllReadyH.nil
theorem vS: type_of% @bodyPost_ret := @bodyPost_ret
theorem vm: type_of% @List.getElem?_eq_some_iff := @List.getElem?_eq_some_iff
theorem vp: type_of% @List.getElem?_eq_getElem := @List.getElem?_eq_getElem
theorem yI: type_of% @beq_eq_false_iff_ne := @beq_eq_false_iff_ne
theorem ye: type_of% @heap_alloc_new := @heap_alloc_new
theorem yp: type_of% @World.cell?_of_block := @World.cell?_of_block
theorem wM: type_of% @List.mem_of_getElem? := @List.mem_of_getElem?
theorem wW: type_of% @World.block_lt_of_cell? := @World.block_lt_of_cell?
theorem wv: type_of% @List.drop_eq_getElem_cons := @List.drop_eq_getElem_cons
theorem wy: type_of% @cell_of_row := @cell_of_row
theorem aA: type_of% @List.length_append := @List.length_append
theorem aB: type_of% @List.length_cons := @List.length_cons
theorem aC: type_of% @List.mem_cons := @List.mem_cons
theorem aD: type_of% @List.length_map := @List.length_map
theorem aE: type_of% @World.size_alloc := @World.size_alloc
theorem aF: type_of% @List.getElem?_append_left := @List.getElem?_append_left
theorem aG: type_of% @List.getElem?_append_right := @List.getElem?_append_right
theorem aH: type_of% @List.length_drop := @List.length_drop
theorem aI: type_of% @List.length_take := @List.length_take
theorem aJ: type_of% @wpAnyH_done := @wpAnyH_done
theorem aK: type_of% @Nat.zero_le := @Nat.zero_le
theorem aL: type_of% @Nat.ne_of_lt := @Nat.ne_of_lt
theorem aM: type_of% @Bool.and_eq_true := @Bool.and_eq_true
theorem aN: type_of% @List.cons.injEq := @List.cons.injEq
end
variable {A:Option Addr} {B B' c i k m n p z:Nat} {D D':Nat->Prop} {a w w' w'':World} {e:TypeId} {l:List Nat} {xs ys:List Value}
section
section
open Go.RowKit
abbrev zA(l:List Int):List Value:=l.map (Value.int .u8)
def qh(a:Addr)(n:Nat):(a.add n).block=a.block:=by unfold Addr.add;split<;>rfl
def Lies(w:World)(B:Nat)(A:Option Addr)(c:Nat)(l:List Value):Prop:=
 (A=none->c=0)/\∀j u,l[j]? =some u->∃ad,A=some ad/\ad.block<B/\w.cell? (ad.add j)=some u
def Lies.nothing(w:World)(B:Nat):Lies w B none 0 []:=⟨fun _=>rfl,fun j u h=>by simp at h⟩
def Lies.below{l:List Value}(h:Lies w B A c l)(hb:Below B w w'):Lies w' B A c l:=
 ⟨h.1,fun j u hu=>by
  obtain⟨ad,e,hB,hc⟩:=h.2 j u hu
  exact⟨ad,e,hB,by rw[hb.cell (by rw[qh];exact hB)];exact hc⟩⟩
def Lies.more{l:List Value}(h:Lies w B A c l)(hB:B<=B'):Lies w B' A c l:=
 ⟨h.1,fun j u hu=>by
  obtain⟨ad,e,hb,hc⟩:=h.2 j u hu
  exact⟨ad,e,by omega,hc⟩⟩
def Lies.none_nil{l:List Value}(h:Lies w B none c l):l=[]/\c=0:=by
 refine⟨?_,h.1 rfl⟩;cases l with
 | nil=>rfl
 | cons x r=>
  obtain⟨ad,e,_⟩:=h.2 0 x rfl;cases e
def xG{base:Nat}{v:Value}(h:w.ownsRow base e 1 v n xs):∃A c,v=.slice A n c/\n<=c/\c<=maxLen/\Lies w w.heap.size A c xs:=by
 rcases h.2 with⟨rfl,rfl⟩|⟨g,cap,cur,rfl,hb,hg,hn,hm,hs,ht⟩
 ·have:xs=[]:=List.eq_nil_of_length_eq_zero (by simpa using h.1);subst this;exact⟨none,0,rfl,aR _,aK _,Lies.nothing _ _⟩
 ·exact⟨_,_,rfl,hn,hm,(fun e=>by cases e),fun j u hu=>⟨_,rfl,(h.lt g rfl).2,h.cells rfl j u hu⟩⟩
def qV{P:Program}{ops:Array Oper}{rest:List Oper}{o:Oper}{a:Act}{Q:Exit->Act->World->Prop}(hgd:o.guard=none)(s x:Operand)(t:TypeId)
  (ho:o.op=.call { callee:=.builtin .append,args:=#[s,x],argTypes:=#[t,t] })
  (base:Nat) (e:TypeId) (i:TypeInfo) (z:Value) (bytes:Nat) (ht:P.underlying t=some (.slice e)) (hi:P.info? e=some i) (hz:i.zero=some z)
  (hsize:i.size=1) (hby:i.bytes=bytes) (hzs:z.cells.size=1)
  (v:Value) (n:Nat) (xs:List Value) (hs:a.eval s=v) (hown:w.ownsRow base e 1 v n xs)
  (B:Nat) (A:Option Addr) (m c:Nat) (news:List Value) (hx:a.eval x=.slice A m c) (hm:news.length=m) (hr:Lies w B A c news) (h1:∀u∈news,u.oneCell'=true)
  (h63:n+m<=maxLen) (hbytes:(n+m)*bytes<=140737488355328) (hbase:base<=w.heap.size)
  (h:∀v' w',w'.ownsRow base e 1 v' (n+m) (xs++news)->w.grownBy w' v.ownBlock->wpList P ops Q rest (a.put o.dst v') w'):wpList P ops Q (o::rest) a w:=by
 cases A with
 | none=>
  obtain⟨rfl,rfl⟩:=hr.none_nil;have hm0:m=0:=by simpa using hm.symm
  subst hm0;exact wpList_append_own_none hgd s x t ho base e i 1 ht hi v n xs hs hown hx (h v w (by simpa using hown) (World.grownBy.refl _ _))
 | some ad=>
  refine wpList_append_own w hgd s x t ho base e i z 1 bytes ht hi hz hsize hby hzs (by omega) v n xs hs hown ad m c news hx (by omega) (fun j u hu=>?_) h1 h63 hbytes hbase (fun v' w' h2 h3 _=>h v' w' h2 h3);obtain⟨ad',e',_,hc⟩:=hr.2 j u hu;injection e' with e'
  subst e';exact hc
def xX(l:List Int):∀u∈zA l,u.oneCell'=true:=ints_oneCell .u8 l
def js{P:Program}(w:World)(src dst e:TypeId)(hs:P.underlying src=some (.slice e))(he:P.underlying e=some (.int .u8))(hd:P.underlying dst=some .string)
  (B:Nat) (A:Option Addr) (n c:Nat) (l:List Int) (hn:l.length=n) (hr:Lies w B A c (zA l)) :
  (convert src dst (.slice A n c)).run P w=.ok (.string (strOfNums l)) w:=by
 subst hn;cases A with
 | none=>
  have h:=hr.none_nil.1;have hl:l=[]:=by simpa using h
  subst hl;exact run_convert_bytes_nil w src e hs he _ _ dst hd
 | some ad=>
  have hl:=run_loadCells_list (P:=P) w ad (zA l) (fun j u hu=>by
   obtain⟨ad',e',_,hc⟩:=hr.2 j u hu;injection e' with e'
   subst e'
   exact hc)
  simp only[aD]at hl;rw[run_convert_bytes_string w src dst e _ _ c hs he hd,run_bytesToString w _ _ c l hl,foldl_push_bytes];simp[strOfNums,ByteArray.empty,ByteArray.emptyWithCapacity];rfl
def zoy(a:Addr)(i j:Nat):(a.add i).add j=a.add (i+j):=by
 unfold Addr.add;by_cases hi:i=0<;>by_cases hj:j=0<;>simp[hi,hj,Nat.add_assoc]
def Lies.cut{l:List Int}(h:Lies w B A c (zA l))(hc:l.length<=c):Lies w B (if c=p then A else A.map (fun x=>x.add p)) (c-p) (zA (l.drop p)):=by
 refine⟨fun e=>?_,fun j u hu=>?_⟩
 ·split at e
  ·omega
  ·have:A=none:=by simpa using e
   have:=h.1 this;omega
 ·have hu':(zA l)[p+j]? =some u:=by simpa[zA,List.getElem?_drop]using hu
  have hj:p+j<l.length:=by
   have:=(vm.1 hu').1;simpa using this
  obtain⟨ad,rfl,hB,hcell⟩:=h.2 (p+j) u hu';rw[if_neg (by omega)];exact⟨ad.add p,rfl,by rw[qh];exact hB,by rw[zoy];exact hcell⟩
def Lies.mid{l:List Int}(h:Lies w B A c (zA l))(hc:l.length<=c):Lies w B (if c=p then A else A.map (fun x=>x.add p)) (c-p) (zA ((l.drop p).take n)):=by
 refine⟨(h.cut hc).1,fun j u hu=>(h.cut hc).2 j u ?_⟩;have hj:j<n:=by
  have:=(vm.1 hu).1;simp at this;omega
 simpa[zA,List.getElem?_take,hj]using hu
def wB{base:Nat}{size:Nat}{v:Value}(h:w.ownsRow base e size v n xs)(hb:Below B w w')(hB:w.heap.size<=B):w'.ownsRow base e size v n xs:=by
 refine⟨h.1,?_⟩;rcases h.2 with h'|⟨g,cap,cur,rfl,h1,hg,rest⟩
 ·exact .inl h'
 ·refine .inr ⟨g,cap,cur,rfl,h1,?_,rest⟩;rw[hb.block g (aS (h.lt g rfl).2 hB)];exact hg
def vz{base base':Nat}{size:Nat}{v:Value}(h:w.ownsRow base e size v n xs)(hb:base'<=base):w.ownsRow base' e size v n xs:=by
 refine⟨h.1,?_⟩;rcases h.2 with h'|⟨g,cap,cur,hv,h1,rest⟩
 ·exact .inl h'
 ·exact .inr ⟨g,cap,cur,hv,by omega,rest⟩
def zlb{base:Nat}{v:Value}(h:w.ownsRow base e 1 v n xs)(hn:n=m)(hx:xs=ys):w.ownsRow base e 1 v m ys:=by
 subst hn hx;exact h
def zQ{r:Option Nat}(h1:w.grownBy w' r)(h2:w'.grownBy w'' r):w.grownBy w'' r:=
 ⟨h2.os.trans h1.os,h2.tape.trans h1.tape,h2.output.trans h1.output,aT h1.size h2.size,fun k hk hr=>(h2.block k (aS hk h1.size) hr).trans (h1.block k hk hr)⟩
def zW(h:Below B a w)(n:Nat):Below B a (w.drewN n):=⟨h.os,h.tape,h.output,h.size,h.block⟩
def Byt(l:List Int):Prop:=∀b∈l,0<=b/\b<256
def Byt.nil:Byt []:=by intro b hb;cases hb
def Byt.append{a b:List Int}(ha:Byt a)(hb:Byt b):Byt (a++b):=by
 intro x hx;rcases List.mem_append.1 hx with h|h
 ·exact ha x h
 ·exact hb x h
def Byt.sub{a b:List Int}(hb:Byt b)(h:∀x∈a,x∈b):Byt a:=fun x hx=>hb x (h x hx)
abbrev ints(l:List Nat):List Int:=l.map Int.ofNat
def bts(l:List Nat):List Value:=zA (ints l)
def Byn(l:List Nat):Prop:=∀b∈l,b<256
def strN(l:List Nat):ByteArray:=strOfNums (ints l)
def Byn.byt(h:Byn l):Byt (ints l):=by
 intro b hb;obtain⟨x,hx,rfl⟩:=List.mem_map.1 hb;have:=h x hx;simp;omega
def Byn.sub{a b:List Nat}(hb:Byn b)(h:∀x∈a,x∈b):Byn a:=fun x hx=>hb x (h x hx)
def zkc{k b:Nat}(h:l[k]? =some b):(bts l)[k]? =some (.int .u8 (b:Nat)):=by simp[bts,h]
def Lies.nat(h:Lies w B A c (bts l))(hk:k<l.length):∃(ad:Addr) (b:Nat),A=some ad/\ad.block<B/\l[k]? =some b/\w.cell? (ad.add k)=some (.int .u8 (b:Nat)):=by
 have hl:l[k]? =some l[k]:=vp hk;obtain⟨ad,h1,h2,h3⟩:=h.2 k _ (zkc hl);exact⟨ad,_,h1,h2,hl,h3⟩
def j8(h:Byn l){k b:Nat}(hb:l[k]? =some b):b<256:=h b (wM hb)
def Lies.midN(h:Lies w B A c (bts l))(hc:l.length<=c):Lies w B (if c=p then A else A.map (fun x=>x.add p)) (c-p) (bts ((l.drop p).take n)):=by
 have:=Lies.mid h (p:=p) (n:=n) (by simpa using hc);simpa[bts,List.map_take,List.map_drop]using this
def Lies.cutN(h:Lies w B A c (bts l))(hc:l.length<=c):Lies w B (if c=p then A else A.map (fun x=>x.add p)) (c-p) (bts (l.drop p)):=by
 have:=Lies.cut h (p:=p) (by simpa using hc);simpa[bts,List.map_take,List.map_drop]using this
def xr(l:List Nat):(strN l).data=(l.map UInt8.ofNat).toArray:=by
 simp[strN,strOfNums,Function.comp_def]
def vk(l:List Nat):(strN l).size=l.length:=by
 show(strN l).data.size=_;rw[xr];simp
def zc2{a b:List Nat}(ha:Byn a)(hb:Byn b)(h:strN a=strN b):a=b:=by
 have h1:(strN a).data=(strN b).data:=by rw[h]
 rw[xr,xr]at h1;have h2:a.map UInt8.ofNat=b.map UInt8.ofNat:=by simpa using h1
 have h3:=congrArg (List.map UInt8.toNat) h2;simp only[List.map_map]at h3;have fa:a.map (UInt8.toNat ∘ UInt8.ofNat)=a:=by
  conv=>rhs;rw[<- List.map_id a]
  refine List.map_congr_left fun x hx=>?_;have:=ha x hx;simp;omega
 have fb:b.map (UInt8.toNat ∘ UInt8.ofNat)=b:=by
  conv=>rhs;rw[<- List.map_id b]
  refine List.map_congr_left fun x hx=>?_;have:=hb x hx;simp;omega
 rwa [fa,fb]at h3
def zxz(s:ByteArray):∃l:List Nat,Byn l/\s=strN l:=by
 refine⟨s.data.toList.map UInt8.toNat,fun b hb=>?_,?_⟩
 ·obtain⟨x,_,rfl⟩:=List.mem_map.1 hb;exact x.toNat_lt
 ·apply ByteArray.ext;rw[xr];simp[Function.comp_def]
def zac{a b:List Nat}(ha:Byn a)(hb:Byn b):((strN a).toList==(strN b).toList)=decide (a=b):=by
 rw[Bool.eq_iff_iff];simp only[beq_iff_eq,decide_eq_true_eq];constructor
 ·intro h;rw[ByteArray.toList_eq,ByteArray.toList_eq]at h;exact zc2 ha hb (ByteArray.ext (by simpa using h))
 ·intro h;rw[h]
def xO(b:Nat):Bool:=decide (97<=b)&&decide (b<=122)
def qu(b:Nat):Bool:=decide (48<=b)&&decide (b<=57)
def kE(b:Nat):Bool:=xO b || qu b || decide (b=95)
def xZ(b:Nat):Bool:=decide (32<=b)&&decide (b<=126)&&decide (b≠34)&&decide (b≠92)
def jQ(b:Nat):Bool:=decide (b=9) || decide (b=10) || decide (b=13) || decide (b=32)
def run(p:Nat->Bool):List Nat->Nat
 | []=>0
 | b::r=>if p b then run p r+1 else 0
def zbm(p:Nat->Bool):∀l,run p l<=l.length
 | []=>aR _
 | b::r=>by
  unfold run;have:=zbm p r
  split
  ·simp;omega
  ·exact aK _
def zln(p:Nat->Bool):∀l:List Nat,∀b∈l.take (run p l),p b=true
 | [],b,h=>by simp at h
 | c::r,b,h=>by
  unfold run at h;by_cases hp:p c=true
  ·rw[if_pos hp,List.take_succ_cons]at h;rcases aC.1 h with rfl|h
   ·exact hp
   ·exact zln p r b h
  ·rw[if_neg hp]at h;simp at h
def wD:Bool->List Nat->Nat
 | _,[]=>0
 | c,b::r=>if((b==35 || (c&&b != 10)) || jQ b)then wD (b==35 || (c&&b != 10)) r+1 else 0
def zhi:∀c l,wD c l<=l.length
 | _,[]=>aR _
 | c,b::r=>by
  unfold wD;have:=zhi (b==35 || (c&&b != 10)) r
  split
  ·simp;omega
  ·exact aK _
def xV:List (List Nat):=[[102,110],[108,101,116],[105,102],[101,108,115,101],[102,111,114],[116,111],[114,101,116,117,114,110],[112,117,116],[100,101,108],[103,101,116],[104,97,115],[108,101,110],[116,114,117,101],[102,97,108,115,101],[105,110,116],[98,111,111,108],[98,121,116,101,115]]
def twos:List (List Nat):=[[61,61],[33,61],[60,61],[62,61],[38,38],[124,124]]
def ones:List (List Nat):=[[40],[41],[123],[125],[44],[59],[58],[61],[60],[62],[43],[45],[42],[47],[37],[33]]
def xU:List (List Nat):=twos++ones
def yz(s:List Nat):Bool:=xV.contains s
structure Read where
 err:Nat
 kind:Nat
 aZ:List Nat
 num:Nat
 len:Nat
def bad(e:Nat):Read:=⟨e,0,[],0,0⟩
def zer(r:List Nat):Read:=
 if run kE r > 16 then bad 32 else⟨0,bif yz (r.take (run kE r))then 4 else 1,r.take (run kE r),0,run kE r⟩
def kG:List Nat->Nat->Option Nat
 | [],n=>some n
 | d::r,n=>if n > (9223372036854775807-(d-48)) / 10 then none else kG r (n*10+(d-48))
def numT(r:List Nat):Read:=
 match kG (r.take (run qu r)) 0 with
 | none=>bad 32
 | some v=>⟨0,2,[],v,run qu r⟩
def jN(r:List Nat):Read:=
 if(r.drop 1)[run xZ (r.drop 1)]? =some 34 then
  (if run xZ (r.drop 1) > 64 then bad 32 else⟨0,3,(r.drop 1).take (run xZ (r.drop 1)),0,run xZ (r.drop 1)+2⟩)
 else bad 31
def xf(r:List Nat):List Nat:=if twos.contains (r.take 2)then r.take 2 else if ones.contains (r.take 1)then r.take 1 else []
def yu(r:List Nat):Read:=if xf r=[]then bad 31 else⟨0,4,xf r,0,(xf r).length⟩
def qC(r:List Nat):Read:=
 match r with
 | []=>bad 31
 | b::_=>if xO b then zer r else if qu b then numT r else if b=34 then jN r else yu r
structure Tok where
 kind:Nat
 aZ:List Nat
 num:Nat
 aW:Nat
def skip(l:List Nat)(p:Nat):Nat:=p+wD false (l.drop p)
structure Out where
 err:Nat
 toks:List Tok
 aW:Nat
def vy(l:List Nat):Nat->Nat->List Tok->Out
 | 0,_,ts=>⟨0,ts,0⟩
 | f+1,p,ts=>
  if p<l.length then
   if(qC (l.drop p)).err≠0 then⟨(qC (l.drop p)).err,[],p⟩
   else if ts.length=2048 then⟨2,[],p⟩
   else vy l f (skip l (p+(qC (l.drop p)).len)) (ts++[⟨(qC (l.drop p)).kind,(qC (l.drop p)).aZ,(qC (l.drop p)).num,p⟩])
  else⟨0,ts,0⟩
def xx(l:List Nat):Out:=if l.length > 4096 then⟨2,[],0⟩else vy l (l.length+1) (skip l 0) []
def zco(l:List Nat)(p:Nat):p<=skip l p:=Nat.le_add_right _ _
def zkz(l:List Nat)(p:Nat)(h:p<=l.length):skip l p<=l.length:=by
 unfold skip;have:=zhi false (l.drop p);simp at this;omega
def zeo(r:List Nat):(xf r).length<=r.length:=by
 unfold xf
 repeat' split
 all_goals simp
 all_goals omega
def vV(b:Nat)(r:List Nat):qC (b::r)=if xO b then zer (b::r)else if qu b then numT (b::r)else if b=34 then jN (b::r)else yu (b::r):=rfl
def zcz(r:List Nat)(h:(qC r).err=0):1<=(qC r).len/\(qC r).len<=r.length:=by
 cases r with
 | nil=>simp[qC,bad]at h
 | cons b r=>
  rw[vV]at h⊢;by_cases h1:xO b=true
  ·simp only[h1,if_true]at h⊢;have hr:run kE (b::r)=run kE r+1:=by simp[run,kE,h1]
   have hl:=zbm kE (b::r);unfold zer at h⊢
   split at h
   ·simp[bad]at h
   ·rename_i hn
    rw[if_neg hn];dsimp only;omega
  ·rw[if_neg h1]at h⊢;by_cases h2:qu b=true
   ·simp only[h2,if_true]at h⊢;have hr:run qu (b::r)=run qu r+1:=by simp[run,h2]
    have hl:=zbm qu (b::r);unfold numT at h⊢;cases hv:kG (List.take (run qu (b::r)) (b::r)) 0 with
    | none=>rw[hv]at h;simp[bad]at h
    | some v=>dsimp only;omega
   ·rw[if_neg h2]at h⊢;by_cases h3:b=34
    ·simp only[h3,if_true]at h⊢;unfold jN at h⊢;simp only[List.drop_succ_cons,List.drop_zero]at h⊢
     split at h
     ·rename_i hq
      rw[if_pos hq]
      split at h
      ·simp[bad]at h
      ·rename_i hn
       rw[if_neg hn];have:=(vm.1 hq).1;simp;omega
     ·simp[bad]at h
    ·rw[if_neg h3]at h⊢;have hl:=zeo (b::r);unfold yu at h⊢
     split at h
     ·simp[bad]at h
     ·rename_i hn
      rw[if_neg hn];dsimp only;have:=List.length_pos_iff.2 hn;omega
def yn(l:List Nat):∀(f g p:Nat) (ts:List Tok),l.length-p<f->l.length-p<g->vy l f p ts=vy l g p ts
 | 0,_,_,_,h,_=>by omega
 | _,0,_,_,_,h=>by omega
 | f+1,g+1,p,ts,hf,hg=>by
  unfold vy
  split
  ·split
   ·rfl
   ·rename_i hp he
    split
    ·rfl
    ·have h1:=zcz (l.drop p) (by simpa using he);have h2:=zco l (p+(qC (l.drop p)).len);exact yn l f g _ _ (by omega) (by omega)
  ·rfl
def rest(l:List Nat)(p:Nat)(ts:List Tok):Out:=vy l (l.length-p+1) p ts
def zir(h:l.length<=4096):xx l=rest l (skip l 0) []:=by
 unfold xx rest;rw[if_neg (by omega)];exact yn l _ _ _ _ (by have:=zco l 0;omega) (by omega)
def zor(ts:List Tok)(h:l.length<=p):rest l p ts=⟨0,ts,0⟩:=by
 unfold rest vy;rw[if_neg (by omega)]
def znv(ts:List Tok)(h:p<l.length)(he:(qC (l.drop p)).err≠0):rest l p ts=⟨(qC (l.drop p)).err,[],p⟩:=by
 unfold rest vy;rw[if_pos h,if_pos he]
def zj6{ts:List Tok}(h:p<l.length)(he:(qC (l.drop p)).err=0)(ht:ts.length=2048):rest l p ts=⟨2,[],p⟩:=by
 unfold rest vy;rw[if_pos h,if_neg (by simpa using he),if_pos ht]
def zkv{ts:List Tok}(h:p<l.length)(he:(qC (l.drop p)).err=0)(ht:ts.length≠2048):rest l p ts=rest l (skip l (p+(qC (l.drop p)).len)) (ts++[⟨(qC (l.drop p)).kind,(qC (l.drop p)).aZ,(qC (l.drop p)).num,p⟩]):=by
 have h1:=zcz (l.drop p) he;have h2:=zco l (p+(qC (l.drop p)).len)
 conv=>lhs;unfold rest vy
 rw[if_pos h,if_neg (by simpa using he),if_neg ht];exact yn l _ _ _ _ (by omega) (by omega)
inductive Ex where
 | mk (op num:Nat) (aZ:List Nat) (aX:List Ex) (aW:Nat)
def Ex.op:Ex->Nat|.mk o _ _ _ _=>o
def Ex.num:Ex->Nat|.mk _ n _ _ _=>n
def Ex.aZ:Ex->List Nat|.mk _ _ t _ _=>t
def Ex.aX:Ex->List Ex|.mk _ _ _ k _=>k
def Ex.aW:Ex->Nat|.mk _ _ _ _ p=>p
inductive St where
 | mk (op:Nat) (aZ:List Nat) (aY:List Ex) (body els:List St) (aW:Nat)
def St.op:St->Nat|.mk o _ _ _ _ _=>o
def St.aZ:St->List Nat|.mk _ t _ _ _ _=>t
def St.aY:St->List Ex|.mk _ _ e _ _ _=>e
def St.body:St->List St|.mk _ _ _ b _ _=>b
def St.els:St->List St|.mk _ _ _ _ b _=>b
def St.aW:St->Nat|.mk _ _ _ _ _ p=>p
structure Fu where
 name:List Nat
 params:List (List Nat×Nat)
 result:Nat
 body:List St
 aW:Nat
inductive Res(α:Type) where
 | ok (v:α) (rest:List Tok)
 | bad (code aW:Nat)
abbrev Par(α:Type):=List Tok->Res α
def Res.bind{α β:Type}(r:Res α)(f:α->List Tok->Res β):Res β:=
 match r with
 | .ok v rest=>f v rest
 | .bad c p=>.bad c p
@[simp] theorem Res.bind_ok {α β:Type} (v:α) (r:List Tok) (f:α->List Tok->Res β):(Res.ok v r).bind f=f v r:=rfl
@[simp] theorem Res.bind_bad {α β:Type} (c p:Nat) (f:α->List Tok->Res β):(Res.bad c p:Res α).bind f=.bad c p:=rfl
def qq{α:Type}(p:Par α):Prop:=∀ts v r,p ts=.ok v r->r.length<=ts.length
def qL{α:Type}(p:Par α):Prop:=∀ts v r,p ts=.ok v r->r.length<ts.length
def zov(z:Nat):Tok:=⟨0,[],0,z⟩
def qE(z:Nat):List Tok->Tok
 | []=>zov z
 | t::_=>t
def zcf(ss:List (List Nat))(t:Tok):Bool:=decide (t.kind=4)&&ss.contains t.aZ
def zC(z:Nat)(ss:List (List Nat))(ts:List Tok):Bool:=zcf ss (qE z ts)
def yG{α:Type}(z c:Nat)(ts:List Tok):Res α:=.bad c (qE z ts).aW
def ju(z k:Nat)(ts:List Tok):Res Tok:=if(qE z ts).kind=k then .ok (qE z ts) ts.tail else yG z 41 ts
def qt(z:Nat)(s:List Nat)(ts:List Tok):Res Unit:=if zC z [s] ts then .ok () ts.tail else yG z 41 ts
def yE(z:Nat)(ts:List Tok):Res (List Nat):=(ju z 1 ts).bind fun t r=>.ok t.aZ r
def ym(z:Nat)(ss:List (List Nat))(p:Par Ex):Nat->Ex->Par Ex
 | 0,x,ts=>.ok x ts
 | f+1,x,ts=>if zC z ss ts then(p ts.tail).bind fun y r=>ym z ss p f (.mk 6 0 (qE z ts).aZ [x,y] (qE z ts).aW) r else .ok x ts
def xb(z:Nat)(ss:List (List Nat))(p:Par Ex):Par Ex:=fun ts=>(p ts).bind fun x r=>ym z ss p r.length x r
def xN(z:Nat)(p:Par Ex)(x:Ex):Par Ex:=fun ts=>(ju z 4 ts).bind fun t r=>(p r).bind fun y r'=>.ok (.mk 6 0 t.aZ [x,y] t.aW) r'
def sOr:List (List Nat):=[[124,124]]
def sAnd:List (List Nat):=[[38,38]]
def sCmp:List (List Nat):=[[61,61],[33,61],[60],[60,61],[62],[62,61]]
def sSum:List (List Nat):=[[43],[45]]
def zkq:List (List Nat):=[[42],[47],[37]]
def sOne:List (List Nat):=[[45],[33]]
def sumP(z:Nat)(one:Par Ex):Par Ex:=xb z sSum (xb z zkq one)
def kz(z:Nat)(one:Par Ex):Par Ex:=fun ts=>(sumP z one ts).bind fun x r=>if zC z sCmp r then xN z (sumP z one) x r else .ok x r
def wT(z:Nat)(one:Par Ex):Par Ex:=xb z sOr (xb z sAnd (kz z one))
def vH{α:Type}(z:Nat)(p:Par α):Nat->List α->Par (List α)
 | 0,l,ts=>(qt z [41] ts).bind fun _ r=>.ok l r
 | f+1,l,ts=>if zC z [[44]] ts then(p ts.tail).bind fun y r=>vH z p f (l++[y]) r else(qt z [41] ts).bind fun _ r=>.ok l r
def wq{α:Type}(z:Nat)(p:Par α):Par (List α):=fun ts=>
 (qt z [40] ts).bind fun _ r=>if zC z [[41]] r then .ok [] r.tail else(p r).bind fun x r'=>vH z p r'.length [x] r'
def qc(z:Nat)(e:Par Ex):Par (List Ex):=fun ts=>(qt z [40] ts).bind fun _ r=>(e r).bind fun x r'=>(qt z [41] r').bind fun _ r''=>.ok [x] r''
def ze6(z:Nat)(e:Par Ex):Par (List Ex):=fun ts=>(qt z [40] ts).bind fun _ r=>(e r).bind fun x r'=>(qt z [44] r').bind fun _ r''=>(e r'').bind fun y q=>(qt z [41] q).bind fun _ q'=>.ok [x,y] q'
def zai(z:Nat)(e:Par Ex):Par Ex:=fun ts=>(ju z 1 ts).bind fun t r=>
 if zC z [[40]] r then(wq z e r).bind fun l r'=>.ok (.mk 5 0 t.aZ l t.aW) r' else .ok (.mk 4 0 t.aZ [] t.aW) r
def jy(z:Nat)(e:Par Ex):Par Ex:=fun ts=>
 if zC z [[116,114,117,101]] ts then .ok (.mk 2 1 [] [] 0) ts.tail
 else if zC z [[102,97,108,115,101]] ts then .ok (.mk 2 0 [] [] 0) ts.tail
 else if zC z [[103,101,116]] ts then(qc z e ts.tail).bind fun l r=>.ok (.mk 8 0 [] l 0) r
 else if zC z [[104,97,115]] ts then(qc z e ts.tail).bind fun l r=>.ok (.mk 9 0 [] l 0) r
 else(qt z [108,101,110] ts).bind fun _ q=>(qc z e q).bind fun l r=>.ok (.mk 10 0 [] l 0) r
def Ex.at(e:Ex)(p:Nat):Ex:=.mk e.op e.num e.aZ e.aX p
def kv(z:Nat)(e:Par Ex):Par Ex:=fun ts=>
 if(qE z ts).kind=2 then .ok (.mk 1 (qE z ts).num [] [] (qE z ts).aW) ts.tail
 else if(qE z ts).kind=3 then .ok (.mk 3 0 (qE z ts).aZ [] (qE z ts).aW) ts.tail
 else if(qE z ts).kind=1 then zai z e ts
 else if zC z [[40]] ts then(qc z e ts).bind fun l r=>.ok (l.headD (.mk 0 0 [] [] 0)) r
 else(jy z e ts).bind fun x r=>.ok (x.at (qE z ts).aW) r
def oneS(z:Nat)(e o:Par Ex):Par Ex:=fun ts=>
 if zC z sOne ts then(o ts.tail).bind fun x r=>.ok (.mk 7 0 (qE z ts).aZ [x] (qE z ts).aW) r else kv z e ts
def both(z:Nat):Nat->Par Ex×Par Ex
 | 0=>(fun ts=>yG z 42 ts,fun ts=>yG z 42 ts)
 | g+1=>(wT z (oneS z (both z g).1 (both z g).2),oneS z (both z g).1 (both z g).2)
def zin(z g:Nat):Par Ex:=(both z g).1
def oneP(z g:Nat):Par Ex:=(both z g).2
def j7(z:Nat):Par Nat:=fun ts=>
 if zC z [[105,110,116]] ts then .ok 1 ts.tail else if zC z [[98,111,111,108]] ts then .ok 2 ts.tail
 else(qt z [98,121,116,101,115] ts).bind fun _ r=>.ok 3 r
def setP(z:Nat)(e:Par Ex):Par (List Nat×Ex):=fun ts=>(yE z ts).bind fun s r=>(qt z [61] r).bind fun _ r'=>(e r').bind fun x q=>.ok (s,x) q
def ze8(ts:List Tok):Bool:=
 match ts with
 | a::b::_=>decide (a.kind=1)&&zcf [[61]] b
 | _=>false
def jn(z:Nat)(e:Par Ex):Par St:=fun ts=>
 if zC z [[108,101,116]] ts then(setP z e ts.tail).bind fun x r=>.ok (.mk 1 x.1 [x.2] [] [] 0) r
 else if zC z [[114,101,116,117,114,110]] ts then(if zC z [[59]] ts.tail then .ok (.mk 5 [] [] [] [] 0) ts.tail else(e ts.tail).bind fun x r=>.ok (.mk 5 [] [x] [] [] 0) r)
 else if zC z [[112,117,116]] ts then(ze6 z e ts.tail).bind fun l r=>.ok (.mk 6 [] l [] [] 0) r
 else if zC z [[100,101,108]] ts then(qc z e ts.tail).bind fun l r=>.ok (.mk 7 [] l [] [] 0) r
 else if ze8 ts then(setP z e ts).bind fun x r=>.ok (.mk 2 x.1 [x.2] [] [] 0) r
 else(e ts).bind fun x r=>.ok (.mk 8 [] [x] [] [] 0) r
def j5(z:Nat)(e:Par Ex)(b:Par (List St)):Par St:=fun ts=>(e ts).bind fun x r=>(b r).bind fun l q=>
 if zC z [[101,108,115,101]] q then(b q.tail).bind fun m q'=>.ok (.mk 3 [] [x] l m 0) q' else .ok (.mk 3 [] [x] l [] 0) q
def zid(z:Nat)(e:Par Ex)(b:Par (List St)):Par St:=fun ts=>(setP z e ts).bind fun x r=>(qt z [116,111] r).bind fun _ r'=>(e r').bind fun y q=>(b q).bind fun l q'=>.ok (.mk 4 x.1 [x.2,y] l [] 0) q'
def St.at(s:St)(p:Nat):St:=.mk s.op s.aZ s.aY s.body s.els p
def za5(z:Nat)(e:Par Ex)(b:Par (List St)):Par St:=fun ts=>
 (if zC z [[105,102]] ts then j5 z e b ts.tail else if zC z [[102,111,114]] ts then zid z e b ts.tail
  else(jn z e ts).bind fun s r=>(qt z [59] r).bind fun _ r'=>.ok s r').bind fun s r=>.ok (s.at (qE z ts).aW) r
def kU(z:Nat)(p:Par St):Nat->List St->Par (List St)
 | 0,l,ts=>if zC z [[125]] ts then .ok l ts.tail else(p ts).bind fun _ _=>yG z 41 ts
 | f+1,l,ts=>if zC z [[125]] ts then .ok l ts.tail else(p ts).bind fun s r=>kU z p f (l++[s]) r
def jf(z:Nat):Nat->Par (List St)
 | 0=>fun ts=>yG z 42 ts
 | g+1=>fun ts=>(qt z [123] ts).bind fun _ r=>kU z (za5 z (zin z g) (jf z g)) r.length [] r
def jU(z:Nat):Par (List Nat×Nat):=fun ts=>(yE z ts).bind fun s r=>(qt z [58] r).bind fun _ r'=>(j7 z r').bind fun t q=>.ok (s,t) q
def zh5(z:Nat):Par Fu:=fun ts=>(qt z [102,110] ts).bind fun _ r=>(yE z r).bind fun s r1=>(wq z (jU z) r1).bind fun l r2=>
 (if zC z [[58]] r2 then j7 z r2.tail else .ok 0 r2).bind fun t r3=>(jf z 32 r3).bind fun b r4=>.ok ⟨s,l,t,b,(qE z ts).aW⟩ r4
def za1(z:Nat):Nat->List Fu->Par (List Fu)
 | 0,l,ts=>.ok l ts
 | f+1,l,ts=>if ts.isEmpty then .ok l []else(zh5 z ts).bind fun x r=>za1 z f (l++[x]) r
def ja(z:Nat):Par (List Fu):=fun ts=>za1 z ts.length [] ts
structure zkj where
 err:Nat
 funcs:List Fu
 aW:Nat
def jS(l:List Nat):zkj:=
 if(xx l).err=0 then
  match ja l.length (xx l).toks with
  | .ok fs _=>⟨0,fs,0⟩
  | .bad c p=>⟨c,[],p⟩
 else⟨(xx l).err,[],(xx l).aW⟩
def RowF(w:World)(D:Nat->Prop)(n:Nat)(xs:List Value)(V:Value):Prop:=
 ∃A c,V=.slice A n c/\n<=c/\c<=maxLen/\(A=none->c=0)/\∀j u,xs[j]? =some u->∃ad,A=some ad/\D ad.block/\w.cell? (ad.add j)=some u
def Same(D:Nat->Prop)(w w':World):Prop:=∀k,D k->w'.heap[k]? =w.heap[k]?
def Rng(lo B:Nat):Nat->Prop:=fun k=>lo<=k/\k<B
def Same.cell(h:Same D w w'){a:Addr}(h1:D a.block):w'.cell? a=w.cell? a:=yp (h _ h1)
def RowF.same{V:Value}(h:RowF w D n xs V)(hs:Same D w w'):RowF w' D n xs V:=by
 obtain⟨A,c,h1,h2,h3,h4,h5⟩:=h;refine⟨A,c,h1,h2,h3,h4,fun j u hu=>?_⟩;obtain⟨ad,e,g1,g3⟩:=h5 j u hu;exact⟨ad,e,g1,by rw[hs.cell (by rw[qh];exact g1)];exact g3⟩
def RowF.more{V:Value}(h:RowF w D n xs V)(h1:∀k,D k->D' k):RowF w D' n xs V:=by
 obtain⟨A,c,e1,e2,e3,e4,e5⟩:=h;refine⟨A,c,e1,e2,e3,e4,fun j u hu=>?_⟩;obtain⟨ad,e,g1,g3⟩:=e5 j u hu;exact⟨ad,e,h1 _ g1,g3⟩
def RowF.nothing(w:World)(D:Nat->Prop):RowF w D 0 [] (.slice none 0 0):=⟨none,0,rfl,aR _,aK _,fun _=>rfl,fun j u h=>by simp at h⟩
def RowF.own{base:Nat}{size:Nat}{V:Value}(h:w.ownsRow base e size V n xs):RowF w (Rng base w.heap.size) n xs V:=by
 have hb:=h;rcases h.2 with⟨rfl,rfl⟩|⟨g,cap,cur,rfl,h1,hg,hn,hm,hs,ht⟩
 ·have:xs=[]:=List.eq_nil_of_length_eq_zero (by simpa using h.1);subst this;exact RowF.nothing _ _
 ·exact⟨_,_,rfl,hn,hm,(fun e=>by cases e),fun j u hu=>⟨_,rfl,⟨h1,(hb.lt g rfl).2⟩,hb.cells rfl j u hu⟩⟩
def exC(e:Ex)(k:Value):List Value:=[.int .i64 e.op,.int .i64 e.num,.string (strN e.aZ),k,.int .i64 e.aW]
def exsC(l:List Ex)(ks:List Value):List Value:=(List.zipWith exC l ks).flatten
inductive ExsC(w:World)(D:Nat->Prop):List Ex->Value->Prop
 | mk (l:List Ex) (ks:List Value) (V:Value) (hk:ks.length=l.length) (h1:RowF w D l.length (exsC l ks) V) (h2:∀(i:Nat) (e:Ex) (k:Value),l[i]? =some e->ks[i]? =some k->ExsC w D e.aX k):ExsC w D l V
def ExsC.same{l:List Ex}{V:Value}(h:ExsC w D l V)(hs:Same D w w'):ExsC w' D l V:=by
 induction h with
 | mk l ks V hk h1 _ ih=>exact .mk l ks V hk (h1.same hs) ih
def ExsC.more{l:List Ex}{V:Value}(h:ExsC w D l V)(g1:∀k,D k->D' k):ExsC w D' l V:=by
 induction h with
 | mk l ks V hk h1 _ ih=>exact .mk l ks V hk (h1.more g1) ih
def ExsC.nothing(w:World)(D:Nat->Prop):ExsC w D [] (.slice none 0 0):=.mk [] [] _ rfl (RowF.nothing _ _) (fun i e k h=>by simp at h)
def ExV(w:World)(D:Nat->Prop)(e:Ex)(v:Value):Prop:=∃k,v=.agg (exC e k).toArray/\ExsC w D e.aX k
def ExV.more{e:Ex}{v:Value}(h:ExV w D e v)(g1:∀k,D k->D' k):ExV w D' e v:=by
 obtain⟨k,h1,h2⟩:=h;exact⟨k,h1,h2.more g1⟩
def zef(l:List Ex)(ks:List Value)(hk:ks.length=l.length)(e:Ex)(k:Value):exsC (l++[e]) (ks++[k])=exsC l ks++exC e k:=by
 simp[exsC,List.zipWith_append hk.symm]
def stC(s:St)(e b f:Value):List Value:=[.int .i64 s.op,.string (strN s.aZ),e,b,f,.int .i64 s.aW]
structure qM where
 e:Value
 b:Value
 f:Value
def stsC(l:List St)(ks:List qM):List Value:=(List.zipWith (fun s k=>stC s k.e k.b k.f) l ks).flatten
inductive StsC(w:World)(D:Nat->Prop):List St->Value->Prop
 | mk (l:List St) (ks:List qM) (V:Value) (hk:ks.length=l.length) (h1:RowF w D l.length (stsC l ks) V) (he:∀(i:Nat) (s:St) (k:qM),l[i]? =some s->ks[i]? =some k->ExsC w D s.aY k.e)
   (hb:∀(i:Nat) (s:St) (k:qM),l[i]? =some s->ks[i]? =some k->StsC w D s.body k.b) (hf:∀(i:Nat) (s:St) (k:qM),l[i]? =some s->ks[i]? =some k->StsC w D s.els k.f):StsC w D l V
def StsC.same{l:List St}{V:Value}(h:StsC w D l V)(hs:Same D w w'):StsC w' D l V:=by
 induction h with
 | mk l ks V hk h1 he _ _ ib iF=>exact .mk l ks V hk (h1.same hs) (fun i s k a b=>(he i s k a b).same hs) ib iF
def StsC.more{l:List St}{V:Value}(h:StsC w D l V)(g1:∀k,D k->D' k):StsC w D' l V:=by
 induction h with
 | mk l ks V hk h1 he _ _ ib iF=>exact .mk l ks V hk (h1.more g1) (fun i s k a b=>(he i s k a b).more g1) ib iF
def StsC.nothing(w:World)(D:Nat->Prop):StsC w D [] (.slice none 0 0):=.mk [] [] _ rfl (RowF.nothing _ _) (fun i e k h=>by simp at h) (fun i e k h=>by simp at h) (fun i e k h=>by simp at h)
def StV(w:World)(D:Nat->Prop)(s:St)(v:Value):Prop:=∃k:qM,v=.agg (stC s k.e k.b k.f).toArray/\ExsC w D s.aY k.e/\StsC w D s.body k.b/\StsC w D s.els k.f
def zmk(l:List St)(ks:List qM)(hk:ks.length=l.length)(s:St)(k:qM):stsC (l++[s]) (ks++[k])=stsC l ks++stC s k.e k.b k.f:=by
 simp[stsC,List.zipWith_append hk.symm]
def xH{α:Type}{l:List α}{x y:α}(h:(l++[x])[i]? =some y):l[i]? =some y\/(i=l.length/\y=x):=by
 by_cases hi:i<l.length
 ·rw[aF hi]at h;exact .inl h
 ·rw[aG (by omega)]at h;have:=(vm.1 h).1;simp at this;have e:i-l.length=0:=by omega
  rw[e]at h;simp at h;exact .inr ⟨by omega,h.symm⟩
def paC(p:List Nat×Nat):List Value:=[.string (strN p.1),.int .i64 p.2]
def pasC(l:List (List Nat×Nat)):List Value:=l.flatMap paC
structure Two where
 p:Value
 b:Value
def fuC(f:Fu)(p b:Value):List Value:=[.string (strN f.name),p,.int .i64 f.result,b,.int .i64 f.aW]
def fusC(l:List Fu)(ks:List Two):List Value:=(List.zipWith (fun s k=>fuC s k.p k.b) l ks).flatten
def FuK(w:World)(D:Nat->Prop)(f:Fu)(k:Two):Prop:=RowF w D f.params.length (pasC f.params) k.p/\StsC w D f.body k.b
def FuK.same{f:Fu}{k:Two}(h:FuK w D f k)(hs:Same D w w'):FuK w' D f k:=⟨h.1.same hs,h.2.same hs⟩
def FuK.more{f:Fu}{k:Two}(h:FuK w D f k)(g1:∀k,D k->D' k):FuK w D' f k:=⟨h.1.more g1,h.2.more g1⟩
def FusC(w:World)(D:Nat->Prop)(l:List Fu)(V:Value):Prop:=
 ∃ks:List Two,ks.length=l.length/\RowF w D l.length (fusC l ks) V/\∀(i:Nat) (f:Fu) (k:Two),l[i]? =some f->ks[i]? =some k->FuK w D f k
def FusC.same{l:List Fu}{V:Value}(h:FusC w D l V)(hs:Same D w w'):FusC w' D l V:=by
 obtain⟨ks,h1,h2,h3⟩:=h;exact⟨ks,h1,h2.same hs,fun i f k a b=>(h3 i f k a b).same hs⟩
def FusC.more{l:List Fu}{V:Value}(h:FusC w D l V)(g1:∀k,D k->D' k):FusC w D' l V:=by
 obtain⟨ks,h1,h2,h3⟩:=h;exact⟨ks,h1,h2.more g1,fun i f k a b=>(h3 i f k a b).more g1⟩
def FusC.nothing(w:World)(D:Nat->Prop):FusC w D [] (.slice none 0 0):=⟨[],rfl,RowF.nothing _ _,fun i e k h=>by simp at h⟩
def FuV(w:World)(D:Nat->Prop)(f:Fu)(v:Value):Prop:=∃k:Two,v=.agg (fuC f k.p k.b).toArray/\FuK w D f k
def zlo(l:List Fu)(ks:List Two)(hk:ks.length=l.length)(s:Fu)(k:Two):fusC (l++[s]) (ks++[k])=fusC l ks++fuC s k.p k.b:=by
 simp[fusC,List.zipWith_append hk.symm]
def zn{α β:Type}{r:Res α}{f:α->List Tok->Res β}{v:β}{q:List Tok}(h:r.bind f=.ok v q):∃a s,r=.ok a s/\f a s=.ok v q:=by
 cases r with
 | ok a s=>exact⟨a,s,rfl,h⟩
 | bad c p=>cases h
def qL.shrinks{α:Type}{p:Par α}(h:qL p):qq p:=fun ts v r hr=>Nat.le_of_lt (h ts v r hr)
def vq{ts:List Tok}(h:(qE z ts).kind≠0):ts.tail.length<ts.length:=by
 cases ts with
 | nil=>exact absurd rfl h
 | cons t r=>simp
def qd{ss:List (List Nat)}{ts:List Tok}(h:zC z ss ts=true):ts.tail.length<ts.length:=by
 apply vq (z:=z);unfold zC zcf at h;simp at h;omega
def yh(z k:Nat)(hk:k≠0):qL (ju z k):=by
 intro ts v r h;unfold ju at h
 split at h
 ·rename_i hkk
  cases h;exact vq (z:=z) (by omega)
 ·cases h
def qo(z:Nat)(s:List Nat):qL (qt z s):=by
 intro ts v r h;unfold qt at h
 split at h
 ·rename_i hs
  cases h;exact qd hs
 ·cases h
def yt(z:Nat):qL (yE z):=by
 intro ts v r h;obtain⟨a,s,h1,h2⟩:=zn h;cases h2;exact yh z 1 (by omega) _ _ _ h1
def vE(z:Nat)(ss:List (List Nat))(p:Par Ex)(hp:qq p):∀f x,qq (ym z ss p f x)
 | 0,x=>by intro ts v r h;cases h;exact aR _
 | f+1,x=>by
  intro ts v r h;unfold ym at h
  split at h
  ·rename_i hs
   obtain⟨a,s,h1,h2⟩:=zn h;have:=hp _ _ _ h1;have:=vE z ss p hp f _ _ _ _ h2;have:=qd hs;omega
  ·cases h;exact aR _
def xc(z:Nat)(ss:List (List Nat))(p:Par Ex)(hp:qL p):qL (xb z ss p):=by
 intro ts v r h;obtain⟨a,s,h1,h2⟩:=zn h;have:=hp _ _ _ h1;have:=vE z ss p hp.shrinks _ _ _ _ _ h2;omega
def zdy(z:Nat)(one:Par Ex)(h:qL one):qL (sumP z one):=xc z _ _ (xc z _ _ h)
def kR(z:Nat)(one:Par Ex)(ho:qL one):qL (kz z one):=by
 intro ts v r h;obtain⟨a,s,h1,h2⟩:=zn h;have:=zdy z one ho _ _ _ h1
 split at h2
 ·obtain⟨b,s2,h3,h4⟩:=zn h2;have:=yh z 4 (by omega) _ _ _ h3;obtain⟨y,s3,h5,h6⟩:=zn h4;have:=zdy z one ho _ _ _ h5;cases h6;omega
 ·cases h2;omega
def zdj(z:Nat)(one:Par Ex)(ho:qL one):qL (wT z one):=xc z _ _ (xc z _ _ (kR z one ho))
def vB{α:Type}(z:Nat)(p:Par α)(hp:qq p):∀f l,qq (vH z p f l)
 | 0,l=>by
  intro ts v r h;obtain⟨a,s,h1,h2⟩:=zn h;cases h2;exact(qo z _).shrinks _ _ _ h1
 | f+1,l=>by
  intro ts v r h;unfold vH at h
  split at h
  ·rename_i hs
   obtain⟨a,s,h1,h2⟩:=zn h;have:=hp _ _ _ h1;have:=vB z p hp f _ _ _ _ h2;have:=qd hs;omega
  ·obtain⟨a,s,h1,h2⟩:=zn h;cases h2;exact(qo z _).shrinks _ _ _ h1
def zbo{α:Type}(z:Nat)(p:Par α)(hp:qq p):qL (wq z p):=by
 intro ts v r h;obtain⟨a,s,h1,h2⟩:=zn h;have:=qo z _ _ _ _ h1
 split at h2
 ·rename_i hs
  cases h2;have:=qd hs;omega
 ·obtain⟨b,s2,h3,h4⟩:=zn h2;have:=hp _ _ _ h3;have:=vB z p hp _ _ _ _ _ h4;omega
def xg(z:Nat)(e:Par Ex)(he:qq e):qL (qc z e):=by
 intro ts v r h;obtain⟨a,s,h1,h2⟩:=zn h;obtain⟨b,s2,h3,h4⟩:=zn h2;obtain⟨c,s3,h5,h6⟩:=zn h4;cases h6;have:=qo z _ _ _ _ h1;have:=he _ _ _ h3;have:=qo z _ _ _ _ h5;omega
def zil(z:Nat)(e:Par Ex)(he:qq e):qL (ze6 z e):=by
 intro ts v r h;obtain⟨a,s,h1,h2⟩:=zn h;obtain⟨b,s2,h3,h4⟩:=zn h2;obtain⟨c,s3,h5,h6⟩:=zn h4;obtain⟨d,s4,h7,h8⟩:=zn h6;obtain⟨f,s5,h9,h10⟩:=zn h8;cases h10;have:=qo z _ _ _ _ h1;have:=he _ _ _ h3;have:=qo z _ _ _ _ h5;have:=he _ _ _ h7;have:=qo z _ _ _ _ h9;omega
def zfg(z:Nat)(e:Par Ex)(he:qq e):qL (zai z e):=by
 intro ts v r h;obtain⟨a,s,h1,h2⟩:=zn h;have:=yh z 1 (by omega) _ _ _ h1
 split at h2
 ·obtain⟨b,s2,h3,h4⟩:=zn h2;cases h4;have:=zbo z e he _ _ _ h3;omega
 ·cases h2;omega
def zdv(z:Nat)(e:Par Ex)(he:qq e):qL (jy z e):=by
 intro ts v r h;unfold jy at h
 split at h
 ·rename_i hs;cases h;exact qd hs
 ·split at h
  ·rename_i hs;cases h;exact qd hs
  ·split at h
   ·rename_i hs
    obtain⟨a,s,h1,h2⟩:=zn h;cases h2;have:=xg z e he _ _ _ h1;have:=qd hs;omega
   ·split at h
    ·rename_i hs
     obtain⟨a,s,h1,h2⟩:=zn h;cases h2;have:=xg z e he _ _ _ h1;have:=qd hs;omega
    ·obtain⟨a,s,h1,h2⟩:=zn h;obtain⟨b,s2,h3,h4⟩:=zn h2;cases h4;have:=xg z e he _ _ _ h3;have:=qo z _ _ _ _ h1;omega
def zcm(z:Nat)(e:Par Ex)(he:qq e):qL (kv z e):=by
 intro ts v r h;unfold kv at h
 split at h
 ·cases h;exact vq (z:=z) (by omega)
 ·split at h
  ·cases h;exact vq (z:=z) (by omega)
  ·split at h
   ·exact zfg z e he _ _ _ h
   ·split at h
    ·obtain⟨a,s,h1,h2⟩:=zn h;cases h2;exact xg z e he _ _ _ h1
    ·obtain⟨a,s,h1,h2⟩:=zn h;cases h2;exact zdv z e he _ _ _ h1
def zke(z:Nat)(e o:Par Ex)(he:qq e)(ho:qq o):qL (oneS z e o):=by
 intro ts v r h;unfold oneS at h
 split at h
 ·rename_i hs
  obtain⟨a,s,h1,h2⟩:=zn h;cases h2;have:=ho _ _ _ h1;have:=qd hs;omega
 ·exact zcm z e he _ _ _ h
def yc(z:Nat):∀g,qL (both z g).1/\qL (both z g).2
 | 0=>⟨(fun ts v r h=>by cases h),(fun ts v r h=>by cases h)⟩
 | g+1=>
  have ih:=yc z g;have h1:=zke z _ _ ih.1.shrinks ih.2.shrinks
  ⟨zdj z _ h1,h1⟩
def yb(z g:Nat):qL (zin z g):=(yc z g).1
def zbr(z:Nat):qL (j7 z):=by
 intro ts v r h;unfold j7 at h
 split at h
 ·rename_i hs;cases h;exact qd hs
 ·split at h
  ·rename_i hs;cases h;exact qd hs
  ·obtain⟨a,s,h1,h2⟩:=zn h;cases h2;exact qo z _ _ _ _ h1
def zwv(z:Nat)(e:Par Ex)(he:qq e):qL (setP z e):=by
 intro ts v r h;obtain⟨a,s,h1,h2⟩:=zn h;obtain⟨b,s2,h3,h4⟩:=zn h2;obtain⟨c,s3,h5,h6⟩:=zn h4;cases h6;have:=yt z _ _ _ h1;have:=qo z _ _ _ _ h3;have:=he _ _ _ h5;omega
def zaw(z:Nat)(e:Par Ex)(he:qq e):qq (jn z e):=by
 intro ts v r h;unfold jn at h
 split at h
 ·rename_i hs
  obtain⟨a,s,h1,h2⟩:=zn h;cases h2;have:=zwv z e he _ _ _ h1;have:=qd hs;omega
 ·split at h
  ·rename_i hs
   have:=qd hs
   split at h
   ·cases h;omega
   ·obtain⟨a,s,h1,h2⟩:=zn h;cases h2;have:=he _ _ _ h1;omega
  ·split at h
   ·rename_i hs
    obtain⟨a,s,h1,h2⟩:=zn h;cases h2;have:=zil z e he _ _ _ h1;have:=qd hs;omega
   ·split at h
    ·rename_i hs
     obtain⟨a,s,h1,h2⟩:=zn h;cases h2;have:=xg z e he _ _ _ h1;have:=qd hs;omega
    ·split at h
     ·obtain⟨a,s,h1,h2⟩:=zn h;cases h2;exact(zwv z e he).shrinks _ _ _ h1
     ·obtain⟨a,s,h1,h2⟩:=zn h;cases h2;exact he _ _ _ h1
def zax(z:Nat)(e:Par Ex)(b:Par (List St))(he:qq e)(hb:qq b):qq (j5 z e b):=by
 intro ts v r h;obtain⟨a,s,h1,h2⟩:=zn h;obtain⟨c,s2,h3,h4⟩:=zn h2;have:=he _ _ _ h1;have:=hb _ _ _ h3
 split at h4
 ·rename_i hs
  obtain⟨d,s3,h5,h6⟩:=zn h4;cases h6;have:=hb _ _ _ h5;have:=qd hs;omega
 ·cases h4;omega
def zdm(z:Nat)(e:Par Ex)(b:Par (List St))(he:qq e)(hb:qq b):qq (zid z e b):=by
 intro ts v r h;obtain⟨a,s,h1,h2⟩:=zn h;obtain⟨c,s2,h3,h4⟩:=zn h2;obtain⟨d,s3,h5,h6⟩:=zn h4;obtain⟨f,s4,h7,h8⟩:=zn h6;cases h8;have:=zwv z e he _ _ _ h1;have:=qo z _ _ _ _ h3;have:=he _ _ _ h5;have:=hb _ _ _ h7;omega
def zb0(z:Nat)(e:Par Ex)(b:Par (List St))(he:qq e)(hb:qq b):qL (za5 z e b):=by
 intro ts v r h;obtain⟨a,s,h1,h2⟩:=zn h;cases h2
 split at h1
 ·rename_i hs
  have:=zax z e b he hb _ _ _ h1;have:=qd hs;omega
 ·split at h1
  ·rename_i hs
   have:=zdm z e b he hb _ _ _ h1;have:=qd hs;omega
  ·obtain⟨c,s2,h3,h4⟩:=zn h1;obtain⟨d,s3,h5,h6⟩:=zn h4;cases h6;have:=zaw z e he _ _ _ h3;have:=qo z _ _ _ _ h5;omega
def wA(z:Nat)(p:Par St)(hp:qq p):∀f l,qL (kU z p f l)
 | 0,l=>by
  intro ts v r h;unfold kU at h
  split at h
  ·rename_i hs;cases h;exact qd hs
  ·obtain⟨a,s,h1,h2⟩:=zn h;cases h2
 | f+1,l=>by
  intro ts v r h;unfold kU at h
  split at h
  ·rename_i hs;cases h;exact qd hs
  ·obtain⟨a,s,h1,h2⟩:=zn h;have:=hp _ _ _ h1;have:=wA z p hp f _ _ _ _ h2;omega
def vd(z:Nat):∀g,qL (jf z g)
 | 0=>fun ts v r h=>by cases h
 | g+1=>by
  intro ts v r h;obtain⟨a,s,h1,h2⟩:=zn h;have:=qo z _ _ _ _ h1;have:=wA z _ (zb0 z _ _ (yb z g).shrinks (vd z g).shrinks).shrinks _ _ _ _ _ h2;omega
def wZ(z:Nat):qL (jU z):=by
 intro ts v r h;obtain⟨a,s,h1,h2⟩:=zn h;obtain⟨b,s2,h3,h4⟩:=zn h2;obtain⟨c,s3,h5,h6⟩:=zn h4;cases h6;have:=yt z _ _ _ h1;have:=qo z _ _ _ _ h3;have:=zbr z _ _ _ h5;omega
def x6(z:Nat):qL (zh5 z):=by
 intro ts v r h;obtain⟨a,s,h1,h2⟩:=zn h;obtain⟨b,s2,h3,h4⟩:=zn h2;obtain⟨c,s3,h5,h6⟩:=zn h4;obtain⟨d,s4,h7,h8⟩:=zn h6;obtain⟨f,s5,h9,h10⟩:=zn h8;cases h10;have:=qo z _ _ _ _ h1;have:=yt z _ _ _ h3;have:=zbo z _ (wZ z).shrinks _ _ _ h5;have:=vd z 32 _ _ _ h9;have:s4.length<=s3.length:=by
  split at h7
  ·rename_i hs
   have:=zbr z _ _ _ h7;have:=qd hs;omega
  ·cases h7;exact aR _
 omega
end
end
end Go.Proofs.YtcilgkdnjgmogaaGreatDoor
