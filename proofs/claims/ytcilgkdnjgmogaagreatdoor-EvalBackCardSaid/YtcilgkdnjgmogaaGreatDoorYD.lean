/- A part of the proof. -/
import Derived.Test.YtcilgkdnjgmogaaGreatDoorYC
import Derived.MapKept
import Derived.Carry
import Derived.Shelf.SlMaps.Clone
import Derived.Deep.DeepCutAuto
namespace Go.Proofs.YtcilgkdnjgmogaaGreatDoor
open Go.Proofs.Tryz
set_option maxRecDepth 100000
set_option maxHeartbeats 12800000
set_option linter.all false
variable {B cB g k n:Nat} {D:Nat->Prop} {s:List Nat} {w w' w1 w2:World}
section
section
open Go.RowKit
inductive Xe where
 | mk (op num:Int) (aZ:List Nat) (aX:List Xe) (aW:Int)
def Xe.op:Xe->Int|.mk o _ _ _ _=>o
def Xe.num:Xe->Int|.mk _ n _ _ _=>n
def Xe.aZ:Xe->List Nat|.mk _ _ t _ _=>t
def Xe.aX:Xe->List Xe|.mk _ _ _ k _=>k
def Xe.aW:Xe->Int|.mk _ _ _ _ p=>p
inductive Xs where
 | mk (op:Int) (aZ:List Nat) (aY:List Xe) (body els:List Xs) (aW:Int)
def Xs.op:Xs->Int|.mk o _ _ _ _ _=>o
def Xs.aZ:Xs->List Nat|.mk _ t _ _ _ _=>t
def Xs.aY:Xs->List Xe|.mk _ _ e _ _ _=>e
def Xs.body:Xs->List Xs|.mk _ _ _ b _ _=>b
def Xs.els:Xs->List Xs|.mk _ _ _ _ b _=>b
def Xs.aW:Xs->Int|.mk _ _ _ _ _ p=>p
structure Xf where
 name:List Nat
 params:List (List Nat×Int)
 result:Int
 body:List Xs
 aW:Int
inductive Rt where
 | ok (t:Int)
 | bad (code aW:Int)
abbrev Er:=Option (Int×Int)
abbrev zX:=List (List Nat×(Int×Bool))
def seek{α:Type}(l:List (List Nat×α))(s:List Nat):Option α:=(l.find? (fun p=>p.1==s)).map (·.2)
abbrev Tab5:=List Nat->Option (List Int×Int)
def zh(fs:List Xf):Tab5:=fun s=>(fs.find? (fun f=>f.name==s)).map fun f=>(f.params.map (·.2),f.result)
def zM(fits:Int->Bool)(p:Int×Rt):Rt:=
 match p.2 with
 | .bad c a=>.bad c a
 | .ok t=>if fits t then .ok t else .bad 51 p.1
def allR(fits:Int->Bool):List (Int×Rt)->Er
 | []=>none
 | p::l=>match zM fits p with
  | .bad c a=>some (c,a)
  | .ok _=>allR fits l
def vX:List (Int×Rt)->List Int->Er
 | p::l,t::ts=>match zM (fun x=>x==t) p with
  | .bad c a=>some (c,a)
  | .ok _=>vX l ts
 | _,_=>none
structure Sg where
 takes:Int->Bool
 gives:Int->Int
def qN(s:List Nat):Option Sg:=
 if s=[43]then some ⟨fun t=>t==1 || t==3,fun t=>t⟩
 else if s=[45]\/s=[42]\/s=[47]\/s=[37]then some ⟨fun t=>t==1,fun _=>1⟩
 else if s=[61,61]\/s=[33,61]then some ⟨fun t=>t != 0,fun _=>2⟩
 else if s=[60]\/s=[60,61]\/s=[62]\/s=[62,61]then some ⟨fun t=>t==1,fun _=>2⟩
 else if s=[38,38]\/s=[124,124]then some ⟨fun t=>t==2,fun _=>2⟩
 else none
def zJ(op:Int)(aZ:List Nat)(n:Nat):Bool:=
 if op=1\/op=2\/op=3\/op=4 then n==0
 else if op=5 then true
 else if op=6 then n==2&&(qN aZ).isSome
 else if op=7 then n==1&&(aZ == [45] || aZ == [33])
 else if op=8\/op=9\/op=10 then n==1
 else false
def jT(op:Int)(aZ:List Nat):Int×Int:=
 if op=8 then(3,3)else if op=9 then(3,2)else if op=10 then(3,1)else if aZ=[45]then(1,1)else(2,2)
def twoR(g:Sg)(aW:Int)(ks:List (Int×Rt)):Rt:=
 match ks with
 | a::b::_=>
  match zM g.takes a with
  | .bad c p=>.bad c p
  | .ok x=>match zM g.takes b with
   | .bad c p=>.bad c p
   | .ok y=>if x=y then .ok (g.gives x)else .bad 51 aW
 | _=>.ok 0
def oneR(u:Int×Int)(ks:List (Int×Rt)):Rt:=
 match allR (fun x=>x==u.1) ks with
 | some e=>.bad e.1 e.2
 | none=>.ok u.2
def yC(T:Tab5)(aZ:List Nat)(aW:Int)(ks:List (Int×Rt)):Rt:=
 match T aZ with
 | none=>.bad 52 aW
 | some d=>if ks.length≠d.1.length then .bad 51 aW else
  match vX ks d.1 with
  | some e=>.bad e.1 e.2
  | none=>.ok d.2
def zfj(sc:zX)(aZ:List Nat)(aW:Int):Rt:=
 match seek sc aZ with
 | none=>.bad 52 aW
 | some d=>.ok d.1
def jq(T:Tab5)(sc:zX)(op:Int)(aZ:List Nat)(aW:Int)(ks:List (Int×Rt)):Rt:=
 if zJ op aZ ks.length=false then .bad 51 aW
 else if op=1 then .ok 1 else if op=2 then .ok 2 else if op=3 then .ok 3
 else if op=4 then zfj sc aZ aW
 else if op=5 then yC T aZ aW ks
 else if op=6 then(match qN aZ with|some g=>twoR g aW ks|none=>.bad 51 aW)
 else oneR (jT op aZ) ks
mutual
def qk(T:Tab5)(sc:zX):Xe->Rt
 | .mk op _ aZ aX aW=>jq T sc op aZ aW (zE T sc aX)
def zE(T:Tab5)(sc:zX):List Xe->List (Int×Rt)
 | []=>[]
 | e::l=>(e.aW,qk T sc e)::zE T sc l
end
def zae(T:Tab5)(sc:zX):∀l,zE T sc l=l.map fun e=>(e.aW,qk T sc e)
 | []=>by simp[zE]
 | e::l=>by simp[zE,zae T sc l]
def qf(T:Tab5)(sc:zX)(l:List Xe):(zE T sc l).length=l.length:=by rw[zae];simp
def runL{σ α:Type}(step:σ->α->Er×σ):σ->List α->Er×σ
 | s,[]=>(none,s)
 | s,a::l=>match step s a with
  | (some e,s')=>(some e,s')
  | (none,s')=>runL step s' l
def zj(op:Int)(n:Nat)(body els:Bool):Bool:=
 if op=1\/op=2\/op=7\/op=8 then n==1&&(body&&els)
 else if op=6 then n==2&&(body&&els)
 else if op=5 then decide (n<=1)&&(body&&els)
 else if op=3 then n==1
 else if op=4 then n==2&&els
 else false
def zY(sc:zX)(s:List Nat)(d:Int×Bool)(aW:Int):Er×zX:=
 match seek sc s with
 | some _=>(some (53,aW),sc)
 | none=>(none,sc++[(s,d)])
def letR(sc:zX)(s:List Nat)(aW:Int)(x:Int×Rt):Er×zX:=
 match zM (fun t=>t != 0) x with
 | .bad c a=>(some (c,a),sc)
 | .ok t=>zY sc s (t,false) aW
def setR(sc:zX)(s:List Nat)(aW:Int)(xs:List (Int×Rt)):Er:=
 match seek sc s with
 | none=>some (52,aW)
 | some d=>if d.2 then some (51,aW)else allR (fun x=>x==d.1) xs
def endR(res:Int)(aW:Int)(xs:List (Int×Rt)):Er:=
 if xs.length=0/\res≠0 then some (51,aW)else allR (fun t=>t != 0&&t==res) xs
def opOf(l:List Xe):Int:=match l with|e::_=>e.op|[]=>0
mutual
def stmM(T:Tab5)(res:Int):Xs->zX->Er×zX
 | .mk op aZ aY body els aW,sc=>
  if zj op aY.length body.isEmpty els.isEmpty=false then(some (51,aW),sc)
  else if op=1 then(match zE T sc aY with|x::_=>letR sc aZ aW x|[]=>(none,sc))
  else if op=2 then(setR sc aZ aW (zE T sc aY),sc)
  else if op=3 then
   (match allR (fun x=>x==2) (zE T sc aY)with
   | some e=>some e
   | none=>match (z7 T res body sc).1 with
    | some e=>some e
    | none=>(z7 T res els sc).1,sc)
  else if op=4 then
   (match allR (fun x=>x==1) (zE T sc aY)with
   | some e=>some e
   | none=>match zY sc aZ (1,true) aW with
    | (some e,_)=>some e
    | (none,inner)=>(z7 T res body inner).1,sc)
  else if op=5 then(endR res aW (zE T sc aY),sc)
  else if op=8 then(allR (fun _=>opOf aY==5) (zE T sc aY),sc)
  else(allR (fun x=>x==3) (zE T sc aY),sc)
def z7(T:Tab5)(res:Int):List Xs->zX->Er×zX
 | [],sc=>(none,sc)
 | s::l,sc=>match stmM T res s sc with
  | (some e,sc')=>(some e,sc')
  | (none,sc')=>z7 T res l sc'
end
mutual
def dcl1:Xs->Int->Int
 | .mk op _ _ body els _,n=>wrap64 ((if op=1\/op=4 then wrap64 (n+1)else n)+wrap64 (dcl body 0+dcl els 0))
def dcl:List Xs->Int->Int
 | [],n=>n
 | s::l,n=>dcl l (dcl1 s n)
end
mutual
def zmu:Xs->Bool
 | .mk op _ _ body els _=>op==5 || (op==3&&ki body&&ki els)
def ki:List Xs->Bool
 | []=>false
 | [s]=>zmu s
 | _::s::l=>ki (s::l)
end
def kF(t:Int):Bool:=t==0 || t==1 || t==2 || t==3
def xm(aW:Int)(sc:zX)(p:List Nat×Int):Er×zX:=
 match zY sc p.1 (p.2,false) aW with
 | (some e,sc')=>(some e,sc')
 | (none,sc')=>if p.2=0\/kF p.2=false then(some (51,aW),sc')else(none,sc')
def k6(f:Xf):Er×zX:=runL (xm f.aW) [] f.params
def funM(T:Tab5)(f:Xf):Er:=
 match k6 f with
 | (some e,_)=>some e
 | (none,sc)=>
  if kF f.result=false then some (51,f.aW)
  else if f.params.length > 16\/wrap64 (f.params.length+dcl f.body 0) > 64 then some (2,f.aW)
  else match (z7 T f.result f.body sc).1 with
   | some e=>some e
   | none=>if f.result≠0/\ki f.body=false then some (54,f.aW)else none
def wX(fs:List Xf)(f:Xf):Er×List Xf:=if fs.any (fun g=>g.name==f.name)then(some (53,f.aW),fs)else(none,fs++[f])
def kD(fs:List Xf):Er:=
 if fs.length > 64 then some (2,0)
 else match (runL wX [] fs).1 with
  | some e=>some e
  | none=>(runL (fun(_:Unit) f=>(funM (zh fs) f,())) () fs).1
def xeC(e:Xe)(k:Value):List Value:=[.int .i64 e.op,.int .i64 e.num,.string (strN e.aZ),k,.int .i64 e.aW]
def xesC(l:List Xe)(ks:List Value):List Value:=(List.zipWith xeC l ks).flatten
inductive XesC(w:World)(D:Nat->Prop):List Xe->Value->Prop
 | mk (l:List Xe) (ks:List Value) (V:Value) (hk:ks.length=l.length) (h1:RowF w D l.length (xesC l ks) V) (ht:∀e∈l,Byn e.aZ) (h2:∀(i:Nat) (e:Xe) (k:Value),l[i]? =some e->ks[i]? =some k->XesC w D e.aX k):XesC w D l V
def XesC.same{l:List Xe}{V:Value}(h:XesC w D l V)(hs:Same D w w'):XesC w' D l V:=by
 induction h with
 | mk l ks V hk h1 ht _ ih=>exact .mk l ks V hk (h1.same hs) ht ih
def xsC(s:Xs)(e b f:Value):List Value:=[.int .i64 s.op,.string (strN s.aZ),e,b,f,.int .i64 s.aW]
def xssC(l:List Xs)(ks:List qM):List Value:=(List.zipWith (fun s k=>xsC s k.e k.b k.f) l ks).flatten
inductive XssC(w:World)(D:Nat->Prop):List Xs->Value->Prop
 | mk (l:List Xs) (ks:List qM) (V:Value) (hk:ks.length=l.length) (h1:RowF w D l.length (xssC l ks) V) (ht:∀s∈l,Byn s.aZ) (he:∀(i:Nat) (s:Xs) (k:qM),l[i]? =some s->ks[i]? =some k->XesC w D s.aY k.e)
   (hb:∀(i:Nat) (s:Xs) (k:qM),l[i]? =some s->ks[i]? =some k->XssC w D s.body k.b) (hf:∀(i:Nat) (s:Xs) (k:qM),l[i]? =some s->ks[i]? =some k->XssC w D s.els k.f):XssC w D l V
def XssC.same{l:List Xs}{V:Value}(h:XssC w D l V)(hs:Same D w w'):XssC w' D l V:=by
 induction h with
 | mk l ks V hk h1 ht he _ _ ib iF=>exact .mk l ks V hk (h1.same hs) ht (fun i s k a b=>(he i s k a b).same hs) ib iF
def xpC(p:List Nat×Int):List Value:=[.string (strN p.1),.int .i64 p.2]
def xpsC(l:List (List Nat×Int)):List Value:=l.flatMap xpC
def xfC(f:Xf)(p b:Value):List Value:=[.string (strN f.name),p,.int .i64 f.result,b,.int .i64 f.aW]
def xfsC(l:List Xf)(ks:List Two):List Value:=(List.zipWith (fun s k=>xfC s k.p k.b) l ks).flatten
structure XfK(w:World)(D:Nat->Prop)(f:Xf)(k:Two):Prop where
 name:Byn f.name
 params:RowF w D f.params.length (xpsC f.params) k.p
 names:∀p∈f.params,Byn p.1
 body:XssC w D f.body k.b
def XfK.same{f:Xf}{k:Two}(h:XfK w D f k)(hs:Same D w w'):XfK w' D f k:=⟨h.name,h.params.same hs,h.names,h.body.same hs⟩
def XfsC(w:World)(D:Nat->Prop)(l:List Xf)(ks:List Two)(V:Value):Prop:=
 ks.length=l.length/\RowF w D l.length (xfsC l ks) V/\∀(i:Nat) (f:Xf) (k:Two),l[i]? =some f->ks[i]? =some k->XfK w D f k
def XfsC.same{l:List Xf}{ks:List Two}{V:Value}(h:XfsC w D l ks V)(hs:Same D w w'):XfsC w' D l ks V:=⟨h.1,h.2.1.same hs,fun i f k a b=>(h.2.2 i f k a b).same hs⟩
end
section
open Go.RowKit Go.MapKept
def qs(w:World)(b:Nat)(es:List (List Nat×Value)):Prop:=
 ∃arr clock,w.heap[b]? =some (.map arr clock)/\arr.toList.map (fun e=>(e.key,e.val))=es.map (fun p=>(Value.string (strN p.1),p.2))/\∀p∈es,Byn p.1
def qs.of{b:Nat}{es:List (List Nat×Value)}(h:qs w b es)(hb:w'.heap[b]? =w.heap[b]?):qs w' b es:=by
 obtain⟨arr,clock,h1,h2,h3⟩:=h;exact⟨arr,clock,by rw[hb];exact h1,h2,h3⟩
def qs.lt{b:Nat}{es:List (List Nat×Value)}(h:qs w b es):b<w.heap.size:=by
 obtain⟨arr,clock,h1,_⟩:=h;exact(aU.1 h1).1
def qs.made(w:World):qs (w.alloc (.map #[] 0)) w.heap.size []:=⟨#[],0,(MapKept.heap_alloc w _).1,rfl,by simp⟩
def zgw{a b:List Nat}(ha:Byn a)(hb:Byn b):(strN a==strN b)=decide (a=b):=by
 by_cases h:a=b
 ·subst h;simp[MapKept.bytes_beq]
 ·rw[decide_eq_false h,Bool.eq_false_iff];intro e;exact h (zc2 ha hb ((MapKept.bytes_beq _ _).1 e))
def vD(hs:Byn s):∀(l:List MapEntry) (es:List (List Nat×Value)) (i:Nat),l.map (fun e=>(e.key,e.val))=es.map (fun p=>(Value.string (strN p.1),p.2))->(∀p∈es,Byn p.1) ->
  (seek es s=none/\Instr.findNow .string (.string (strN s)) l i=some none)\/∃v j,seek es s=some v/\Instr.findNow .string (.string (strN s)) l i=some (some (j,v))
 | [],[],i,_,_=>.inl ⟨rfl,rfl⟩
 | [],p::es,i,h,_=>by simp at h
 | e::l,[],i,h,_=>by simp at h
 | e::l,p::es,i,h,hb=>by
  simp only[List.map_cons,aN,Prod.mk.injEq]at h;obtain⟨⟨hk,hv⟩,h⟩:=h;have hp:=hb p (List.mem_cons_self ..);have hsn:Instr.sameNow .string (.string (strN s)) e.key=some (decide (s=p.1)):=by rw[hk];simp[Instr.sameNow,zgw hs hp]
  by_cases he:s=p.1
  ·rw[decide_eq_true he]at hsn;refine .inr ⟨e.val,i,?_,?_⟩
   ·unfold seek;rw[List.find?_cons_of_pos (by simp[he])];rw[hv];rfl
   ·simp only[Instr.findNow,hsn]
  ·rw[decide_eq_false he]at hsn;have hse:seek (p::es) s=seek es s:=by
    unfold seek;rw[List.find?_cons_of_neg (by simpa using fun e=>he e.symm)]
   have hf:Instr.findNow .string (.string (strN s)) (e::l) i=Instr.findNow .string (.string (strN s)) l (i+1):=by simp[Instr.findNow,hsn]
   rw[hse,hf];exact vD hs l es (i+1) h fun q hq=>hb q (List.mem_cons_of_mem _ hq)
def jH{b:Nat}{es:List (List Nat×Value)}(h:qs w b es)(hs:Byn s){t e:TypeId}{z:Value}(ht:prog.underlying t=some (.map 9 e))(hz:(zeroValue e).run prog w=.ok z w):(Instr.lookup t (.map (some b)) (.string (strN s)) true).run prog w=.ok (.tuple #[(seek es s).getD z,.bool (seek es s).isSome]) w:=by
 obtain⟨arr,clock,h1,h2,h3⟩:=h;have hd:prog.underlying 9=some .string:=underlying9;have hk:IsKey .string (.string (strN s)):=trivial;rcases vD hs arr.toList es 0 h2 h3 with⟨g1,g2⟩|⟨v,j,g1,g2⟩
 ·rw[g1];simp[Instr.lookup,run_underlying ht,MapKept.run_getObj_map h1,MapKept.run_checkKey hd hk,MapKept.run_findKey hd g2,Result.andThen,hz]
 ·rw[g1];simp[Instr.lookup,run_underlying ht,MapKept.run_getObj_map h1,MapKept.run_checkKey hd hk,MapKept.run_findKey hd g2,Result.andThen]
def zbi{b:Nat}{es:List (List Nat×Value)}(h:qs w b es)(hs:Byn s)(hn:seek es s=none){t e:TypeId}(ht:prog.underlying t=some (.map 9 e))(v:Value):∃w',(Instr.mapUpdate t (.map (some b)) (.string (strN s)) v).run prog w=.ok () w'/\qs w' b (es++[(s,v)])/\w.grownBy w' (some b)/\w'.heap.size=w.heap.size:=by
 obtain⟨arr,clock,h1,h2,h3⟩:=h;have hd:prog.underlying 9=some .string:=underlying9;have hk:IsKey .string (.string (strN s)):=trivial;rcases vD hs arr.toList es 0 h2 h3 with⟨g1,g2⟩|⟨u,j,g1,g2⟩
 ·refine⟨{ w with heap:=w.heap.setIfInBounds b (.map (arr.push { key:=.string (strN s),val:=v,born:=clock }) (clock+1)) },?_,⟨_,_,(MapKept.heap_set h1).1,?_,?_⟩,⟨rfl,rfl,rfl,by simp,fun i _ hi=>(MapKept.heap_set h1).2 i (fun e=>hi (by rw[e]))⟩,by simp⟩
  ·simp[Instr.mapUpdate,run_underlying ht,MapKept.run_getObj_map h1,MapKept.run_checkKey hd hk,MapKept.run_findKey hd g2,MapKept.run_setObj_map _ h1,Result.andThen]
  ·simp[h2]
  ·intro p hp;rcases List.mem_append.1 hp with hp|hp
   ·exact h3 p hp
   ·simp at hp;subst hp;exact hs
 ·rw[hn]at g1;cases g1
def wK(h:Below w.heap.size w w'):w.grownBy w' none:=⟨h.os,h.tape,h.output,h.size,fun i hi _=>h.block i hi⟩
def j6(h:w.grownBy w' none):Below w.heap.size w w':=⟨h.os,h.tape,h.output,h.size,fun i hi=>h.block i hi (by intro e;cases e)⟩
def zT(h:Below w.heap.size w w')(ro:Option Nat):w.grownBy w' ro:=⟨h.os,h.tape,h.output,h.size,fun i hi _=>h.block i hi⟩
def zd(h:Below B w w1)(h2:Below w1.heap.size w1 w2)(hB:B<=w1.heap.size):Below B w w2:=h.trans (h2.mono hB)
def Lo(B:Nat):Nat->Prop:=fun k=>k<B
def FV(w:World)(r:Er)(v:Value):Prop:=
 match r with
 | none=>v=.pointer none
 | some e=>∃b,v=.pointer (some ⟨b,0,none⟩)/\w.heap[b]? =some (.cells #[.int .i64 e.1,.int .i64 e.2] 183)
def FOut(r:Er)(e:Ending)(w':World):Prop:=∃v,e=.returned v/\FV w' r v
def Rt.err:Rt->Er
 | .ok _=>none
 | .bad c p=>some (c,p)
def Rt.val:Rt->Int
 | .ok t=>t
 | .bad _ _=>0
def TOut(r:Rt)(e:Ending)(w':World):Prop:=∃v,e=.returned (.tuple #[.int .i64 r.val,v])/\FV w' r.err v
def xK(w:World)(c p:Int):FV (w.alloc (.cells #[.int .i64 c,.int .i64 p] 183)) (some (c,p)) (.pointer (some ⟨w.heap.size,0,none⟩)):=⟨_,rfl,ye w _⟩
def tabC(fs:List Xf)(ks:List Two):List (List Nat×Value):=List.zipWith (fun f k=>(f.name,.agg (xfC f k.p k.b).toArray)) fs ks
structure Cx(w:World)(B cB g:Nat)(fs:List Xf)(res:Int):Prop where
 cell:w.heap[cB]? =some (.cells #[.map (some g),.int .i64 res] 243)
 tab:∃ks:List Two,ks.length=fs.length/\qs w g (tabC fs ks)/\∀(i:Nat) (f:Xf) (k:Two),fs[i]? =some f->ks[i]? =some k->RowF w (Lo B) f.params.length (xpsC f.params) k.p/\∃A n c,k.b=.slice A n c
 hc:B<=cB
 hg:B<=g
def Cx.lt{fs:List Xf}{res:Int}(h:Cx w B cB g fs res):cB<w.heap.size/\g<w.heap.size:=by
 obtain⟨h1,⟨ks,_,h2,_⟩,_,_⟩:=h;exact⟨(aU.1 h1).1,h2.lt⟩
def Cx.of{fs:List Xf}{res:Int}(h:Cx w B cB g fs res)(h1:w'.heap[cB]? =w.heap[cB]?)(h2:w'.heap[g]? =w.heap[g]?)(h3:Same (Lo B) w w'):Cx w' B cB g fs res:=by
 obtain⟨c,⟨ks,e1,e2,e3⟩,a,b⟩:=h;exact⟨by rw[h1];exact c,⟨ks,e1,e2.of h2,fun i f k hf hk=>⟨(e3 i f k hf hk).1.same h3,(e3 i f k hf hk).2⟩⟩,a,b⟩
def zk(h:Below w.heap.size w w')(hB:B<=w.heap.size):Same (Lo B) w w':=fun k hk=>h.block k (by unfold Lo at hk;omega)
def Cx.below{fs:List Xf}{res:Int}(h:Cx w B cB g fs res)(hb:Below w.heap.size w w'):Cx w' B cB g fs res:=
 h.of (hb.block _ h.lt.1) (hb.block _ h.lt.2) (zk hb (by have:=h.lt;have:=h.hc;omega))
def Cx.moves{B cB g b:Nat}{fs:List Xf}{res:Int}(h:Cx w B cB g fs res)(hb:w.grownBy w' (some b))(h1:cB≠b)(h2:g≠b)(h3:B<=b):Cx w' B cB g fs res:=
 h.of (hb.block _ h.lt.1 (by intro e;injection e with e;exact h1 e)) (hb.block _ h.lt.2 (by intro e;injection e with e;exact h2 e)) fun k hk=>hb.block k (by have:=h.lt;have:=h.hc;unfold Lo at hk;omega) (by intro e;injection e with e;unfold Lo at hk;omega)
def scC(sc:zX):List (List Nat×Value):=sc.map fun p=>(p.1,.agg #[.int .i64 p.2.1,.bool p.2.2])
def Sco(w:World)(b:Nat)(sc:zX):Prop:=qs w b (scC sc)
def Sco.below{b:Nat}{sc:zX}(h:Sco w b sc)(hb:Below w.heap.size w w'):Sco w' b sc:=qs.of h (hb.block _ (qs.lt h))
def zg9{α β:Type}(f:α->β)(s:List Nat):∀l:List (List Nat×α),seek (l.map fun p=>(p.1,f p.2)) s=(seek l s).map f
 | []=>rfl
 | p::l=>by
  unfold seek;by_cases h:p.1=s
  ·rw[List.map_cons,List.find?_cons_of_pos (by simpa using h),List.find?_cons_of_pos (by simpa using h)];rfl
  ·rw[List.map_cons,List.find?_cons_of_neg (by simpa using h),List.find?_cons_of_neg (by simpa using h)];exact zg9 f s l
def zjj(sc:zX)(s:List Nat):seek (scC sc) s=(seek sc s).map fun d=>.agg #[.int .i64 d.1,.bool d.2]:=zg9 (fun d:Int×Bool=>Value.agg #[.int .i64 d.1,.bool d.2]) s sc
def vP(s:List Nat):∀(fs:List Xf) (ks:List Two),ks.length=fs.length->(fs.find? (fun f=>f.name==s)=none/\seek (tabC fs ks) s=none)\/∃(i:Nat) (f:Xf) (k:Two),fs[i]? =some f/\ks[i]? =some k/\fs.find? (fun f=>f.name==s)=some f/\seek (tabC fs ks) s=some (.agg (xfC f k.p k.b).toArray)
 | [],[],_=>.inl ⟨rfl,rfl⟩
 | [],k::ks,h=>by simp at h
 | f::fs,[],h=>by simp at h
 | f::fs,k::ks,h=>by
  by_cases he:f.name=s
  ·refine .inr ⟨0,f,k,rfl,rfl,?_,?_⟩
   ·rw[List.find?_cons_of_pos (by simpa using he)]
   ·unfold seek tabC;rw[List.zipWith_cons_cons,List.find?_cons_of_pos (by simpa using he)];rfl
  ·have e1:(f::fs).find? (fun f=>f.name==s)=fs.find? (fun f=>f.name==s):=by rw[List.find?_cons_of_neg (by simpa using he)]
   have e2:seek (tabC (f::fs) (k::ks)) s=seek (tabC fs ks) s:=by
    unfold seek tabC;rw[List.zipWith_cons_cons,List.find?_cons_of_neg (by simpa using he)]
   rw[e1,e2];rcases vP s fs ks (by simpa using h)with h|⟨i,f',k',h1,h2,h3,h4⟩
   ·exact .inl h
   ·exact .inr ⟨i+1,f',k',by simpa using h1,by simpa using h2,h3,h4⟩
def FitL(w:World)(lo:Nat)(v:Value)(f:Int->Bool):Prop:=
 ∃fn caps,∃D:Nat->Prop,v=.func (.func fn) #[] caps/\Ent fn/\(∀k,D k->lo<=k/\k<w.heap.size)/\∀(t:Int) (w1:World),Same D w w1->w.heap.size<=w1.heap.size->Calls prog fn (#[.int .i64 t]++caps) w1 fun e w'=>e=.returned (.bool (f t))/\Below w1.heap.size w1 w'
abbrev FitV(w:World)(v:Value)(f:Int->Bool):Prop:=FitL w 0 v f
def FitL.same{lo:Nat}{v:Value}{f:Int->Bool}(h:FitL w lo v f)(hs:∀k,lo<=k->k<w.heap.size->w'.heap[k]? =w.heap[k]?)(hz:w.heap.size<=w'.heap.size):FitL w' lo v f:=by
 obtain⟨fn,caps,D,h1,h2,h3,h4⟩:=h;exact⟨fn,caps,D,h1,h2,fun k hk=>⟨(h3 k hk).1,aS (h3 k hk).2 hz⟩,fun t w1 g1 g2=>h4 t w1 (fun k hk=>(g1 k hk).trans (hs k (h3 k hk).1 (h3 k hk).2)) (aT hz g2)⟩
def FitL.below{lo:Nat}{v:Value}{f:Int->Bool}(h:FitL w lo v f)(hb:Below w.heap.size w w'):FitL w' lo v f:=h.same (fun k _ hk=>hb.block k hk) hb.size
def FitL.less{lo:Nat}{v:Value}{f:Int->Bool}(h:FitL w lo v f):FitV w v f:=by
 obtain⟨fn,caps,D,h1,h2,h3,h4⟩:=h;exact⟨fn,caps,D,h1,h2,fun k hk=>⟨aK _,(h3 k hk).2⟩,h4⟩
def GivL(w:World)(lo:Nat)(v:Value)(f:Int->Int):Prop:=
 ∃fn caps,∃D:Nat->Prop,v=.func (.func fn) #[] caps/\Ent fn/\(∀k,D k->lo<=k/\k<w.heap.size)/\∀(t:Int) (w1:World),Same D w w1->w.heap.size<=w1.heap.size->Calls prog fn (#[.int .i64 t]++caps) w1 fun e w'=>e=.returned (.int .i64 (f t))/\Below w1.heap.size w1 w'
abbrev GivV(w:World)(v:Value)(f:Int->Int):Prop:=GivL w 0 v f
def GivL.same{lo:Nat}{v:Value}{f:Int->Int}(h:GivL w lo v f)(hs:∀k,lo<=k->k<w.heap.size->w'.heap[k]? =w.heap[k]?)(hz:w.heap.size<=w'.heap.size):GivL w' lo v f:=by
 obtain⟨fn,caps,D,h1,h2,h3,h4⟩:=h;exact⟨fn,caps,D,h1,h2,fun k hk=>⟨(h3 k hk).1,aS (h3 k hk).2 hz⟩,fun t w1 g1 g2=>h4 t w1 (fun k hk=>(g1 k hk).trans (hs k (h3 k hk).1 (h3 k hk).2)) (aT hz g2)⟩
def GivL.below{lo:Nat}{v:Value}{f:Int->Int}(h:GivL w lo v f)(hb:Below w.heap.size w w'):GivL w' lo v f:=h.same (fun k _ hk=>hb.block k hk) hb.size
def GivL.less{lo:Nat}{v:Value}{f:Int->Int}(h:GivL w lo v f):GivV w v f:=by
 obtain⟨fn,caps,D,h1,h2,h3,h4⟩:=h;exact⟨fn,caps,D,h1,h2,fun k hk=>⟨aK _,(h3 k hk).2⟩,h4⟩
def zhj(h:Same (fun j=>j=k) w w1):w1.heap[k]? =w.heap[k]?:=h k rfl
def kZ{aZ:List Nat}(ht:Byn aZ)(l:List Nat)(hl:Byn l):((strN aZ).toList==l.map UInt8.ofNat)=decide (aZ=l):=by
 rw[show l.map UInt8.ofNat=(strN l).toList by rw[ByteArray.toList_eq,xr]];exact zac ht hl
def XeV(w:World)(D:Nat->Prop)(e:Xe)(v:Value):Prop:=∃k,v=.agg (xeC e k).toArray/\Byn e.aZ/\XesC w D e.aX k
def XeV.same{e:Xe}{v:Value}(h:XeV w D e v)(hs:Same D w w'):XeV w' D e v:=by
 obtain⟨k,h1,h2,h3⟩:=h;exact⟨k,h1,h2,h3.same hs⟩
def XsV(w:World)(D:Nat->Prop)(s:Xs)(v:Value):Prop:=∃k:qM,v=.agg (xsC s k.e k.b k.f).toArray/\Byn s.aZ/\XesC w D s.aY k.e/\XssC w D s.body k.b/\XssC w D s.els k.f
def XsV.same{e:Xs}{v:Value}(h:XsV w D e v)(hs:Same D w w'):XsV w' D e v:=by
 obtain⟨k,h1,h2,h3,h4,h5⟩:=h;exact⟨k,h1,h2,h3.same hs,h4.same hs,h5.same hs⟩
end
section
open Go.RowKit
def hmf5:∀(fn:Fn) (first cap:Array Value) (w:World),(Instr.makeFunc fn first cap).run prog w=.ok (.func fn first cap) w:=fun _ _ _ _=>rfl
def zd1{a b:Bool}(h:a=b):Ending.returned (.bool a)=.returned (.bool b):=by rw[h]
def zo8(t:Int)(w:World):Calls prog 172 #[.int .i64 t] w fun e w'=>e=.returned (.bool (kF t))/\w'=w:=by
 by_cases h0:t=0
 ·subst h0;go_enter func172,ntmps172;go_wp2;go_ret;exact⟨rfl,rfl⟩
 by_cases h1:t=1
 ·subst h1;go_enter func172,ntmps172;go_wp2;go_ret;exact⟨rfl,rfl⟩
 by_cases h2:t=2
 ·subst h2;go_enter func172,ntmps172;go_wp2;go_ret;exact⟨rfl,rfl⟩
 by_cases h3:t=3
 ·subst h3;go_enter func172,ntmps172;go_wp2;go_ret;exact⟨rfl,rfl⟩
 have q0:(t==0)=false:=by rw[yI];exact h0
 have q1:(t==1)=false:=by rw[yI];exact h1
 have q2:(t==2)=false:=by rw[yI];exact h2
 have q3:(t==3)=false:=by rw[yI];exact h3
 have HE:Hid (kF t=false):=by show _=_;simp[kF,q0,q1,q2,q3]
 clear h0 h1 h2 h3;go_enter func172,ntmps172;go_wp2;go_ret;exact⟨by rw[HE.out];rfl,rfl⟩
def zdb(t:Int)(w:World):Calls prog 274 #[.int .i64 t] w fun e w'=>e=.returned (.bool (t != 0))/\w'=w:=by
 go_enter func274,ntmps274;go_wp2;go_ret;exact⟨rfl,rfl⟩
def zdc(w:World)(lo:Nat):FitL w lo (.func (.func 274) #[] #[]) (fun t=>t != 0):=
 ⟨274,#[],fun _=>False,rfl,by intro args w;simp,fun k hk=>hk.elim,fun t w1 _ _=>(zdb t w1).mono fun e w' ⟨h1,h2⟩=>⟨h1,by subst h2;exact Below.refl _ _⟩⟩
def is1C(t x:Int)(B:Nat)(w:World)(hc:w.cell? ⟨B,0,none⟩=some (.int .i64 x)):Calls prog 280 #[.int .i64 t,.pointer (some ⟨B,0,none⟩)] w fun e w'=>e=.returned (.bool (t==x))/\w'=w:=by
 go_enter func280,ntmps280;go_wp2;go_ret;exact⟨rfl,rfl⟩
def isC(x:Int)(w:World):Calls prog 251 #[.int .i64 x] w fun e w'=>∃v,e=.returned v/\FitL w' w.heap.size v (fun t=>t==x)/\Below w.heap.size w w':=by
 have hmf:=hmf5;go_enter func251,ntmps251;go_wp2;go_ret;refine⟨_,rfl,⟨280,#[.pointer (some ⟨w.heap.size,0,none⟩)],fun k=>k=w.heap.size,rfl,by intro args w;simp,fun k hk=>by subst hk;simp,fun t w1 hb _=>?_⟩,za _ _⟩;refine(is1C t x w.heap.size w1 ?_).mono fun e w' ⟨h1,h2⟩=>⟨h1,by subst h2;exact Below.refl _ _⟩;rw[yp (zhj hb),wy _ _ _ _ _ _ (ye w _)];rfl
def zs0(t:Int)(w:World):Calls prog 349 #[.int .i64 t] w fun e w'=>e=.returned (.bool (t==1 || t==3))/\w'=w:=by
 by_cases h1:t=1
 ·subst h1;go_enter func349,ntmps349;go_wp2;go_ret;exact⟨rfl,rfl⟩
 have q1:(t==1)=false:=by rw[yI];exact h1
 have HE:Hid ((t==1 || t==3)=(t==3)):=by show _=_;rw[q1,Bool.false_or]
 clear h1;go_enter func349,ntmps349;go_wp2;go_ret;exact⟨by rw[HE.out];rfl,rfl⟩
def zss(w:World)(lo:Nat):FitL w lo (.func (.func 349) #[] #[]) (fun t=>t==1 || t==3):=
 ⟨349,#[],fun _=>False,rfl,by intro args w;simp,fun k hk=>hk.elim,fun t w1 _ _=>(zs0 t w1).mono fun e w' ⟨h1,h2⟩=>⟨h1,by subst h2;exact Below.refl _ _⟩⟩
def zsh(t:Int)(w:World):Calls prog 350 #[.int .i64 t] w fun e w'=>e=.returned (.int .i64 t)/\w'=w:=by
 go_enter func350,ntmps350;go_wp2;go_ret;exact⟨rfl,rfl⟩
def zr3(w:World)(lo:Nat):GivL w lo (.func (.func 350) #[] #[]) (fun t=>t):=
 ⟨350,#[],fun _=>False,rfl,by intro args w;simp,fun k hk=>hk.elim,fun t w1 _ _=>(zsh t w1).mono fun e w' ⟨h1,h2⟩=>⟨h1,by subst h2;exact Below.refl _ _⟩⟩
def zmn(t x:Int)(B:Nat)(w:World)(hc:w.cell? ⟨B,0,none⟩=some (.int .i64 x)):Calls prog 348 #[.int .i64 t,.pointer (some ⟨B,0,none⟩)] w fun e w'=>e=.returned (.int .i64 x)/\w'=w:=by
 go_enter func348,ntmps348;go_wp2;go_ret;exact⟨rfl,rfl⟩
def xP(x:Int)(w:World):Calls prog 347 #[.int .i64 x] w fun e w'=>∃v,e=.returned v/\GivL w' w.heap.size v (fun _=>x)/\Below w.heap.size w w':=by
 have hmf:=hmf5;go_enter func347,ntmps347;go_wp2;go_ret;refine⟨_,rfl,⟨348,#[.pointer (some ⟨w.heap.size,0,none⟩)],fun k=>k=w.heap.size,rfl,by intro args w;simp,fun k hk=>by subst hk;simp,fun t w1 hb _=>?_⟩,za _ _⟩;refine(zmn t x w.heap.size w1 ?_).mono fun e w' ⟨h1,h2⟩=>⟨h1,by subst h2;exact Below.refl _ _⟩;rw[yp (zhj hb),wy _ _ _ _ _ _ (ye w _)];rfl
def zsc(op num:Int)(aZ:List Nat)(k:Value)(aW:Int)(w:World)(ht:Byn aZ):Calls prog 341 #[.agg #[.int .i64 op,.int .i64 num,.string (strN aZ),k,.int .i64 aW]] w fun e w'=>e=.returned (.tuple #[.int .i64 (jT op aZ).1,.int .i64 (jT op aZ).2])/\Below w.heap.size w w':=by
 by_cases h8:op=8
 ·subst h8;go_enter func341,ntmps341;go_wp2;go_ret2;exact⟨rfl,za _ _⟩
 by_cases h9:op=9
 ·subst h9;go_enter func341,ntmps341;go_wp2;go_ret2;exact⟨rfl,za _ _⟩
 by_cases h10:op=10
 ·subst h10;go_enter func341,ntmps341;go_wp2;go_ret2;exact⟨rfl,za _ _⟩
 have q8:(op==8)=false:=by rw[yI];exact h8
 have q9:(op==9)=false:=by rw[yI];exact h9
 have q10:(op==10)=false:=by rw[yI];exact h10
 have hq:((strN aZ).toList == [45])=decide (aZ=[45]):=kZ ht [45] (by unfold Byn;decide);by_cases ht1:aZ=[45]
 ·have HE:Hid (jT op aZ=(1,1)):=by show _=_;unfold jT;rw[if_neg h8,if_neg h9,if_neg h10,if_pos ht1]
  rw[decide_eq_true ht1]at hq;clear h8 h9 h10 ht1 ht;go_enter func341,ntmps341;go_wp2
  go_ret2
  exact⟨by rw[HE.out];rfl,za _ _⟩
 ·have HE:Hid (jT op aZ=(2,2)):=by show _=_;unfold jT;rw[if_neg h8,if_neg h9,if_neg h10,if_neg ht1]
  rw[decide_eq_false ht1]at hq;clear h8 h9 h10 ht1 ht;go_enter func341,ntmps341;go_wp2
  go_ret2
  exact⟨by rw[HE.out];rfl,za _ _⟩
def ztc(w:World)(c p:Int)(n:Nat)(hn:n=w.heap.size):FV (w.alloc (.cells #[.int .i64 c,.int .i64 p] 183)) (some (c,p)) (.pointer (some ⟨n,0,none⟩)):=by subst hn;exact xK w c p
def Sco.lt{b:Nat}{sc:zX}(h:Sco w b sc):b<w.heap.size:=qs.lt h
def vh{b:Nat}{sc:zX}(h:Sco w b sc)(hs:Byn s):(Instr.lookup 238 (.map (some b)) (.string (strN s)) true).run prog w=.ok (.tuple #[(((seek sc s).map fun d=>Value.agg #[.int .i64 d.1,.bool d.2]).getD (.agg #[.int .i64 0,.bool false])),.bool (seek sc s).isSome]) w:=by
 have hz:(zeroValue 270).run prog w=.ok (.agg #[.int .i64 0,.bool false]) w:=by simp[Tryz.zeroValue270]
 have:=jH h hs underlying238 hz;rw[zjj]at this;rw[this];cases seek sc s<;>rfl
def zc3(b:Nat)(sc:zX)(s:List Nat)(hs:Byn s)(k:Int)(l:Bool)(aW:Int)(w:World)(h:Sco w b sc):Calls prog 210 #[.map (some b),.string (strN s),.agg #[.int .i64 k,.bool l],.int .i64 aW] w fun e w'=>FOut (zY sc s (k,l) aW).1 e w'/\Sco w' b (zY sc s (k,l) aW).2/\w.grownBy w' (some b):=by
 have hl:=h.lt;go_enter func210,ntmps210;go_upto_region 1 with fail
 have BW:=aQ (za w (.cells #[.int .i64 k,.bool l] 270));have HS:=aQ (h.below BW.out);have c0:(w.alloc (.cells #[.int .i64 k,.bool l] 270)).cell? ⟨w.heap.size,0,none⟩=some (.int .i64 k):=by rw[wy _ _ _ _ _ _ (ye w _)];rfl
 have c1:(w.alloc (.cells #[.int .i64 k,.bool l] 270)).cell? ⟨w.heap.size,1,none⟩=some (.bool l):=by rw[wy _ _ _ _ _ _ (ye w _)];rfl
 generalize w.alloc (.cells #[.int .i64 k,.bool l] 270)=w0 at *
 have hrun:=vh HS.out hs;cases hk:seek sc s with
 | some d=>
  rw[hk]at hrun;simp only[Option.map_some,Option.getD_some,Option.isSome_some]at hrun;have HE:Hid (zY sc s (k,l) aW=(some (53,aW),sc)):=by show _=_;simp[zY,hk]
  clear hk h hl;go_wp2;go_ret;refine⟨⟨_,rfl,?_⟩,?_,?_⟩
  ·rw[HE.out];exact ztc _ 53 aW _ (by simp)
  ·rw[HE.out];exact(HS.out.below (za _ _)).below (za _ _)
  ·exact zT (zd BW.out (zd (za _ _) (za _ _) (by simp)) BW.out.size) _
 | none=>
  rw[hk]at hrun;simp only[Option.map_none,Option.getD_none,Option.isSome_none]at hrun;have HN:=aQ hk;have HE:Hid (zY sc s (k,l) aW=(none,sc++[(s,(k,l))])):=by show _=_;simp[zY,hk]
  (go_upto_region 4 with fail);have BX:=aQ (za w0 (.cells #[.int .i64 0,.bool false] 270));have HL:Hid (w.heap.size<w0.heap.size):=wW w0 _ c0;have c0':(w0.alloc (.cells #[.int .i64 0,.bool false] 270)).cell? ⟨w.heap.size,0,none⟩=some (.int .i64 k):=by rw[BX.out.cell (by exact HL.out)];exact c0
  have c1':(w0.alloc (.cells #[.int .i64 0,.bool false] 270)).cell? ⟨w.heap.size,1,none⟩=some (.bool l):=by rw[BX.out.cell (by exact HL.out)];exact c1
  have HS1:=aQ (HS.out.below BX.out);have B1:=aQ (zd BW.out BX.out BW.out.size);clear c0 c1 hrun hl HS BX h HL BW hk
  generalize w0.alloc (.cells #[.int .i64 0,.bool false] 270)=w1 at *
  obtain⟨w2,hup,hm,hg,hz⟩:=zbi HS1.out hs (by rw[zjj];show Option.map _ (seek sc s)=none;rw[show seek sc s=none from HN.out];rfl) underlying238 (.agg #[.int .i64 k,.bool l]);have HM:=aQ hm;have HG:=aQ hg;clear hm hg hz HS1;go_wp2;go_ret;rw[HE.out];exact⟨⟨_,rfl,rfl⟩,by have:=HM.out;unfold Sco scC;rw[List.map_append];exact this,zQ (zT B1.out _) HG.out⟩
def zL:(prog.info? 348).map (·.size)=some 2:=by kernel_rfl
def zw(h:w.there g 0 n)(hb:Below B w w')(hg:g<B):w'.there g 0 n:=by
 intro j hj;have e:=hb.block g hg;refine⟨?_,?_⟩
 ·rw[hb.cell (by exact hg)];exact(h j hj).1
 ·have:=(h j hj).2;unfold World.frozen? at this⊢;rw[e];exact this
def qy{fn:Func}{s T u:Nat}{d:TypeDesc}{cs:List Value}(h:fn.results=#[.cell s T,.tmp u])(hu:prog.underlying T=some d)(hd:d.isRow=true)(hi:(prog.info? T).map (·.size)=some cs.length)(tmps:Array Value)(w:World)(g:Nat)(hp:tmps.getD s undef=.pointer (some ⟨g,0,none⟩))(hr:w.rangeAt g 0 cs):(results fn tmps).run prog w=.ok (.tuple #[.agg cs.toArray,tmps.getD u undef]) w:=by
 have hp':tmps[s]?.getD undef=.pointer (some ⟨g,0,none⟩):=by simpa using hp
 have h1:=run_loadVar_mid (P:=prog) w g 0 T cs _ hr hu hd hi;simp[results,h,hp',asAddr,h1]
def x8(g:Sg)(w:World)(e:Ending)(w':World):Prop:=
 ∃v1 v2,e=.returned (.tuple #[.agg #[v1,v2],.bool true])/\FitV w' v1 g.takes/\GivV w' v2 g.gives/\Below w.heap.size w w'
abbrev opO:Obj:=.cells #[.nilFunc,.nilFunc] 348
def qX(w:World):(w.alloc opO).there w.heap.size 0 2:=zD (cs:=[.nilFunc,.nilFunc]) (ye w _) rfl
def qT(h:∀k,k≠g->w'.heap[k]? =w.heap[k]?)(k:Nat)(hk:g+1<=k):w'.heap[k]? =w.heap[k]?:=h k (by omega)
def zlr(w:World):Calls prog 340 #[.string ⟨#[43]⟩] w (x8 ⟨fun t=>t==1 || t==3,fun t=>t⟩ w):=by
 have hmf:=hmf5;go_enter func340,ntmps340
 go_wp2_with(refine zc zL rfl (.tmp 2) (.tmp 10) rfl rfl w.heap.size rfl [_,_] rfl rfl (qX w) (by simp[Value.oneCell']) ?_;intro w2 g1 g2 g3 g4 g5)
 refine vS (qy (cs:=[_,_]) results340 underlying348 rfl zL _ _ w.heap.size rfl g1) rfl ?_;exact⟨_,_,rfl,zss _ _,zr3 _ _,(za w opO).trans g3⟩
def zik(w:World):Calls prog 340 #[.string ⟨#[45]⟩] w (x8 ⟨fun t=>t==1,fun _=>1⟩ w):=by
 have hmf:=hmf5;have I:=aQ (isC 1);have A:=aQ (xP 1);have HT:=aQ (qX w);have BO:=aQ (za w opO);have SO:Hid (w.heap.size+1<=(w.alloc opO).heap.size):=by show _<=_;simp
 go_enter func340,ntmps340
 go_wp2_with fail
 generalize w.alloc (Obj.cells #[Value.nilFunc,Value.nilFunc] 348)=w0 at *
 with_reducible refine(I.out _).mono ?_
 rintro e w1⟨v1,rfl,f1,b1⟩;have F1:Hid (FitL w1 (w.heap.size+1) v1 (fun t=>t==1)):=by
  obtain⟨fn,caps,D,h1,h2,h3,h4⟩:=f1;exact⟨fn,caps,D,h1,h2,fun k hk=>⟨aT SO.out (h3 k hk).1,(h3 k hk).2⟩,h4⟩
 have B1:=aQ (zd BO.out b1 BO.out.size);have T1:=aQ (zw HT.out b1 SO.out);have S1:Hid (w.heap.size+1<=w1.heap.size):=aT SO.out b1.size;obtain⟨fn1,caps1,D1,rfl,_⟩:=f1;clear b1 BO HT SO
 go_wp2_with fail
 with_reducible refine(A.out _).mono ?_
 rintro e w2⟨v2,rfl,f2,b2⟩;have F2:Hid (GivL w2 (w.heap.size+1) v2 (fun _=>1)):=by
  obtain⟨fn,caps,D,h1,h2,h3,h4⟩:=f2;exact⟨fn,caps,D,h1,h2,fun k hk=>⟨aT S1.out (h3 k hk).1,(h3 k hk).2⟩,h4⟩
 have B2:=aQ (zd B1.out b2 B1.out.size);have T2:=aQ (zw T1.out b2 S1.out);have F3:=aQ (F1.out.below b2);obtain⟨fn2,caps2,D2,rfl,_⟩:=f2;clear b2 F1 B1 T1 S1
 go_wp2_with(refine zc zL rfl (.tmp 2) (.tmp 19) rfl rfl w.heap.size rfl [_,_] rfl rfl T2.out (by simp[Value.oneCell']) ?_;intro w3 g1 g2 g3 g4 g5)
 refine vS (qy (cs:=[_,_]) results340 underlying348 rfl zL _ _ w.heap.size rfl g1) rfl ?_;exact⟨_,_,rfl,(F3.out.same (fun k h1 _=>qT g4 k h1) (Nat.le_of_eq g5.symm)).less,(F2.out.same (fun k h1 _=>qT g4 k h1) (Nat.le_of_eq g5.symm)).less,B2.out.trans g3⟩
def zif(w:World):Calls prog 340 #[.string ⟨#[42]⟩] w (x8 ⟨fun t=>t==1,fun _=>1⟩ w):=by
 have hmf:=hmf5;have I:=aQ (isC 1);have A:=aQ (xP 1);have HT:=aQ (qX w);have BO:=aQ (za w opO);have SO:Hid (w.heap.size+1<=(w.alloc opO).heap.size):=by show _<=_;simp
 go_enter func340,ntmps340
 go_wp2_with fail
 generalize w.alloc (Obj.cells #[Value.nilFunc,Value.nilFunc] 348)=w0 at *
 with_reducible refine(I.out _).mono ?_
 rintro e w1⟨v1,rfl,f1,b1⟩;have F1:Hid (FitL w1 (w.heap.size+1) v1 (fun t=>t==1)):=by
  obtain⟨fn,caps,D,h1,h2,h3,h4⟩:=f1;exact⟨fn,caps,D,h1,h2,fun k hk=>⟨aT SO.out (h3 k hk).1,(h3 k hk).2⟩,h4⟩
 have B1:=aQ (zd BO.out b1 BO.out.size);have T1:=aQ (zw HT.out b1 SO.out);have S1:Hid (w.heap.size+1<=w1.heap.size):=aT SO.out b1.size;obtain⟨fn1,caps1,D1,rfl,_⟩:=f1;clear b1 BO HT SO
 go_wp2_with fail
 with_reducible refine(A.out _).mono ?_
 rintro e w2⟨v2,rfl,f2,b2⟩;have F2:Hid (GivL w2 (w.heap.size+1) v2 (fun _=>1)):=by
  obtain⟨fn,caps,D,h1,h2,h3,h4⟩:=f2;exact⟨fn,caps,D,h1,h2,fun k hk=>⟨aT S1.out (h3 k hk).1,(h3 k hk).2⟩,h4⟩
 have B2:=aQ (zd B1.out b2 B1.out.size);have T2:=aQ (zw T1.out b2 S1.out);have F3:=aQ (F1.out.below b2);obtain⟨fn2,caps2,D2,rfl,_⟩:=f2;clear b2 F1 B1 T1 S1
 go_wp2_with(refine zc zL rfl (.tmp 2) (.tmp 19) rfl rfl w.heap.size rfl [_,_] rfl rfl T2.out (by simp[Value.oneCell']) ?_;intro w3 g1 g2 g3 g4 g5)
 refine vS (qy (cs:=[_,_]) results340 underlying348 rfl zL _ _ w.heap.size rfl g1) rfl ?_;exact⟨_,_,rfl,(F3.out.same (fun k h1 _=>qT g4 k h1) (Nat.le_of_eq g5.symm)).less,(F2.out.same (fun k h1 _=>qT g4 k h1) (Nat.le_of_eq g5.symm)).less,B2.out.trans g3⟩
def zmo(w:World):Calls prog 340 #[.string ⟨#[47]⟩] w (x8 ⟨fun t=>t==1,fun _=>1⟩ w):=by
 have hmf:=hmf5;have I:=aQ (isC 1);have A:=aQ (xP 1);have HT:=aQ (qX w);have BO:=aQ (za w opO);have SO:Hid (w.heap.size+1<=(w.alloc opO).heap.size):=by show _<=_;simp
 go_enter func340,ntmps340
 go_wp2_with fail
 generalize w.alloc (Obj.cells #[Value.nilFunc,Value.nilFunc] 348)=w0 at *
 with_reducible refine(I.out _).mono ?_
 rintro e w1⟨v1,rfl,f1,b1⟩;have F1:Hid (FitL w1 (w.heap.size+1) v1 (fun t=>t==1)):=by
  obtain⟨fn,caps,D,h1,h2,h3,h4⟩:=f1;exact⟨fn,caps,D,h1,h2,fun k hk=>⟨aT SO.out (h3 k hk).1,(h3 k hk).2⟩,h4⟩
 have B1:=aQ (zd BO.out b1 BO.out.size);have T1:=aQ (zw HT.out b1 SO.out);have S1:Hid (w.heap.size+1<=w1.heap.size):=aT SO.out b1.size;obtain⟨fn1,caps1,D1,rfl,_⟩:=f1;clear b1 BO HT SO
 go_wp2_with fail
 with_reducible refine(A.out _).mono ?_
 rintro e w2⟨v2,rfl,f2,b2⟩;have F2:Hid (GivL w2 (w.heap.size+1) v2 (fun _=>1)):=by
  obtain⟨fn,caps,D,h1,h2,h3,h4⟩:=f2;exact⟨fn,caps,D,h1,h2,fun k hk=>⟨aT S1.out (h3 k hk).1,(h3 k hk).2⟩,h4⟩
 have B2:=aQ (zd B1.out b2 B1.out.size);have T2:=aQ (zw T1.out b2 S1.out);have F3:=aQ (F1.out.below b2);obtain⟨fn2,caps2,D2,rfl,_⟩:=f2;clear b2 F1 B1 T1 S1
 go_wp2_with(refine zc zL rfl (.tmp 2) (.tmp 19) rfl rfl w.heap.size rfl [_,_] rfl rfl T2.out (by simp[Value.oneCell']) ?_;intro w3 g1 g2 g3 g4 g5)
 refine vS (qy (cs:=[_,_]) results340 underlying348 rfl zL _ _ w.heap.size rfl g1) rfl ?_;exact⟨_,_,rfl,(F3.out.same (fun k h1 _=>qT g4 k h1) (Nat.le_of_eq g5.symm)).less,(F2.out.same (fun k h1 _=>qT g4 k h1) (Nat.le_of_eq g5.symm)).less,B2.out.trans g3⟩
def znq(w:World):Calls prog 340 #[.string ⟨#[37]⟩] w (x8 ⟨fun t=>t==1,fun _=>1⟩ w):=by
 have hmf:=hmf5;have I:=aQ (isC 1);have A:=aQ (xP 1);have HT:=aQ (qX w);have BO:=aQ (za w opO);have SO:Hid (w.heap.size+1<=(w.alloc opO).heap.size):=by show _<=_;simp
 go_enter func340,ntmps340
 go_wp2_with fail
 generalize w.alloc (Obj.cells #[Value.nilFunc,Value.nilFunc] 348)=w0 at *
 with_reducible refine(I.out _).mono ?_
 rintro e w1⟨v1,rfl,f1,b1⟩;have F1:Hid (FitL w1 (w.heap.size+1) v1 (fun t=>t==1)):=by
  obtain⟨fn,caps,D,h1,h2,h3,h4⟩:=f1;exact⟨fn,caps,D,h1,h2,fun k hk=>⟨aT SO.out (h3 k hk).1,(h3 k hk).2⟩,h4⟩
 have B1:=aQ (zd BO.out b1 BO.out.size);have T1:=aQ (zw HT.out b1 SO.out);have S1:Hid (w.heap.size+1<=w1.heap.size):=aT SO.out b1.size;obtain⟨fn1,caps1,D1,rfl,_⟩:=f1;clear b1 BO HT SO
 go_wp2_with fail
 with_reducible refine(A.out _).mono ?_
 rintro e w2⟨v2,rfl,f2,b2⟩;have F2:Hid (GivL w2 (w.heap.size+1) v2 (fun _=>1)):=by
  obtain⟨fn,caps,D,h1,h2,h3,h4⟩:=f2;exact⟨fn,caps,D,h1,h2,fun k hk=>⟨aT S1.out (h3 k hk).1,(h3 k hk).2⟩,h4⟩
 have B2:=aQ (zd B1.out b2 B1.out.size);have T2:=aQ (zw T1.out b2 S1.out);have F3:=aQ (F1.out.below b2);obtain⟨fn2,caps2,D2,rfl,_⟩:=f2;clear b2 F1 B1 T1 S1
 go_wp2_with(refine zc zL rfl (.tmp 2) (.tmp 19) rfl rfl w.heap.size rfl [_,_] rfl rfl T2.out (by simp[Value.oneCell']) ?_;intro w3 g1 g2 g3 g4 g5)
 refine vS (qy (cs:=[_,_]) results340 underlying348 rfl zL _ _ w.heap.size rfl g1) rfl ?_;exact⟨_,_,rfl,(F3.out.same (fun k h1 _=>qT g4 k h1) (Nat.le_of_eq g5.symm)).less,(F2.out.same (fun k h1 _=>qT g4 k h1) (Nat.le_of_eq g5.symm)).less,B2.out.trans g3⟩
def zq9(w:World):Calls prog 340 #[.string ⟨#[61,61]⟩] w (x8 ⟨fun t=>t != 0,fun _=>2⟩ w):=by
 have hmf:=hmf5;have I:=aQ (isC 0);have A:=aQ (xP 2);have HT:=aQ (qX w);have BO:=aQ (za w opO);have SO:Hid (w.heap.size+1<=(w.alloc opO).heap.size):=by show _<=_;simp
 go_enter func340,ntmps340
 go_wp2_with fail
 generalize w.alloc (Obj.cells #[Value.nilFunc,Value.nilFunc] 348)=w0 at *
 have B1:=BO;have T1:=HT;have S1:=SO;have F1:=aQ (zdc w0 (w.heap.size+1))
 with_reducible refine(A.out _).mono ?_
 rintro e w2⟨v2,rfl,f2,b2⟩;have F2:Hid (GivL w2 (w.heap.size+1) v2 (fun _=>2)):=by
  obtain⟨fn,caps,D,h1,h2,h3,h4⟩:=f2;exact⟨fn,caps,D,h1,h2,fun k hk=>⟨aT S1.out (h3 k hk).1,(h3 k hk).2⟩,h4⟩
 have B2:=aQ (zd B1.out b2 B1.out.size);have T2:=aQ (zw T1.out b2 S1.out);have F3:=aQ (F1.out.below b2);obtain⟨fn2,caps2,D2,rfl,_⟩:=f2;clear b2 F1 B1 T1 S1
 go_wp2_with(refine zc zL rfl (.tmp 2) (.tmp 25) rfl rfl w.heap.size rfl [_,_] rfl rfl T2.out (by simp[Value.oneCell']) ?_;intro w3 g1 g2 g3 g4 g5)
 refine vS (qy (cs:=[_,_]) results340 underlying348 rfl zL _ _ w.heap.size rfl g1) rfl ?_;exact⟨_,_,rfl,(F3.out.same (fun k h1 _=>qT g4 k h1) (Nat.le_of_eq g5.symm)).less,(F2.out.same (fun k h1 _=>qT g4 k h1) (Nat.le_of_eq g5.symm)).less,B2.out.trans g3⟩
def zq5(w:World):Calls prog 340 #[.string ⟨#[33,61]⟩] w (x8 ⟨fun t=>t != 0,fun _=>2⟩ w):=by
 have hmf:=hmf5;have I:=aQ (isC 0);have A:=aQ (xP 2);have HT:=aQ (qX w);have BO:=aQ (za w opO);have SO:Hid (w.heap.size+1<=(w.alloc opO).heap.size):=by show _<=_;simp
 go_enter func340,ntmps340
 go_wp2_with fail
 generalize w.alloc (Obj.cells #[Value.nilFunc,Value.nilFunc] 348)=w0 at *
 have B1:=BO;have T1:=HT;have S1:=SO;have F1:=aQ (zdc w0 (w.heap.size+1))
 with_reducible refine(A.out _).mono ?_
 rintro e w2⟨v2,rfl,f2,b2⟩;have F2:Hid (GivL w2 (w.heap.size+1) v2 (fun _=>2)):=by
  obtain⟨fn,caps,D,h1,h2,h3,h4⟩:=f2;exact⟨fn,caps,D,h1,h2,fun k hk=>⟨aT S1.out (h3 k hk).1,(h3 k hk).2⟩,h4⟩
 have B2:=aQ (zd B1.out b2 B1.out.size);have T2:=aQ (zw T1.out b2 S1.out);have F3:=aQ (F1.out.below b2);obtain⟨fn2,caps2,D2,rfl,_⟩:=f2;clear b2 F1 B1 T1 S1
 go_wp2_with(refine zc zL rfl (.tmp 2) (.tmp 25) rfl rfl w.heap.size rfl [_,_] rfl rfl T2.out (by simp[Value.oneCell']) ?_;intro w3 g1 g2 g3 g4 g5)
 refine vS (qy (cs:=[_,_]) results340 underlying348 rfl zL _ _ w.heap.size rfl g1) rfl ?_;exact⟨_,_,rfl,(F3.out.same (fun k h1 _=>qT g4 k h1) (Nat.le_of_eq g5.symm)).less,(F2.out.same (fun k h1 _=>qT g4 k h1) (Nat.le_of_eq g5.symm)).less,B2.out.trans g3⟩
def zrh(w:World):Calls prog 340 #[.string ⟨#[60]⟩] w (x8 ⟨fun t=>t==1,fun _=>2⟩ w):=by
 have hmf:=hmf5;have I:=aQ (isC 1);have A:=aQ (xP 2);have HT:=aQ (qX w);have BO:=aQ (za w opO);have SO:Hid (w.heap.size+1<=(w.alloc opO).heap.size):=by show _<=_;simp
 go_enter func340,ntmps340
 go_wp2_with fail
 generalize w.alloc (Obj.cells #[Value.nilFunc,Value.nilFunc] 348)=w0 at *
 with_reducible refine(I.out _).mono ?_
 rintro e w1⟨v1,rfl,f1,b1⟩;have F1:Hid (FitL w1 (w.heap.size+1) v1 (fun t=>t==1)):=by
  obtain⟨fn,caps,D,h1,h2,h3,h4⟩:=f1;exact⟨fn,caps,D,h1,h2,fun k hk=>⟨aT SO.out (h3 k hk).1,(h3 k hk).2⟩,h4⟩
 have B1:=aQ (zd BO.out b1 BO.out.size);have T1:=aQ (zw HT.out b1 SO.out);have S1:Hid (w.heap.size+1<=w1.heap.size):=aT SO.out b1.size;obtain⟨fn1,caps1,D1,rfl,_⟩:=f1;clear b1 BO HT SO
 go_wp2_with fail
 with_reducible refine(A.out _).mono ?_
 rintro e w2⟨v2,rfl,f2,b2⟩;have F2:Hid (GivL w2 (w.heap.size+1) v2 (fun _=>2)):=by
  obtain⟨fn,caps,D,h1,h2,h3,h4⟩:=f2;exact⟨fn,caps,D,h1,h2,fun k hk=>⟨aT S1.out (h3 k hk).1,(h3 k hk).2⟩,h4⟩
 have B2:=aQ (zd B1.out b2 B1.out.size);have T2:=aQ (zw T1.out b2 S1.out);have F3:=aQ (F1.out.below b2);obtain⟨fn2,caps2,D2,rfl,_⟩:=f2;clear b2 F1 B1 T1 S1
 go_wp2_with(refine zc zL rfl (.tmp 2) (.tmp 34) rfl rfl w.heap.size rfl [_,_] rfl rfl T2.out (by simp[Value.oneCell']) ?_;intro w3 g1 g2 g3 g4 g5)
 refine vS (qy (cs:=[_,_]) results340 underlying348 rfl zL _ _ w.heap.size rfl g1) rfl ?_;exact⟨_,_,rfl,(F3.out.same (fun k h1 _=>qT g4 k h1) (Nat.le_of_eq g5.symm)).less,(F2.out.same (fun k h1 _=>qT g4 k h1) (Nat.le_of_eq g5.symm)).less,B2.out.trans g3⟩
def zqk(w:World):Calls prog 340 #[.string ⟨#[60,61]⟩] w (x8 ⟨fun t=>t==1,fun _=>2⟩ w):=by
 have hmf:=hmf5;have I:=aQ (isC 1);have A:=aQ (xP 2);have HT:=aQ (qX w);have BO:=aQ (za w opO);have SO:Hid (w.heap.size+1<=(w.alloc opO).heap.size):=by show _<=_;simp
 go_enter func340,ntmps340
 go_wp2_with fail
 generalize w.alloc (Obj.cells #[Value.nilFunc,Value.nilFunc] 348)=w0 at *
 with_reducible refine(I.out _).mono ?_
 rintro e w1⟨v1,rfl,f1,b1⟩;have F1:Hid (FitL w1 (w.heap.size+1) v1 (fun t=>t==1)):=by
  obtain⟨fn,caps,D,h1,h2,h3,h4⟩:=f1;exact⟨fn,caps,D,h1,h2,fun k hk=>⟨aT SO.out (h3 k hk).1,(h3 k hk).2⟩,h4⟩
 have B1:=aQ (zd BO.out b1 BO.out.size);have T1:=aQ (zw HT.out b1 SO.out);have S1:Hid (w.heap.size+1<=w1.heap.size):=aT SO.out b1.size;obtain⟨fn1,caps1,D1,rfl,_⟩:=f1;clear b1 BO HT SO
 go_wp2_with fail
 with_reducible refine(A.out _).mono ?_
 rintro e w2⟨v2,rfl,f2,b2⟩;have F2:Hid (GivL w2 (w.heap.size+1) v2 (fun _=>2)):=by
  obtain⟨fn,caps,D,h1,h2,h3,h4⟩:=f2;exact⟨fn,caps,D,h1,h2,fun k hk=>⟨aT S1.out (h3 k hk).1,(h3 k hk).2⟩,h4⟩
 have B2:=aQ (zd B1.out b2 B1.out.size);have T2:=aQ (zw T1.out b2 S1.out);have F3:=aQ (F1.out.below b2);obtain⟨fn2,caps2,D2,rfl,_⟩:=f2;clear b2 F1 B1 T1 S1
 go_wp2_with(refine zc zL rfl (.tmp 2) (.tmp 34) rfl rfl w.heap.size rfl [_,_] rfl rfl T2.out (by simp[Value.oneCell']) ?_;intro w3 g1 g2 g3 g4 g5)
 refine vS (qy (cs:=[_,_]) results340 underlying348 rfl zL _ _ w.heap.size rfl g1) rfl ?_;exact⟨_,_,rfl,(F3.out.same (fun k h1 _=>qT g4 k h1) (Nat.le_of_eq g5.symm)).less,(F2.out.same (fun k h1 _=>qT g4 k h1) (Nat.le_of_eq g5.symm)).less,B2.out.trans g3⟩
def zp3(w:World):Calls prog 340 #[.string ⟨#[62]⟩] w (x8 ⟨fun t=>t==1,fun _=>2⟩ w):=by
 have hmf:=hmf5;have I:=aQ (isC 1);have A:=aQ (xP 2);have HT:=aQ (qX w);have BO:=aQ (za w opO);have SO:Hid (w.heap.size+1<=(w.alloc opO).heap.size):=by show _<=_;simp
 go_enter func340,ntmps340
 go_wp2_with fail
 generalize w.alloc (Obj.cells #[Value.nilFunc,Value.nilFunc] 348)=w0 at *
 with_reducible refine(I.out _).mono ?_
 rintro e w1⟨v1,rfl,f1,b1⟩;have F1:Hid (FitL w1 (w.heap.size+1) v1 (fun t=>t==1)):=by
  obtain⟨fn,caps,D,h1,h2,h3,h4⟩:=f1;exact⟨fn,caps,D,h1,h2,fun k hk=>⟨aT SO.out (h3 k hk).1,(h3 k hk).2⟩,h4⟩
 have B1:=aQ (zd BO.out b1 BO.out.size);have T1:=aQ (zw HT.out b1 SO.out);have S1:Hid (w.heap.size+1<=w1.heap.size):=aT SO.out b1.size;obtain⟨fn1,caps1,D1,rfl,_⟩:=f1;clear b1 BO HT SO
 go_wp2_with fail
 with_reducible refine(A.out _).mono ?_
 rintro e w2⟨v2,rfl,f2,b2⟩;have F2:Hid (GivL w2 (w.heap.size+1) v2 (fun _=>2)):=by
  obtain⟨fn,caps,D,h1,h2,h3,h4⟩:=f2;exact⟨fn,caps,D,h1,h2,fun k hk=>⟨aT S1.out (h3 k hk).1,(h3 k hk).2⟩,h4⟩
 have B2:=aQ (zd B1.out b2 B1.out.size);have T2:=aQ (zw T1.out b2 S1.out);have F3:=aQ (F1.out.below b2);obtain⟨fn2,caps2,D2,rfl,_⟩:=f2;clear b2 F1 B1 T1 S1
 go_wp2_with(refine zc zL rfl (.tmp 2) (.tmp 34) rfl rfl w.heap.size rfl [_,_] rfl rfl T2.out (by simp[Value.oneCell']) ?_;intro w3 g1 g2 g3 g4 g5)
 refine vS (qy (cs:=[_,_]) results340 underlying348 rfl zL _ _ w.heap.size rfl g1) rfl ?_;exact⟨_,_,rfl,(F3.out.same (fun k h1 _=>qT g4 k h1) (Nat.le_of_eq g5.symm)).less,(F2.out.same (fun k h1 _=>qT g4 k h1) (Nat.le_of_eq g5.symm)).less,B2.out.trans g3⟩
def zp5(w:World):Calls prog 340 #[.string ⟨#[62,61]⟩] w (x8 ⟨fun t=>t==1,fun _=>2⟩ w):=by
 have hmf:=hmf5;have I:=aQ (isC 1);have A:=aQ (xP 2);have HT:=aQ (qX w);have BO:=aQ (za w opO);have SO:Hid (w.heap.size+1<=(w.alloc opO).heap.size):=by show _<=_;simp
 go_enter func340,ntmps340
 go_wp2_with fail
 generalize w.alloc (Obj.cells #[Value.nilFunc,Value.nilFunc] 348)=w0 at *
 with_reducible refine(I.out _).mono ?_
 rintro e w1⟨v1,rfl,f1,b1⟩;have F1:Hid (FitL w1 (w.heap.size+1) v1 (fun t=>t==1)):=by
  obtain⟨fn,caps,D,h1,h2,h3,h4⟩:=f1;exact⟨fn,caps,D,h1,h2,fun k hk=>⟨aT SO.out (h3 k hk).1,(h3 k hk).2⟩,h4⟩
 have B1:=aQ (zd BO.out b1 BO.out.size);have T1:=aQ (zw HT.out b1 SO.out);have S1:Hid (w.heap.size+1<=w1.heap.size):=aT SO.out b1.size;obtain⟨fn1,caps1,D1,rfl,_⟩:=f1;clear b1 BO HT SO
 go_wp2_with fail
 with_reducible refine(A.out _).mono ?_
 rintro e w2⟨v2,rfl,f2,b2⟩;have F2:Hid (GivL w2 (w.heap.size+1) v2 (fun _=>2)):=by
  obtain⟨fn,caps,D,h1,h2,h3,h4⟩:=f2;exact⟨fn,caps,D,h1,h2,fun k hk=>⟨aT S1.out (h3 k hk).1,(h3 k hk).2⟩,h4⟩
 have B2:=aQ (zd B1.out b2 B1.out.size);have T2:=aQ (zw T1.out b2 S1.out);have F3:=aQ (F1.out.below b2);obtain⟨fn2,caps2,D2,rfl,_⟩:=f2;clear b2 F1 B1 T1 S1
 go_wp2_with(refine zc zL rfl (.tmp 2) (.tmp 34) rfl rfl w.heap.size rfl [_,_] rfl rfl T2.out (by simp[Value.oneCell']) ?_;intro w3 g1 g2 g3 g4 g5)
 refine vS (qy (cs:=[_,_]) results340 underlying348 rfl zL _ _ w.heap.size rfl g1) rfl ?_;exact⟨_,_,rfl,(F3.out.same (fun k h1 _=>qT g4 k h1) (Nat.le_of_eq g5.symm)).less,(F2.out.same (fun k h1 _=>qT g4 k h1) (Nat.le_of_eq g5.symm)).less,B2.out.trans g3⟩
def zm8(w:World):Calls prog 340 #[.string ⟨#[38,38]⟩] w (x8 ⟨fun t=>t==2,fun _=>2⟩ w):=by
 have hmf:=hmf5;have I:=aQ (isC 2);have A:=aQ (xP 2);have HT:=aQ (qX w);have BO:=aQ (za w opO);have SO:Hid (w.heap.size+1<=(w.alloc opO).heap.size):=by show _<=_;simp
 go_enter func340,ntmps340
 go_wp2_with fail
 generalize w.alloc (Obj.cells #[Value.nilFunc,Value.nilFunc] 348)=w0 at *
 with_reducible refine(I.out _).mono ?_
 rintro e w1⟨v1,rfl,f1,b1⟩;have F1:Hid (FitL w1 (w.heap.size+1) v1 (fun t=>t==2)):=by
  obtain⟨fn,caps,D,h1,h2,h3,h4⟩:=f1;exact⟨fn,caps,D,h1,h2,fun k hk=>⟨aT SO.out (h3 k hk).1,(h3 k hk).2⟩,h4⟩
 have B1:=aQ (zd BO.out b1 BO.out.size);have T1:=aQ (zw HT.out b1 SO.out);have S1:Hid (w.heap.size+1<=w1.heap.size):=aT SO.out b1.size;obtain⟨fn1,caps1,D1,rfl,_⟩:=f1;clear b1 BO HT SO
 go_wp2_with fail
 with_reducible refine(A.out _).mono ?_
 rintro e w2⟨v2,rfl,f2,b2⟩;have F2:Hid (GivL w2 (w.heap.size+1) v2 (fun _=>2)):=by
  obtain⟨fn,caps,D,h1,h2,h3,h4⟩:=f2;exact⟨fn,caps,D,h1,h2,fun k hk=>⟨aT S1.out (h3 k hk).1,(h3 k hk).2⟩,h4⟩
 have B2:=aQ (zd B1.out b2 B1.out.size);have T2:=aQ (zw T1.out b2 S1.out);have F3:=aQ (F1.out.below b2);obtain⟨fn2,caps2,D2,rfl,_⟩:=f2;clear b2 F1 B1 T1 S1
 go_wp2_with(refine zc zL rfl (.tmp 2) (.tmp 41) rfl rfl w.heap.size rfl [_,_] rfl rfl T2.out (by simp[Value.oneCell']) ?_;intro w3 g1 g2 g3 g4 g5)
 refine vS (qy (cs:=[_,_]) results340 underlying348 rfl zL _ _ w.heap.size rfl g1) rfl ?_;exact⟨_,_,rfl,(F3.out.same (fun k h1 _=>qT g4 k h1) (Nat.le_of_eq g5.symm)).less,(F2.out.same (fun k h1 _=>qT g4 k h1) (Nat.le_of_eq g5.symm)).less,B2.out.trans g3⟩
def zq4(w:World):Calls prog 340 #[.string ⟨#[124,124]⟩] w (x8 ⟨fun t=>t==2,fun _=>2⟩ w):=by
 have hmf:=hmf5;have I:=aQ (isC 2);have A:=aQ (xP 2);have HT:=aQ (qX w);have BO:=aQ (za w opO);have SO:Hid (w.heap.size+1<=(w.alloc opO).heap.size):=by show _<=_;simp
 go_enter func340,ntmps340
 go_wp2_with fail
 generalize w.alloc (Obj.cells #[Value.nilFunc,Value.nilFunc] 348)=w0 at *
 with_reducible refine(I.out _).mono ?_
 rintro e w1⟨v1,rfl,f1,b1⟩;have F1:Hid (FitL w1 (w.heap.size+1) v1 (fun t=>t==2)):=by
  obtain⟨fn,caps,D,h1,h2,h3,h4⟩:=f1;exact⟨fn,caps,D,h1,h2,fun k hk=>⟨aT SO.out (h3 k hk).1,(h3 k hk).2⟩,h4⟩
 have B1:=aQ (zd BO.out b1 BO.out.size);have T1:=aQ (zw HT.out b1 SO.out);have S1:Hid (w.heap.size+1<=w1.heap.size):=aT SO.out b1.size;obtain⟨fn1,caps1,D1,rfl,_⟩:=f1;clear b1 BO HT SO
 go_wp2_with fail
 with_reducible refine(A.out _).mono ?_
 rintro e w2⟨v2,rfl,f2,b2⟩;have F2:Hid (GivL w2 (w.heap.size+1) v2 (fun _=>2)):=by
  obtain⟨fn,caps,D,h1,h2,h3,h4⟩:=f2;exact⟨fn,caps,D,h1,h2,fun k hk=>⟨aT S1.out (h3 k hk).1,(h3 k hk).2⟩,h4⟩
 have B2:=aQ (zd B1.out b2 B1.out.size);have T2:=aQ (zw T1.out b2 S1.out);have F3:=aQ (F1.out.below b2);obtain⟨fn2,caps2,D2,rfl,_⟩:=f2;clear b2 F1 B1 T1 S1
 go_wp2_with(refine zc zL rfl (.tmp 2) (.tmp 41) rfl rfl w.heap.size rfl [_,_] rfl rfl T2.out (by simp[Value.oneCell']) ?_;intro w3 g1 g2 g3 g4 g5)
 refine vS (qy (cs:=[_,_]) results340 underlying348 rfl zL _ _ w.heap.size rfl g1) rfl ?_;exact⟨_,_,rfl,(F3.out.same (fun k h1 _=>qT g4 k h1) (Nat.le_of_eq g5.symm)).less,(F2.out.same (fun k h1 _=>qT g4 k h1) (Nat.le_of_eq g5.symm)).less,B2.out.trans g3⟩
def zjn(b:Nat)(sc:zX)(w:World)(h:Sco w b sc):Calls prog 275 #[.map (some b)] w fun e w'=>e=.returned (.map (some w.heap.size))/\Sco w' w.heap.size sc/\Below w.heap.size w w':=by
 obtain⟨es,clock,hb,hm,hn⟩:=h;have HM:=aQ hm;have hq:=fun w=>run_eql_map_nil_sl (P:=prog) w 238 _ _ (some b) underlying238;go_enter func275,ntmps275;go_wp2;rw[run_callFunc_extern func298 (by kernel_rfl) (by kernel_rfl) (by kernel_rfl) (e:=Extern.MapsClone.clone) (by kernel_rfl),run_maps_clone_sl w 238 hb];simp only[Result.andThen];rw[Oper.upon_value];go_wp2;rw[run_typeAssert_map_sl _ 238 20 _ _ _ underlying238];simp only[Result.andThen];rw[Oper.upon_value];go_wp2;go_ret;exact⟨rfl,⟨es,clock,(MapKept.heap_alloc w _).1,HM.out,hn⟩,za _ _⟩
def zja(s:List Nat)(hs:Byn s)(hn:qN s=none)(w:World):Calls prog 340 #[.string (strN s)] w fun e w'=>e=.returned (.tuple #[.agg #[.nilFunc,.nilFunc],.bool false])/\Below w.heap.size w w':=by
 have qplus:((strN s).toList == [43])=false:=(kZ hs [43] (by unfold Byn;decide)).trans (decide_eq_false (by rintro rfl;simp[qN]at hn));have qminus:((strN s).toList == [45])=false:=(kZ hs [45] (by unfold Byn;decide)).trans (decide_eq_false (by rintro rfl;simp[qN]at hn));have qtimes:((strN s).toList == [42])=false:=(kZ hs [42] (by unfold Byn;decide)).trans (decide_eq_false (by rintro rfl;simp[qN]at hn));have qquo:((strN s).toList == [47])=false:=(kZ hs [47] (by unfold Byn;decide)).trans (decide_eq_false (by rintro rfl;simp[qN]at hn));have qrem:((strN s).toList == [37])=false:=(kZ hs [37] (by unfold Byn;decide)).trans (decide_eq_false (by rintro rfl;simp[qN]at hn));have qeq:((strN s).toList == [61,61])=false:=(kZ hs [61,61] (by unfold Byn;decide)).trans (decide_eq_false (by rintro rfl;simp[qN]at hn));have qne:((strN s).toList == [33,61])=false:=(kZ hs [33,61] (by unfold Byn;decide)).trans (decide_eq_false (by rintro rfl;simp[qN]at hn));have qlt:((strN s).toList == [60])=false:=(kZ hs [60] (by unfold Byn;decide)).trans (decide_eq_false (by rintro rfl;simp[qN]at hn));have qle:((strN s).toList == [60,61])=false:=(kZ hs [60,61] (by unfold Byn;decide)).trans (decide_eq_false (by rintro rfl;simp[qN]at hn));have qgt:((strN s).toList == [62])=false:=(kZ hs [62] (by unfold Byn;decide)).trans (decide_eq_false (by rintro rfl;simp[qN]at hn));have qge:((strN s).toList == [62,61])=false:=(kZ hs [62,61] (by unfold Byn;decide)).trans (decide_eq_false (by rintro rfl;simp[qN]at hn));have qand:((strN s).toList == [38,38])=false:=(kZ hs [38,38] (by unfold Byn;decide)).trans (decide_eq_false (by rintro rfl;simp[qN]at hn));have qor:((strN s).toList == [124,124])=false:=(kZ hs [124,124] (by unfold Byn;decide)).trans (decide_eq_false (by rintro rfl;simp[qN]at hn));clear hn hs;go_enter func340,ntmps340
 go_wp2_with(refine zc zL rfl (.tmp 2) (.tmp 42) rfl rfl w.heap.size rfl [_,_] rfl rfl (qX w) (by simp[Value.oneCell']) ?_;intro w2 g1 g2 g3 g4 g5)
 refine vS (qy (cs:=[_,_]) results340 underlying348 rfl zL _ _ w.heap.size rfl g1) rfl ?_;exact⟨rfl,(za w opO).trans g3⟩
def ztv(s:List Nat)(hs:Byn s)(w:World):Calls prog 340 #[.string (strN s)] w fun e w'=>(∃g,qN s=some g/\x8 g w e w')\/(qN s=none/\e=.returned (.tuple #[.agg #[.nilFunc,.nilFunc],.bool false])/\Below w.heap.size w w'):=by
 by_cases hplus:s=[43]
 ·subst hplus;rw[show strN [43]=⟨#[43]⟩ by kernel_rfl];exact(zlr w).mono fun e w' h=>.inl ⟨_,by simp[qN],h⟩
 by_cases hminus:s=[45]
 ·subst hminus;rw[show strN [45]=⟨#[45]⟩ by kernel_rfl];exact(zik w).mono fun e w' h=>.inl ⟨_,by simp[qN],h⟩
 by_cases htimes:s=[42]
 ·subst htimes;rw[show strN [42]=⟨#[42]⟩ by kernel_rfl];exact(zif w).mono fun e w' h=>.inl ⟨_,by simp[qN],h⟩
 by_cases hquo:s=[47]
 ·subst hquo;rw[show strN [47]=⟨#[47]⟩ by kernel_rfl];exact(zmo w).mono fun e w' h=>.inl ⟨_,by simp[qN],h⟩
 by_cases hrem:s=[37]
 ·subst hrem;rw[show strN [37]=⟨#[37]⟩ by kernel_rfl];exact(znq w).mono fun e w' h=>.inl ⟨_,by simp[qN],h⟩
 by_cases heq:s=[61,61]
 ·subst heq;rw[show strN [61,61]=⟨#[61,61]⟩ by kernel_rfl];exact(zq9 w).mono fun e w' h=>.inl ⟨_,by simp[qN],h⟩
 by_cases hne:s=[33,61]
 ·subst hne;rw[show strN [33,61]=⟨#[33,61]⟩ by kernel_rfl];exact(zq5 w).mono fun e w' h=>.inl ⟨_,by simp[qN],h⟩
 by_cases hlt:s=[60]
 ·subst hlt;rw[show strN [60]=⟨#[60]⟩ by kernel_rfl];exact(zrh w).mono fun e w' h=>.inl ⟨_,by simp[qN],h⟩
 by_cases hle:s=[60,61]
 ·subst hle;rw[show strN [60,61]=⟨#[60,61]⟩ by kernel_rfl];exact(zqk w).mono fun e w' h=>.inl ⟨_,by simp[qN],h⟩
 by_cases hgt:s=[62]
 ·subst hgt;rw[show strN [62]=⟨#[62]⟩ by kernel_rfl];exact(zp3 w).mono fun e w' h=>.inl ⟨_,by simp[qN],h⟩
 by_cases hge:s=[62,61]
 ·subst hge;rw[show strN [62,61]=⟨#[62,61]⟩ by kernel_rfl];exact(zp5 w).mono fun e w' h=>.inl ⟨_,by simp[qN],h⟩
 by_cases hand:s=[38,38]
 ·subst hand;rw[show strN [38,38]=⟨#[38,38]⟩ by kernel_rfl];exact(zm8 w).mono fun e w' h=>.inl ⟨_,by simp[qN],h⟩
 by_cases hor:s=[124,124]
 ·subst hor;rw[show strN [124,124]=⟨#[124,124]⟩ by kernel_rfl];exact(zq4 w).mono fun e w' h=>.inl ⟨_,by simp[qN],h⟩
 have hn:qN s=none:=by simp[qN,hplus,hminus,htimes,hquo,hrem,heq,hne,hlt,hle,hgt,hge,hand,hor]
 exact(zja s hs hn w).mono fun e w' h=>.inr ⟨hn,h⟩
end
end
end Go.Proofs.YtcilgkdnjgmogaaGreatDoor
