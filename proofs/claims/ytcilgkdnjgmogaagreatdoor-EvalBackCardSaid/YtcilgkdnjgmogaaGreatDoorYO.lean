/- A part of the proof. -/
import Derived.Test.YtcilgkdnjgmogaaGreatDoorYG
import Derived.Test.YtcilgkdnjgmogaaGreatDoorYL
import Derived.Test.YtcilgkdnjgmogaaGreatDoorYM
import Derived.Test.YtcilgkdnjgmogaaGreatDoorYN
import Derived.Deep.LoopGhost
namespace Go.Proofs.YtcilgkdnjgmogaaGreatDoor
open Go.Proofs.Tryz
set_option maxRecDepth 100000
set_option maxHeartbeats 12800000
set_option linter.all false
variable {A A0:Option Addr} {B R c cp g k m n n0 o:Nat} {D D' M:Nat->Prop} {c0 c1 c2 k0 q u:Value} {n1 t0:Int} {s:List Nat} {w w' w'' w2:World}
section
open Go.RowKit Go.MapKept
class Prt where
 no:Nat->Prop
variable [Prt]
def Sq(n0:Nat)(w:World)(b:Nat):Prop:=n0<=b/\(∃cs T z,w.heap[b]? =some (.cells cs T z)/\(T=92\/T=95\/T=154\/T=33\/T=105))/\¬Prt.no b
def Sq.same{b:Nat}(h:w'.heap[b]? =w.heap[b]?):Sq n0 w' b ↔ Sq n0 w b:=by unfold Sq;rw[h]
structure Mv(n0:Nat)(M:Nat->Prop)(w w':World):Prop where
 off:Off n0 w w'
 keep:∀b,b<w.heap.size->¬Sq n0 w b->(M b->Cel w b)->w'.heap[b]? =w.heap[b]?
def Mv.refl(n0:Nat)(M:Nat->Prop)(w:World):Mv n0 M w w:=⟨.refl _ _,fun _ _ _ _=>rfl⟩
def Mv.of(h:Below w.heap.size w w'):Mv n0 M w w':=⟨.of h,fun b hb _ _=>h.block b hb⟩
def Mv.trans{a b c:World}(h:Mv n0 M a b)(k:Mv n0 M b c):Mv n0 M a c:=
 ⟨h.off.trans k.off,fun i hi hs hm=>by
  have e:=h.keep i hi hs hm
  exact(k.keep i (aS hi h.off.size) (fun h'=>hs ((Sq.same e).1 h')) (fun h'=>by obtain⟨cs,T,z,h1⟩:=hm h';exact⟨cs,T,z,by rw[e];exact h1⟩)).trans e⟩
def Mv.then{a b c:World}(h:Mv n0 M a b)(k:Below b.heap.size b c):Mv n0 M a c:=h.trans (.of k)
def Mv.less{M M':Nat->Prop}(h:Mv n0 M w w')(hM:∀b,b<w.heap.size->M b->M' b):Mv n0 M' w w':=⟨h.off,fun b hb hs hm=>h.keep b hb hs fun h'=>hm (hM b hb h')⟩
def Mv.size{n0:Nat}{M:Nat->Prop}{w w':World}(h:Mv n0 M w w'):w.heap.size<=w'.heap.size:=h.off.size
def Mv.low{n0:Nat}{M:Nat->Prop}{w w':World}(h:Mv n0 M w w')(hn:n0<=w.heap.size):Below n0 w w':=h.off.below hn
def jX{b:Nat}{cs:Array Value}{T:TypeId}{z:Nat×Nat}(h:w.heap[b]? =some (.cells cs T z))(hT:¬(T=92\/T=95\/T=154\/T=33\/T=105)):¬Sq n0 w b:=by
 rintro⟨_,⟨cs',T',z',h1,h2⟩,_⟩;rw[h]at h1;injection h1 with h1
 injection h1 with _ h1 _
 subst h1;exact hT h2
def zEb{b:Nat}(h:Prt.no b):¬Sq n0 w b:=fun h'=>h'.2.2 h
def zq6{b:Nat}{arr:Array MapEntry}(h:w.heap[b]? =some (.map arr c)):¬Sq n0 w b:=by
 rintro⟨_,⟨cs',T',z',h1,_⟩,_⟩;rw[h]at h1;cases h1
def zDo{b:Nat}(h:b<n0):¬Sq n0 w b:=fun h'=>by have:=h'.1;omega
def yJ{b:Nat}{arr:Array MapEntry}(h:w.heap[b]? =some (.map arr c)):¬Cel w b:=by
 rintro⟨cs,T,z,h1⟩;rw[h]at h1;cases h1
def qs.obj{b:Nat}{es:List (List Nat×Value)}(h:qs w b es):∃arr c,w.heap[b]? =some (.map arr c):=by
 obtain⟨arr,c,h1,_⟩:=h;exact⟨arr,c,h1⟩
def Mv.map{arr:Array MapEntry}(hg:w.grownBy w' (some m))(ho:w.heap[m]? =some (.map arr c))(hn:n0<=m)(hM:M m):Mv n0 M w w':=
 ⟨Off.other hg (yJ ho) hn,fun b hb _ hm=>hg.block b hb fun e=>by injection e with e;subst e;exact yJ ho (hm hM)⟩
def Vok(v:Va):Prop:=fits v.n/\v.s.length<=1000000
def VaC(w:World)(v:Va)(u:Value):Prop:=∃k,u=VV v.t v.n k/\SB w w.heap.size k v.s/\Vok v
def VaC.off{v:Va}(h:VaC w v u)(ho:Off n0 w w'):VaC w' v u:=by
 obtain⟨k,h1,h2,h3⟩:=h;exact⟨k,h1,h2.off ho,h3⟩
def VaC.on{v:Va}(h:VaC w v u)(hb:Below w.heap.size w w'):VaC w' v u:=h.off (n0:=0) (.of hb)
inductive EsC(w:World):List (List Nat×Va)->List (List Nat×Value)->Prop
 | nil:EsC w [] []
 | cons {s:List Nat} {v:Va} {u:Value} {f:List (List Nat×Va)} {es:List (List Nat×Value)} (hv:VaC w v u) (hr:EsC w f es):EsC w ((s,v)::f) ((s,u)::es)
def EsC.off{f:List (List Nat×Va)}{es:List (List Nat×Value)}(h:EsC w f es)(ho:Off n0 w w'):EsC w' f es:=by
 induction h with
 | nil=>exact .nil
 | cons hv _ ih=>exact .cons (hv.off ho) ih
def EsC.seek{f:List (List Nat×Va)}{es:List (List Nat×Value)}(h:EsC w f es)(s:List Nat):(seek f s=none/\seek es s=none)\/∃v u,seek f s=some v/\seek es s=some u/\VaC w v u:=by
 induction h with
 | nil=>exact .inl ⟨rfl,rfl⟩
 | @cons a v u f es hv hr ih=>
  by_cases h:a=s
  ·exact .inr ⟨v,u,by unfold Go.Proofs.YtcilgkdnjgmogaaGreatDoor.seek;simp[h],by unfold Go.Proofs.YtcilgkdnjgmogaaGreatDoor.seek;simp[h],hv⟩
  ·have e1:Go.Proofs.YtcilgkdnjgmogaaGreatDoor.seek ((a,v)::f) s=Go.Proofs.YtcilgkdnjgmogaaGreatDoor.seek f s:=by unfold Go.Proofs.YtcilgkdnjgmogaaGreatDoor.seek;rw[List.find?_cons_of_neg (by simpa using h)]
   have e2:Go.Proofs.YtcilgkdnjgmogaaGreatDoor.seek ((a,u)::es) s=Go.Proofs.YtcilgkdnjgmogaaGreatDoor.seek es s:=by unfold Go.Proofs.YtcilgkdnjgmogaaGreatDoor.seek;rw[List.find?_cons_of_neg (by simpa using h)]
   rw[e1,e2];exact ih
def updV(f:List (List Nat×Value))(s:List Nat)(v:Value):List (List Nat×Value):=
 match f with
 | []=>[(s,v)]
 | p::l=>if p.1=s then(s,v)::l else p::updV l s v
def EsC.upd{f:List (List Nat×Va)}{es:List (List Nat×Value)}(h:EsC w f es){v:Va}(hv:VaC w v u):EsC w (updF f s v) (updV es s u):=by
 induction h with
 | nil=>exact .cons hv .nil
 | @cons a v' u' f es hv' hr ih=>
  unfold updF updV;by_cases h:a=s
  ·simp only[h,if_true];exact .cons hv hr
  ·simp only[if_neg h];exact .cons hv' ih
def EsC.len{f:List (List Nat×Va)}{es:List (List Nat×Value)}(h:EsC w f es):es.length=f.length:=by
 induction h with
 | nil=>rfl
 | cons _ _ ih=>simp[ih]
def zaj(hs:Byn s)(u:Value):∀(l:List MapEntry) (es:List (List Nat×Value)) (i:Nat),l.map (fun e=>(e.key,e.val))=es.map (fun p=>(Value.string (strN p.1),p.2))->(∀p∈es,Byn p.1) ->
  (Instr.findNow .string (.string (strN s)) l i=some none/\updV es s u=es++[(s,u)]) \/
  ∃j e,Instr.findNow .string (.string (strN s)) l i=some (some (i+j,e.val))/\l[j]? =some e/\e.key=.string (strN s)/\(l.modify j fun e=>{ key:=.string (strN s),val:=u,born:=e.born }).map (fun e=>(e.key,e.val))=(updV es s u).map (fun p=>(Value.string (strN p.1),p.2))
 | [],[],i,_,_=>.inl ⟨rfl,rfl⟩
 | [],p::es,i,h,_=>by simp at h
 | e::l,[],i,h,_=>by simp at h
 | e::l,p::es,i,h,hb=>by
  simp only[List.map_cons,aN,Prod.mk.injEq]at h;obtain⟨⟨hk,hv⟩,h⟩:=h;have hp:=hb p (List.mem_cons_self ..);have hsn:Instr.sameNow .string (.string (strN s)) e.key=some (decide (s=p.1)):=by rw[hk];simp[Instr.sameNow,zgw hs hp]
  have hu0:updV (p::es) s u=if p.1=s then(s,u)::es else p::updV es s u:=by
   conv=>lhs;unfold updV
  by_cases he:s=p.1
  ·rw[decide_eq_true he]at hsn;refine .inr ⟨0,e,?_,rfl,by rw[hk,he],?_⟩
   ·simp only[Instr.findNow,hsn];rfl
   ·rw[hu0,if_pos he.symm];simp only[List.modify_zero_cons,List.map_cons,h]
  ·rw[decide_eq_false he]at hsn;have hf:Instr.findNow .string (.string (strN s)) (e::l) i=Instr.findNow .string (.string (strN s)) l (i+1):=by simp[Instr.findNow,hsn]
   rw[hf,hu0,if_neg fun e=>he e.symm];rcases zaj hs u l es (i+1) h (fun q hq=>hb q (List.mem_cons_of_mem _ hq))with⟨h1,h2⟩|⟨j,e',h1,h2,h4,h3⟩
   ·exact .inl ⟨h1,by rw[h2];rfl⟩
   ·refine .inr ⟨j+1,e',?_,by simpa using h2,h4,?_⟩
    ·rw[h1];congr 3;omega
    ·simp only[List.modify_succ_cons,List.map_cons,h3,hk,hv]
def zm1{es:List (List Nat×Value)}(h:∀p∈es,Byn p.1)(hs:Byn s):∀p∈updV es s u,Byn p.1:=by
 induction es with
 | nil=>intro p hp;simp[updV]at hp;rw[hp];exact hs
 | cons q l ih=>
  intro p hp;unfold updV at hp
  split at hp
  ·rcases aC.1 hp with e|hp
   ·rw[e];exact hs
   ·exact h p (by simp[hp])
  ·rcases aC.1 hp with e|hp
   ·rw[e];exact h q (by simp)
   ·exact ih (fun p hp=>h p (by simp[hp])) p hp
def zf2{b:Nat}{es:List (List Nat×Value)}(h:qs w b es)(hs:Byn s){t e:TypeId}(ht:prog.underlying t=some (.map 9 e))(v:Value):∃w',(Instr.mapUpdate t (.map (some b)) (.string (strN s)) v).run prog w=.ok () w'/\qs w' b (updV es s v)/\w.grownBy w' (some b)/\w'.heap.size=w.heap.size:=by
 obtain⟨arr,clock,h1,h2,h3⟩:=h;have hd:prog.underlying 9=some .string:=underlying9;have hk:IsKey .string (.string (strN s)):=trivial;rcases zaj hs v arr.toList es 0 h2 h3 with⟨g2,g3⟩|⟨j,u,g2,g3,g5,g4⟩
 ·refine⟨{ w with heap:=w.heap.setIfInBounds b (.map (arr.push { key:=.string (strN s),val:=v,born:=clock }) (clock+1)) },?_,⟨_,_,(MapKept.heap_set h1).1,?_,?_⟩,⟨rfl,rfl,rfl,by simp,fun i _ hi=>(MapKept.heap_set h1).2 i (fun e=>hi (by rw[e]))⟩,by simp⟩
  ·simp[Instr.mapUpdate,run_underlying ht,MapKept.run_getObj_map h1,MapKept.run_checkKey hd hk,MapKept.run_findKey hd g2,MapKept.run_setObj_map _ h1,Result.andThen]
  ·rw[g3];simp[h2]
  ·rw[g3];intro p hp;rcases List.mem_append.1 hp with hp|hp
   ·exact h3 p hp
   ·simp at hp;subst hp;exact hs
 ·rw[Nat.zero_add]at g2;have hj:arr[j]? =some u:=by rw[<- Array.getElem?_toList];exact g3
  have hkey:((arr[j]?).map (·.key)).getD (Value.string (strN s))=Value.string (strN s):=by rw[hj];exact g5
  refine⟨{ w with heap:=w.heap.setIfInBounds b (.map (arr.modify j fun e=>{ key:=.string (strN s),val:=v,born:=e.born }) clock) },?_,⟨_,_,(MapKept.heap_set h1).1,?_,zm1 h3 hs⟩,⟨rfl,rfl,rfl,by simp,fun i _ hi=>(MapKept.heap_set h1).2 i (fun e=>hi (by rw[e]))⟩,by simp⟩
  ·simp[Instr.mapUpdate,run_underlying ht,MapKept.run_getObj_map h1,MapKept.run_checkKey hd hk,MapKept.run_findKey hd g2,MapKept.run_setObj_map _ h1,Result.andThen,hj,g5,MapKept.run_keyThatStays hk]
  ·rw[Array.toList_modify];exact g4
def MapV(w:World)(m:Nat)(f:List (List Nat×Va)):Prop:=∃es,qs w m es/\EsC w f es
def MapV.mv{f:List (List Nat×Va)}(h:MapV w m f)(hm:Mv n0 M w w')(hM:¬M m):MapV w' m f:=by
 obtain⟨es,h1,h2⟩:=h;obtain⟨arr,c,ho⟩:=h1.obj;exact⟨es,h1.of (hm.keep m h1.lt (zq6 ho) fun h=>absurd h hM),h2.off hm.off⟩
def MapV.lt{f:List (List Nat×Va)}(h:MapV w m f):m<w.heap.size:=by
 obtain⟨es,h1,_⟩:=h;exact h1.lt
def MapV.obj{f:List (List Nat×Va)}(h:MapV w m f):∃arr c,w.heap[m]? =some (.map arr c):=by
 obtain⟨es,h1,_⟩:=h;exact h1.obj
inductive ScAt(n0:Nat)(w:World):Value->List Nat->Env->Prop
 | nil:ScAt n0 w (.pointer none) [] []
 | cons {b m:Nat} {q:Value} {ms:List Nat} {f:List (List Nat×Va)} {env:Env} (hb:w.heap[b]? =some (.cells #[.map (some m),q] 206 (0,0))) (hm:MapV w m f) (h0:n0<=m) (hne:m ∉ ms) (hr:ScAt n0 w q ms env):ScAt n0 w (.pointer (some ⟨b,0,none⟩)) (m::ms) (f::env)
def ScAt.mv{p:Value}{ms:List Nat}{env:Env}(h:ScAt n0 w p ms env)(hm:Mv n0 M w w')(hM:∀m∈ms,¬M m):ScAt n0 w' p ms env:=by
 induction h with
 | nil=>exact .nil
 | cons hb hv h0 hne _ ih=>
  refine .cons ?_ (hv.mv hm (hM _ (by simp))) h0 hne (ih fun m h=>hM m (by simp[h]));rw[hm.keep _ (aU.1 hb).1 (jX hb (by decide)) fun _=>⟨_,_,_,hb⟩];exact hb
def ScAt.on{p:Value}{ms:List Nat}{env:Env}(h:ScAt n0 w p ms env)(hb:Below w.heap.size w w'):ScAt n0 w' p ms env:=h.mv (M:=fun _=>False) (.of hb) (fun _ _ h=>h)
def ScAt.ms{p:Value}{ms:List Nat}{env:Env}(h:ScAt n0 w p ms env):∀m∈ms,n0<=m/\m<w.heap.size/\¬Cel w m:=by
 induction h with
 | nil=>intro m hm;cases hm
 | cons hb hv h0 hne _ ih=>
  intro m hm;rcases aC.1 hm with e|hm
  ·rw[e];obtain⟨arr,c,ho⟩:=hv.obj;exact⟨h0,hv.lt,yJ ho⟩
  ·exact ih m hm
def ScAt.ptr{p:Value}{ms:List Nat}{env:Env}(h:ScAt n0 w p ms env):∃a,p=.pointer a:=by
 cases h with
 | nil=>exact⟨_,rfl⟩
 | cons=>exact⟨_,rfl⟩
mutual
def shE:Xe->Bool
 | .mk _ n t k _=>decide (t.length<=1000000)&&(decide (-9223372036854775808<=n/\n<=9223372036854775807)&&shL k)
def shL:List Xe->Bool
 | []=>true
 | e::l=>shE e&&shL l
end
mutual
def shS:Xs->Bool
 | .mk _ _ es b f _=>shL es&&shB b&&shB f
def shB:List Xs->Bool
 | []=>true
 | s::l=>shS s&&shB l
end
structure Cx10 where
 n0:Nat
 R:Nat
 J:Nat
 g:Nat
 lim:Int
 fs:List Xf
 ks:List Two
 sh:∀f∈fs,shB f.body=true
def Cx10.F(X:Cx10):List Nat->Option Xf:=fun s=>X.fs.find? (fun f=>f.name==s)
structure RunS(X:Cx10)(c:Nat)(σ:Stt)(w:World):Prop where
 cell:w.heap[X.R]? =some (.cells #[.map (some X.g),.pointer (some ⟨X.J,0,none⟩),.int .i64 X.lim,.int .i64 σ.used,.int .i64 c] 105 (0,0))
 hR:X.n0<=X.R
 jr:Jr X.n0 w X.J σ.hs σ.cur
 tab:qs w X.g (tabC X.fs X.ks)
 hg:X.n0<=X.g
 len:X.ks.length=X.fs.length
 fns:∀(i:Nat) (f:Xf) (k:Two),X.fs[i]? =some f->X.ks[i]? =some k->XfK w (Lo X.n0) f k
 hn:X.n0<=w.heap.size
 u0:0<=σ.used
 u1:σ.used<=X.lim
 u2:X.lim<=100000
 cnt:(σ.hs.length:Int)*4<=90000+σ.used
 pr:¬Prt.no X.R
 pj:∀b,Jb w X.J b->¬Prt.no b
 pt:∀b,Prt.no b->b<w.heap.size
def RunS.sp{X:Cx10}{σ:Stt}(h:RunS X c σ w):Sp X.n0 w X.R:=
 ⟨h.hR,_,105,_,h.cell,.inr (.inr (.inr (.inr (.inl rfl)))),by intro x hx q y e;subst e;simp at hx⟩
def RunS.sq{X:Cx10}{σ:Stt}(h:RunS X c σ w):Sq X.n0 w X.R:=⟨h.hR,⟨_,105,_,h.cell,.inr (.inr (.inr (.inr rfl)))⟩,h.pr⟩
def Jr.jb_tag{J:Nat}{hs:List (List PR)}{cur:List PR}(h:Jr n0 w J hs cur){b:Nat}(hb:Jb w J b):∃cs T z,w.heap[b]? =some (.cells cs T z)/\(T=92\/T=154):=by
 obtain⟨A,c,R,cr,fs,Fs,h1,h2,h3,h4,h5,_⟩:=h.ex;rcases hb with rfl|⟨v,R',g1,g2,rfl⟩
 ·exact⟨_,_,_,h1,.inl rfl⟩
 ·have:v=.slice R hs.length cr:=by
   have e:w.cell? ⟨J,1,none⟩=some (.slice R hs.length cr):=by simp[World.cell?,h1]
   rw[e]at g1;injection g1 with g1
   exact g1.symm
  subst this;obtain⟨cs,h6⟩:=h5.tag g2;exact⟨_,_,_,h6,.inr rfl⟩
def Jr.jb_sq{J:Nat}{hs:List (List PR)}{cur:List PR}(h:Jr n0 w J hs cur){b:Nat}(hb:Jb w J b)(hp:¬Prt.no b):Sq n0 w b:=by
 obtain⟨cs,T,z,h1,h2⟩:=h.jb_tag hb;exact⟨(h.jb_lt hb).2.1,⟨cs,T,z,h1,h2.elim .inl fun e=>.inr (.inr (.inl e))⟩,hp⟩
def zp4{J:Nat}(hJ:w'.heap[J]? =w.heap[J]?){b:Nat}(h:Jb w' J b):Jb w J b:=by
 rcases h with h|⟨v,R,h1,h2,h3⟩
 ·exact .inl h
 ·exact .inr ⟨v,R,by rw[<- yp (a:=⟨J,1,none⟩) hJ];exact h1,h2,h3⟩
def zpe{J:Nat}{hs:List (List PR)}{cur:List PR}(h:Jr n0 w J hs cur){b:Nat}(hb:∀cs z,w.heap[b]?≠some (.cells cs 92 z))(hb':∀cs z,w.heap[b]?≠some (.cells cs 154 z)):¬Jb w J b:=fun h'=>by
 obtain⟨cs,T,z,h1,h2⟩:=h.jb_tag h';rcases h2 with rfl|rfl
 ·exact hb _ _ h1
 ·exact hb' _ _ h1
def RunS.jbR{X:Cx10}{σ:Stt}(h:RunS X c σ w):¬Jb w X.J X.R:=zpe h.jr (fun cs z e=>by rw[h.cell]at e;injection e with e;injection e with _ e _;exact absurd e (by decide)) (fun cs z e=>by rw[h.cell]at e;injection e with e;injection e with _ e _;exact absurd e (by decide))
def zo0{J:Nat}{hs:List (List PR)}{cur:List PR}(h:Jr n0 w J hs cur){b:Nat}{arr:Array MapEntry}(hb:w.heap[b]? =some (.map arr c)):¬Jb w J b:=zpe h (fun cs z e=>by rw[hb]at e;cases e) (fun cs z e=>by rw[hb]at e;cases e)
def vL(h:Below n0 w w'):Same (Lo n0) w w':=fun k hk=>h.block k hk
def RunS.keep{X:Cx10}{σ:Stt}(h:RunS X c σ w)(ho:Off X.n0 w w')(hR:w'.heap[X.R]? =w.heap[X.R]?)(hJ:∀b,Jb w X.J b->w'.heap[b]? =w.heap[b]?)(hg:w'.heap[X.g]? =w.heap[X.g]?):RunS X c σ w':=
 ⟨by rw[hR];exact h.cell,h.hR,h.jr.off ho hJ,h.tab.of hg,h.hg,h.len,fun i f k a b=>(h.fns i f k a b).same (vL (ho.below h.hn)),aT h.hn ho.size,h.u0,h.u1,h.u2,h.cnt,h.pr,fun b hb=>h.pj b (zp4 (hJ _ (.inl rfl)) hb),fun b hb=>aS (h.pt b hb) ho.size⟩
def RunS.on{X:Cx10}{σ:Stt}(h:RunS X c σ w)(hb:Below w.heap.size w w'):RunS X c σ w':=
 h.keep (.of hb) (hb.block _ h.sp.lt) (fun b hb'=>hb.block b (h.jr.jb_lt hb').1) (hb.block _ h.tab.lt)
def RunS.map{X:Cx10}{σ:Stt}{arr:Array MapEntry}(h:RunS X c σ w)(hg:w.grownBy w' (some m))(hm:w.heap[m]? =some (.map arr k))(hn:X.n0<=m)(hne:m≠X.g):RunS X c σ w':=by
 refine h.keep (Off.other hg (yJ hm) hn) (hg.block _ h.sp.lt ?_) (fun b hb=>hg.block b (h.jr.jb_lt hb).1 ?_) (hg.block _ h.tab.lt ?_)
 ·intro e;injection e with e
  rw[<- e,h.cell]at hm;cases hm
 ·intro e;injection e with e
  subst e;exact zo0 h.jr hm hb
 ·intro e;injection e with e
  exact hne e.symm
def RunS.own{X:Cx10}{σ:Stt}(h:RunS X c σ w)(hg:w.grownBy w' (some X.R))(c':Nat)(u:Int)(hc:w'.heap[X.R]? =some (.cells #[.map (some X.g),.pointer (some ⟨X.J,0,none⟩),.int .i64 X.lim,.int .i64 u,.int .i64 c'] 105 (0,0)))(hu:σ.used<=u)(hl:u<=X.lim):RunS X c' { σ with used:=u } w'/\Off X.n0 w w':=by
 have hsp':Sp X.n0 w' X.R:=⟨h.hR,_,105,_,hc,.inr (.inr (.inr (.inr (.inl rfl)))),by intro x hx q y e;subst e;simp at hx⟩;have ho:Off X.n0 w w':=Off.grown hg h.sp hsp';have hgne:X.g≠X.R:=fun e=>by
  obtain⟨arr,k,hm⟩:=h.tab.obj;rw[e,h.cell]at hm;cases hm
 refine⟨⟨hc,h.hR,h.jr.off ho (fun b hb=>hg.block b (h.jr.jb_lt hb).1 ?_),h.tab.of (hg.block _ h.tab.lt ?_),h.hg,h.len,fun i f k a b=>(h.fns i f k a b).same (vL (ho.below h.hn)),aT h.hn ho.size,Int.le_trans h.u0 hu,hl,h.u2,by have:=h.cnt;show(σ.hs.length:Int)*4<=90000+u;omega,h.pr,fun b hb=>h.pj b (zp4 (hg.block _ (h.jr.jb_lt (.inl rfl)).1 fun e=>by
   injection e with e
   have:=h.jbR;rw[<- e]at this
   exact this (.inl rfl)) hb),fun b hb=>aS (h.pt b hb) ho.size⟩,ho⟩
 ·intro e;injection e with e
  subst e;exact h.jbR hb
 ·intro e;injection e with e
  exact hgne e
def RunS.chd{X:Cx10}{σ:Stt}{hs:List (List PR)}{cur:List PR}(h:RunS X c σ w)(hc:Chd X.n0 X.J w hs cur w')(hn:(hs.length:Int)*4<=90000+σ.used):RunS X c { σ with hs:=hs,cur:=cur } w':=by
 obtain⟨ho,hch,hj⟩:=hc;obtain⟨arr,k,hm⟩:=h.tab.obj;exact⟨by rw[hch.1 _ h.sp.lt h.jbR];exact h.cell,h.hR,hj,h.tab.of (hch.1 _ h.tab.lt (zo0 h.jr hm)),h.hg,h.len,fun i f k a b=>(h.fns i f k a b).same (vL (ho.below h.hn)),aT h.hn ho.size,h.u0,h.u1,h.u2,hn,h.pr,fun b hb hp=>(hch.2 b hb).elim (fun h'=>h.pj b h' hp) (fun h'=>by have:=h.pt b hp;omega),fun b hb=>aS (h.pt b hb) ho.size⟩
def Mv.chd{X:Cx10}{σ:Stt}{hs':List (List PR)}{cur':List PR}(hr:RunS X c σ w)(hc:Chd X.n0 X.J w hs' cur' w'):Mv X.n0 M w w':=
 ⟨hc.1,fun b hb hs _=>hc.2.1.1 b hb fun h=>hs (hr.jr.jb_sq h (hr.pj b h))⟩
def Mv.own(hg:w.grownBy w' (some R))(ho:Off n0 w w')(hs:Sq n0 w R):Mv n0 M w w':=⟨ho,fun b hb h _=>hg.block b hb fun e=>by injection e with e;subst e;exact h hs⟩
abbrev Trp(t:Int):Ending:=.panicked [{ v:=.iface 42 (.int .i64 t),recovered:=false }]
def qR{α:Type}(X:Cx10)(c:Nat)(M:Nat->Prop)(Q:World->α->Value->Prop)(w:World)(r:Ou α)(e:Ending)(w':World):Prop:=
 Mv X.n0 M w w'/\match r with
 | .ok a σ=>∃v,e=.returned v/\Q w' a v/\RunS X c σ w'
 | .trap t σ=>e=Trp t/\∃c',RunS X c' σ w'
def NoM:Nat->Prop:=fun _=>False
def NoM.mono(h:Mv n0 NoM w w'):Mv n0 M w w':=h.less fun _ _ h=>h.elim
structure VSt(g:Nat)(t n:Int)(k:Value)(w w':World):Prop where
 here:w'.heap[g]? =some (.cells #[.int .i64 t,.int .i64 n,k] 41 (0,0))
 far:∀b,b≠g->w'.heap[b]? =w.heap[b]?
 size:w'.heap.size=w.heap.size
 os:w'.os=w.os
 tape:w'.tape=w.tape
 output:w'.output=w.output
def VSt.below{t n:Int}{k:Value}(h:VSt g t n k w w')(hB:B<=g):Below B w w':=
 ⟨h.os,h.tape,h.output,by rw[h.size];exact aR _,fun b hb=>h.far b (by omega)⟩
def VSt.off{t n:Int}{k:Value}(h:VSt g t n k w w')(hn:n0<=g)(hk:∀y,k≠.int .u8 y)(hw:w.heap[g]? =some (.cells #[.int .i64 t0,.int .i64 n1,k0] 41 (0,0)))(hk0:∀y,k0≠.int .u8 y):Off n0 w w':=by
 have hN:∀(t n:Int) (k:Value),(∀y,k≠.int .u8 y)->NoI #[.int .i64 t,.int .i64 n,k]:=by
  intro t n k hk x hx _ y e;simp at hx;rcases hx with rfl|rfl|rfl
  ·cases e
  ·cases e
  ·exact hk y e
 exact Off.grown ⟨h.os,h.tape,h.output,by rw[h.size];exact aR _,fun b _ hb=>h.far b fun e=>hb (by rw[e])⟩ ⟨hn,_,41,_,hw,.inr (.inr (.inr (.inr (.inr (.inl rfl))))),hN _ _ _ hk0⟩ ⟨hn,_,41,_,h.here,.inr (.inr (.inr (.inr (.inr (.inl rfl))))),hN _ _ _ hk⟩
def xa(hw:w.heap[g]? =some (.cells #[c0,c1,c2] 41 (0,0)))(t n:Int)(k:Value):VSt g t n k w (w.setCells g 0 [.int .i64 t,.int .i64 n,k]):=by
 refine⟨?_,fun b hb=>?_,?_,rfl,rfl,rfl⟩
 ·show(((w.setCell ⟨g,0,none⟩ _).setCell ⟨g,1,none⟩ _).setCell ⟨g,2,none⟩ _).heap[g]? =_;exact heap_setCell_same _ _ 2 _ _ _ (heap_setCell_same _ _ 1 _ _ _ (heap_setCell_same w g 0 _ _ _ hw))
 ·show(((w.setCell ⟨g,0,none⟩ _).setCell ⟨g,1,none⟩ _).setCell ⟨g,2,none⟩ _).heap[b]? =_;rw[zf _ _ _ _ _ hb,zf _ _ _ _ _ hb,zf _ _ _ _ _ hb]
 ·show(((w.setCell ⟨g,0,none⟩ _).setCell ⟨g,1,none⟩ _).setCell ⟨g,2,none⟩ _).heap.size=_;rw[qi,qi,qi]
def zm{ops:Array Oper}{rest:List Oper}{o:Oper}{a:Act}{Q:Exit->Act->World->Prop}(hgd:o.guard=none)(x y:Operand)(ho:o.op=.store 41 x y)(hd:o.dst=none)(g:Nat)(hx:a.eval x=.pointer (some ⟨g,0,none⟩))(t n:Int)(A:Option Addr)(m cp:Nat)(hy:a.eval y=VV t n (.slice A m cp))(hw:w.heap[g]? =some (.cells #[c0,c1,c2] 41 (0,0)))
  (h:∀w',VSt g t n (.slice A m cp) w w'->wpList prog ops Q rest a w'):wpList prog ops Q (o::rest) a w:=by
 refine wpList_store_mid hgd 41 x y ho g 0 #[.int .i64 t,.int .i64 n,.slice A m cp] hx hy (xJ (cs:=[c0,c1,c2]) hw rfl) (by simpa using zEl) (by simp[Value.oneCell']) ?_;rw[hd];exact h _ (xa hw t n _)
def xF:∀y,Value.slice A n c≠.int .u8 y:=by intro y e;cases e
def RunS.var{X:Cx10}{σ:Stt}{t n:Int}(h:RunS X c σ w)(hv:VSt g t n (.slice A m cp) w w')(hn:X.n0<=g){m0 cp0:Nat}(hw:w.heap[g]? =some (.cells #[.int .i64 t0,.int .i64 n1,.slice A0 m0 cp0] 41 (0,0))):RunS X c σ w':=by
 refine h.keep (hv.off hn xF hw xF) (hv.far _ ?_) (fun b hb=>hv.far b ?_) (hv.far _ ?_)
 ·exact jV h.cell hw (by decide)
 ·obtain⟨cs,T,z,h1,h2⟩:=h.jr.jb_tag hb;exact jV h1 hw (by rcases h2 with rfl|rfl<;>decide)
 ·intro e;obtain⟨arr,k,hm⟩:=h.tab.obj;rw[e,hw]at hm;cases hm
end
section
open Go.RowKit Go.MapKept
variable [Prt]
def zcs{b m:Nat}(h:w.heap[b]? =some (.cells #[.map (some m),q] 206 (0,0))):w.cell? ⟨b,0,none⟩=some (.map (some m))/\w.cell? ⟨b,1,none⟩=some q:=⟨(kO h).1,(kO h).2.1⟩
def yV(w:World):Calls prog 82 #[.int .i64 0] w fun e w'=>e=.returned (.tuple #[])/\w'=w:=by
 go_enter func82,ntmps82;go_wp2
 go_end0
 exact⟨rfl,rfl⟩
def kt(t:Int)(ht:t≠0)(w:World):Calls prog 82 #[.int .i64 t] w fun e w'=>e=Trp t/\w'=w:=by
 have h:(t != 0)=true:=by simpa using ht
 clear ht;go_enter func82,ntmps82;go_wp2;exact⟨rfl,rfl,rfl⟩
def zch(t n:Int)(k:Value)(w:World):Calls prog 188 #[VV t n k] w fun e w'=>e=.returned (.bool (n==1))/\Below w.heap.size w w':=by
 go_enter func188,ntmps188;go_wp2;go_ret;exact⟨rfl,za _ _⟩
def vZ(a:Option Addr)(w:World):Calls prog 83 #[.pointer a] w fun e w'=>e=.returned (.pointer (some ⟨w.heap.size+1,0,none⟩))/\w'.heap[w.heap.size+1]? =some (.cells #[.map (some w.heap.size),.pointer a] 206 (0,0))/\qs w' w.heap.size []/\Below w.heap.size w w':=by
 have b1:=za w (.map #[] 0);have b2:=za (w.alloc (.map #[] 0)) (.cells #[.map (some w.heap.size),.pointer a] 206);have hn:=ye (w.alloc (.map #[] 0)) (.cells #[.map (some w.heap.size),.pointer a] 206);have hm:=(qs.made w).of (b2.block _ (by simp));rw[aE]at hn;have HN:=aQ hn;have HM:=aQ hm;have HB:=aQ (zd b1 b2 b1.size);have hmm:∀(t:TypeId) (w:World),(Instr.makeMap t none).run prog w=.ok (.map (some w.heap.size)) (w.alloc (.map #[] 0)):=fun t w=>run_makeMap t w;clear b1 b2 hn hm;go_enter func83,ntmps83;go_wp2;go_ret;exact⟨by first|rfl|simp,HN.out,HM.out,HB.out⟩
def ScAt.begin{a:Option Addr}{ms:List Nat}{env:Env}(h:ScAt n0 w (.pointer a) ms env)(hb:Below w.heap.size w w')(h1:w'.heap[w.heap.size+1]? =some (.cells #[.map (some w.heap.size),.pointer a] 206 (0,0)))(h2:qs w' w.heap.size [])(hn:n0<=w.heap.size):ScAt n0 w' (.pointer (some ⟨w.heap.size+1,0,none⟩)) (w.heap.size::ms) ([]::env):=
 .cons h1 ⟨[],h2,.nil⟩ hn (fun h'=>by have:=(h.ms _ h').2.1;omega) (h.on hb)
def zbj{v:Va}(h:VaC w v u):∃k A c,u=VV v.t v.n k/\k=.slice A v.s.length c/\SB w w.heap.size k v.s/\Vok v:=by
 obtain⟨k,h1,h2,h3⟩:=h;obtain⟨A,c,e,_⟩:=id h2;exact⟨k,A,c,h1,e,h2,h3⟩
def qr{t n:Int}{k:Value}(h:w.heap[g]? =some (.cells #[.int .i64 t,.int .i64 n,k] 41 (0,0))):w.cell? ⟨g,0,none⟩=some (.int .i64 t)/\w.cell? ⟨g,1,none⟩=some (.int .i64 n)/\w.cell? ⟨g,2,none⟩=some k:=by
 refine⟨?_,?_,?_⟩<;>simp[World.cell?,h]
def qs.drew{b:Nat}{es:List (List Nat×Value)}(h:qs w b es):qs w.drew b es:=h.of rfl
def ww(X:Cx10)(c:Nat)(σ:Stt)(w:World)(b m:Nat)(ms:List Nat)(f:List (List Nat×Va))(env:Env)(s:List Nat)(v:Va)(u:Value)
  (hr:RunS X c σ w) (hs:ScAt X.n0 w (.pointer (some ⟨b,0,none⟩)) (m::ms) (f::env)) (hg:m≠X.g) (hy:Byn s) (hv:VaC w v u) :
  Calls prog 84 #[.pointer (some ⟨b,0,none⟩),.string (strN s),u] w fun e w'=>e=.returned (.tuple #[])/\Mv X.n0 (· =m) w w'/\ScAt X.n0 w' (.pointer (some ⟨b,0,none⟩)) (m::ms) (updF f s v::env)/\RunS X c σ w':=by
 obtain⟨k,A,kc,rfl,rfl,hk,hfit⟩:=zbj hv;have BA:=aQ (za w (.cells #[.int .i64 v.t,.int .i64 v.n,.slice A v.s.length kc] 41));obtain⟨z0,z1,z2⟩:=qr (ye w (.cells #[.int .i64 v.t,.int .i64 v.n,.slice A v.s.length kc] 41));have HV:=aQ (hv.on BA.out);have HR:=aQ (hr.on BA.out);have hs0:=hs.on BA.out;clear hv hk hr hs;obtain⟨w0,hw0⟩:∃w0,w.alloc (.cells #[.int .i64 v.t,.int .i64 v.n,.slice A v.s.length kc] 41)=w0:=⟨_,rfl⟩;rw[hw0]at BA z0 z1 z2 HV HR hs0;have HW0:=aQ hw0;clear hw0;cases hs0 with
 | cons hb hm h0 hne hrest=>
  obtain⟨es,hme,hes⟩:=hm;obtain⟨c0,c1⟩:=zcs hb;obtain⟨w1,hup,hm1,hg1,hz1⟩:=zf2 (w:=w0.drew) hme.drew hy underlying204 (VV v.t v.n (.slice A v.s.length kc));obtain⟨arr,cl,ho⟩:=hme.obj;have hM0:Mv X.n0 (· =m) w0 w1:=Mv.map (w:=w0) ⟨hg1.os,hg1.tape,hg1.output,hg1.size,hg1.block⟩ ho h0 rfl;have HF:Hid (Mv X.n0 (· =m) w0 w1/\ScAt X.n0 w1 (.pointer (some ⟨b,0,none⟩)) (m::ms) (updF f s v::env)/\RunS X c σ w1):=by
   refine⟨hM0,?_,HR.out.map (w:=w0) ⟨hg1.os,hg1.tape,hg1.output,hg1.size,hg1.block⟩ ho h0 hg⟩;refine .cons ?_ ⟨_,hm1,(hes.upd HV.out).off hM0.off⟩ h0 hne (hrest.mv hM0 fun m' h' e=>hne (by rw[<- e];exact h'));rw[hM0.keep _ (aU.1 hb).1 (jX hb (by decide)) fun _=>⟨_,_,_,hb⟩];exact hb
  clear hM0 hm1 hg1 hz1 hes hme hrest ho;go_enter func84,ntmps84;(go_upto_region 1 with fail);rw[HW0.out]
  go_region
  go_end0
  exact⟨rfl,(Mv.of BA.out).trans (HF.out.1.less (fun _ _ h=>h)),HF.out.2.1,HF.out.2.2⟩
variable [Prt]
def zc0(w:World)(a:Option Addr)(ms:List Nat)(env:Env)(q:Value)(bms:List Nat):Prop:=
 (∃r b m,env=[]::r/\a=some ⟨b,0,none⟩/\ms=m::bms/\w.heap[b]? =some (.cells #[.map (some m),q] 206 (0,0)))\/((∀r,env≠[]::r)/\q=.pointer a/\bms=ms)
def zk0{a:Option Addr}{ms:List Nat}{env:Env}{bms:List Nat}(h:ScAt n0 w (.pointer a) ms env)(hb:zc0 w a ms env q bms):ScAt n0 w q bms (zap env):=by
 rcases hb with⟨r,b,m,rfl,rfl,rfl,h1⟩|⟨h1,rfl,rfl⟩
 ·cases h with
  | cons hb hm h0 hne hrest=>
   rw[hb]at h1;injection h1 with h1
   injection h1 with h1 _ _
   have hq:=congrArg (fun(x:Array Value)=>x[1]?) h1;simp at hq;rw[<- hq];exact hrest
 ·unfold zap
  split
  ·rename_i r
   exact absurd rfl (h1 r)
  ·exact h
def yR{a:Option Addr}{ms:List Nat}{env:Env}{bms:List Nat}(hb:zc0 w a ms env q bms):∀m,m∈bms->m∈ms:=by
 rcases hb with⟨r,b,m,rfl,rfl,rfl,h1⟩|⟨h1,rfl,rfl⟩
 ·intro x hx;exact List.mem_cons_of_mem _ hx
 ·exact fun _ h=>h
def zd9{a:Option Addr}{ms:List Nat}{env:Env}{bms:List Nat}{b:Env}(h:ScAt n0 w (.pointer a) ms env)(hb:zc0 w a ms env q bms)(hm:Mv n0 M w w2)(hM:∀m∈ms,M m->m∈bms)(hq:ScAt n0 w2 q bms b):ScAt n0 w2 (.pointer a) ms (jj env b):=by
 rcases hb with⟨r,bl,m,rfl,rfl,rfl,h1⟩|⟨h1,rfl,rfl⟩
 ·cases h with
  | cons hb hmv h0 hne hrest=>
   show ScAt n0 w2 _ _ ([]::b);refine .cons (q:=q) ?_ (hmv.mv hm fun h=>hne (hM _ (by simp) h)) h0 hne hq;rw[hm.keep _ (aU.1 hb).1 (jX hb (by decide)) fun _=>⟨_,_,_,hb⟩];exact h1
 ·have:jj env b=b:=by
   unfold jj
   split
   ·rename_i r
    exact absurd rfl (h1 r)
   ·rfl
  rw[this];exact hq
def zci(n0:Nat)(w:World)(a:Option Addr)(ms:List Nat)(env:Env)(hs:ScAt n0 w (.pointer a) ms env)(hne:env≠[]):∃q bms,zc0 w a ms env q bms/\Calls prog 190 #[.pointer a] w fun e w'=>e=.returned (.pointer (some ⟨w.heap.size+1,0,none⟩))/\w'.heap[w.heap.size+1]? =some (.cells #[.map (some w.heap.size),q] 206 (0,0))/\qs w' w.heap.size []/\Below w.heap.size w w':=by
 cases hs with
 | nil=>exact absurd rfl hne
 | @cons b m q ms f env hb hm h0 hnm hrest=>
  obtain⟨c0,c1⟩:=zcs hb;obtain⟨es,hme,hes⟩:=hm;obtain⟨arr,cl,ho,hl,_⟩:=id hme;have hrl:=run_len_map (P:=prog) (w:=w) 204 3 m arr cl underlying204 ho;have hlen:arr.size=f.length:=by
   have h1:=congrArg List.length hl;simp at h1;rw[h1,hes.len]
  cases f with
  | nil=>
   obtain⟨qa,rfl⟩:=hrest.ptr;refine⟨.pointer qa,ms,.inl ⟨env,b,m,rfl,rfl,rfl,hb⟩,?_⟩;have K:=aQ (vZ qa w);have he:arr.size=0:=by simpa using hlen
   clear hb hme hes hrest hl hlen;go_enter func190,ntmps190
   (go_wp2_with fail);refine K.out.mono ?_;rintro e w1 ⟨rfl,k1,k2,k3⟩;have H:=aQ (And.intro k1 (And.intro k2 k3));clear k1 k2 k3
   go_wp2;go_ret;exact⟨rfl,H.out.1,H.out.2.1,H.out.2.2⟩
  | cons p f=>
   refine⟨.pointer (some ⟨b,0,none⟩),m::ms,.inr ⟨fun r e=>by(injection e with e _;cases e),rfl,rfl⟩,?_⟩;have K:=aQ (vZ (some ⟨b,0,none⟩) w);have he:((arr.size:Int)==0)=false:=by rw[hlen];simp;omega
   clear hb hme hes hrest hl hlen;go_enter func190,ntmps190
   (go_wp2_with fail);refine K.out.mono ?_;rintro e w1 ⟨rfl,k1,k2,k3⟩;have H:=aQ (And.intro k1 (And.intro k2 k3));clear k1 k2 k3
   go_wp2;go_ret;exact⟨rfl,H.out.1,H.out.2.1,H.out.2.2⟩
def kM:List Nat->Env->List Nat->Option Nat
 | m::ms,f::r,s=>match seek f s with
  | some _=>some m
  | none=>kM ms r s
 | _,_,_=>none
def jA:∀ {ms:List Nat} {env:Env} {s:List Nat} {m:Nat},kM ms env s=some m->m∈ms
 | m'::ms,f::r,s,m,h=>by
  unfold kM at h;cases hs:seek f s with
  | some v=>rw[hs]at h;injection h with h;rw[h];simp
  | none=>rw[hs]at h;exact List.mem_cons_of_mem _ (jA h)
 | [],_,s,m,h=>by cases h
 | _::_,[],s,m,h=>by cases h
def HadP(w:World)(ms:List Nat)(env:Env)(s:List Nat)(v:Va)(e:Ending)(w':World):Prop:=
 ∃m es u,e=.returned (.map (some m))/\kM ms env s=some m/\qs w' m es/\seek es s=some u/\VaC w' v u/\Below w.heap.size w w'
def zgp(n0:Nat)(w:World)(a:Option Addr)(ms:List Nat)(env:Env)(s:List Nat)(v:Va)(hs:ScAt n0 w (.pointer a) ms env)(hy:Byn s)(hl:kQ env s=some v):Calls prog 192 #[.pointer a,.string (strN s)] w (HadP w ms env s v):=by
 have hz:∀w,(zeroValue 41).run prog w=.ok (VV 0 0 kB) w:=fun w=>by simp[Tryz.zeroValue41]
 have H0:Hid (ScAt n0 w (.pointer a) ms env/\kQ env s=some v):=⟨hs,hl⟩;have HY:=aQ hy;have HZ:=aQ hz;clear hs hl hy hz;go_enter func192,ntmps192
 go_wp2_with fail
 go_loopg [0] env.length (fun k x wr=>∃a' ms' env',x=.pointer a'/\ScAt n0 wr (.pointer a') ms' env'/\env'.length=k/\kM ms' env' s=kM ms env s/\kQ env' s=some v/\Below w.heap.size w wr)
 case atStart=>exact⟨a,ms,env,rfl,H0.out.1,rfl,rfl,H0.out.2,Below.refl _ _⟩
 case round=>
  obtain⟨a',ms',env',rfl,hs,hk,hw,hl,hb⟩:=hrel;cases hs with
  | nil=>cases hl
  | @cons b m q ms2 f env2 hbl hm h0 hnm hrest=>
   obtain⟨c0,c1⟩:=zcs hbl;obtain⟨es,hme,hes⟩:=hm;obtain⟨qa,rfl⟩:=hrest.ptr;have hrun:=jH hme HY.out underlying204 (HZ.out wr);have HB:=aQ hb;have HL:=aQ hl;have HW:=aQ hw;have HK:=aQ hk;have HRR:=aQ hrest;have HM:=aQ hme;have HBL:=aQ hbl;have hlt:b<wr.heap.size:=(aU.1 hbl).1;have b1:=za wr zO;have HT:=xE wr;have c0':=zb c0 b1;have c1':=zb c1 b1;have HB1:=aQ b1;have HLT:=aQ hlt;rcases hes.seek s with⟨e1,e2⟩|⟨v',u,e1,e2,hv⟩
   ·rw[e2]at hrun;simp only[Option.getD_none,Option.isSome_none]at hrun;have HE:=aQ e1;clear hb hl hw hk hrest hme hbl hes e1 e2 b1 hnm hlt
    go_wp2_with(refine zi zEl rfl (.tmp 5) (.tmp 20) rfl rfl wr.heap.size rfl [_,_,_] rfl rfl HT (by simp[Value.oneCell']) ?_;intro w2 g1 g2 g3 g4 g5;have d1:=(g3.cell (p:=⟨b,1,none⟩) HLT.out).trans c1';replace g3:=aQ g3;clear g1 g2 g4 g5 c0 c1 c0' c1' hrun HT)
    have B2:=zd HB.out (HB1.out.trans g3.out) HB.out.size;have R2:=HRR.out.on (HB1.out.trans g3.out);have W2:kM ms2 env2 s=kM ms env s:=by
     rw[<- HW.out]
     conv=>rhs;unfold kM
     rw[HE.out]
    have L2:kQ env2 s=some v:=by
     have h:=HL.out;unfold kQ at h;rw[HE.out]at h;exact h
    have K2:env2.length<gk:=by rw[<- HK.out];simp
    have HZ2:=aQ (And.intro B2 (And.intro R2 (And.intro W2 (And.intro L2 K2))));clear B2 R2 W2 L2 K2
    go_roundg env2.length
    case measure=>exact HZ2.out.2.2.2.2
    case rel=>exact⟨qa,ms2,env2,rfl,HZ2.out.2.1,rfl,HZ2.out.2.2.1,HZ2.out.2.2.2.1,HZ2.out.1⟩
   ·rw[e2]at hrun;simp only[Option.getD_some,Option.isSome_some]at hrun;obtain⟨k',A,kc,rfl,rfl,hk',hfit⟩:=zbj hv;have HF:Hid (v'=v/\kM ms env s=some m/\VaC wr v' (VV v'.t v'.n (.slice A v'.s.length kc))/\seek es s=some (VV v'.t v'.n (.slice A v'.s.length kc))):=by
     refine⟨?_,?_,hv,e2⟩
     ·have h:=hl;unfold kQ at h;rw[e1]at h;injection h
     ·rw[<- hw]
      conv=>lhs;unfold kM
      rw[e1]
    clear hb hl hw hk hrest hme hbl hes e1 e2 b1 hnm hlt hk' hfit hv
    go_wp2_with(refine zi zEl rfl (.tmp 5) (.tmp 20) rfl rfl wr.heap.size rfl [_,_,_] rfl rfl HT (by simp[Value.oneCell']) ?_;intro w2 g1 g2 g3 g4 g5;have d0:=(g3.cell (p:=⟨b,0,none⟩) HLT.out).trans c0';replace g3:=aQ g3;clear g1 g2 g4 g5 c0 c1 c0' c1' hrun HT)
    go_ret;have h2:=HB1.out.trans g3.out;have hM2:=HM.out.of (h2.block _ HM.out.lt);obtain⟨rfl,h3,h4,h5⟩:=HF.out;exact⟨m,es,_,rfl,h3,hM2,h5,h4.on h2,zd HB.out h2 HB.out.size⟩
variable [Prt]
def xq{X:Cx10}{σ:Stt}(h:RunS X c σ w):w.cell? ⟨X.R,0,none⟩=some (.map (some X.g))/\w.cell? ⟨X.R,1,none⟩=some (.pointer (some ⟨X.J,0,none⟩))/\w.cell? ⟨X.R,2,none⟩=some (.int .i64 X.lim)/\w.cell? ⟨X.R,3,none⟩=some (.int .i64 σ.used)/\w.cell? ⟨X.R,4,none⟩=some (.int .i64 c):=by
 refine⟨?_,?_,?_,?_,?_⟩<;>simp[World.cell?,h.cell]
def zd0{X:Cx10}{σ:Stt}(h:RunS X c σ w):w.there X.R 2 2:=by
 intro j hj;have:j=0\/j=1:=by omega
 rcases this with rfl|rfl<;>simp[World.cell?,World.frozen?,h.cell]
def zlk{X:Cx10}{σ:Stt}(h:RunS X c σ w)(u:Int)(hu:σ.used<=u)(hl:u<=X.lim):RunS X c { σ with used:=u } (w.setCells X.R 2 [.int .i64 X.lim,.int .i64 u])/\Mv X.n0 NoM w (w.setCells X.R 2 [.int .i64 X.lim,.int .i64 u]):=by
 have hg:w.grownBy (w.setCells X.R 2 [.int .i64 X.lim,.int .i64 u]) (some X.R):=by
  have h1:=(World.grownBy.refl w (some X.R));refine⟨rfl,rfl,rfl,by simp[World.setCells,World.setCell],fun i _ hi=>?_⟩;have hi':i≠X.R:=fun e=>hi (by rw[e]);show((w.setCell ⟨X.R,2,none⟩ _).setCell ⟨X.R,3,none⟩ _).heap[i]? =_;rw[zf _ _ _ _ _ hi',zf _ _ _ _ _ hi']
 have hc:(w.setCells X.R 2 [.int .i64 X.lim,.int .i64 u]).heap[X.R]? =some (.cells #[.map (some X.g),.pointer (some ⟨X.J,0,none⟩),.int .i64 X.lim,.int .i64 u,.int .i64 c] 105 (0,0)):=by
  show((w.setCell ⟨X.R,2,none⟩ _).setCell ⟨X.R,3,none⟩ _).heap[X.R]? =_;exact heap_setCell_same _ _ 3 _ _ _ (heap_setCell_same w X.R 2 _ _ _ h.cell)
 obtain⟨h1,h2⟩:=h.own hg c u hc hu hl;exact⟨h1,Mv.own hg h2 h.sq⟩
def wJ{α:Type}{X:Cx10}{Q:World->α->Value->Prop}{r:Ou α}{a:α}{σ:Stt}{v:Value}(hr:r=.ok a σ)(hm:Mv X.n0 M w w')(hq:Q w' a v)(hs:RunS X c σ w'):qR X c M Q w r (.returned v) w':=by
 subst hr;exact⟨hm,v,rfl,hq,hs⟩
def zy{α:Type}{X:Cx10}{c c':Nat}{Q:World->α->Value->Prop}{r:Ou α}{t:Int}{σ:Stt}(hr:r=.trap t σ)(hm:Mv X.n0 M w w')(hs:RunS X c' σ w'):qR X c M Q w r (Trp t) w':=by
 subst hr;exact⟨hm,rfl,c',hs⟩
def QUn(_:World)(_:Unit)(v:Value):Prop:=v=.tuple #[]
def xY(X:Cx10)(c:Nat)(σ:Stt)(w:World)(n:Int)(h0:0<=n)(hn:n<=1000000000)(r:Ou Unit)(hr:RunS X c σ w)(hm:useE X.lim n σ=some r):Calls prog 152 #[.pointer (some ⟨X.R,0,none⟩),.int .i64 n] w (qR X c NoM QUn w r):=by
 obtain⟨z0,z1,z2,z3,z4⟩:=xq hr;have hu0:=hr.u0;have hu1:=hr.u1;have hu2:=hr.u2;have K:=aQ (useC X.lim σ.used n w (by unfold xt;omega) (by unfold xt;omega) (by unfold xt;omega));have HR:=aQ hr;by_cases hg:n > X.lim-σ.used
 ·have e:=zo7 (l:=X.lim) (u:=σ.used) (n:=n) (by omega);rw[e.1,e.2]at K;have HM:Hid (r=.trap 1 { σ with used:=X.lim }):=by show _=_;unfold useE at hm;rw[if_pos hg]at hm;injection hm with hm;exact hm.symm
  have HU:Hid (σ.used<=X.lim):=hu1;clear hm hg hr e hu0 hu1 hu2 h0 hn;go_enter func152,ntmps152
  go_wp2_with fail
  (with_reducible refine K.out.mono ?_)
  rintro e w1⟨rfl,hb1⟩;have H1:=HR.out.on hb1;have HT:=zd0 H1;obtain⟨g1,g2⟩:=zlk H1 X.lim HU.out (Int.le_refl _);have HG:Hid (RunS X c { σ with used:=X.lim } (w1.setCells X.R 2 [.int .i64 X.lim,.int .i64 X.lim])/\Mv X.n0 NoM w (w1.setCells X.R 2 [.int .i64 X.lim,.int .i64 X.lim])):=⟨g1,(Mv.of hb1).trans g2⟩;clear z0 z1 z2 z3 z4 hb1 H1 g1 g2
  go_wp2_with(refine wpList_store_mid rfl 102 (.tmp 16) (.tmp 13) rfl X.R 2 #[.int .i64 X.lim,.int .i64 X.lim] rfl rfl HT zGc (by simp[Value.oneCell']) ?_)
  refine(kt 1 (by decide) _).mono ?_;rintro e w3 ⟨rfl,rfl⟩;exact⟨rfl,zy HM.out HG.out.2 HG.out.1⟩
 ·have e:=zgg (l:=X.lim) (u:=σ.used) (n:=n) (by omega);rw[e.1,e.2]at K;have HM:Hid (r=.ok () { σ with used:=σ.used+n }):=by show _=_;unfold useE at hm;rw[if_neg hg]at hm;injection hm with hm;exact hm.symm
  have HU:Hid (σ.used<=σ.used+n/\σ.used+n<=X.lim):=⟨by omega,by omega⟩;clear hm hg hr e hu0 hu1 hu2 h0 hn
  generalize σ.used+n=u at *
  go_enter func152,ntmps152
  go_wp2_with fail
  (with_reducible refine K.out.mono ?_)
  rintro e w1⟨rfl,hb1⟩;have H1:=HR.out.on hb1;have HT:=zd0 H1;obtain⟨g1,g2⟩:=zlk H1 u HU.out.1 HU.out.2;have HG:Hid (RunS X c { σ with used:=u } (w1.setCells X.R 2 [.int .i64 X.lim,.int .i64 u])/\Mv X.n0 NoM w (w1.setCells X.R 2 [.int .i64 X.lim,.int .i64 u])):=⟨g1,(Mv.of hb1).trans g2⟩;clear z0 z1 z2 z3 z4 hb1 H1 g1 g2
  go_wp2_with(refine wpList_store_mid rfl 102 (.tmp 16) (.tmp 13) rfl X.R 2 #[.int .i64 X.lim,.int .i64 u] rfl rfl HT zGc (by simp[Value.oneCell']) ?_)
  go_end0
  exact wJ HM.out HG.out.2 rfl HG.out.1
section
open Go.RowKit
def jP(v:Value)(f:Int->Int->Ans)(D:Nat->Prop)(w0:World):Prop:=
 ∃fn caps,v=.func (.func fn) #[] caps/\Ent fn/\∀(a b:Int) (w:World),fits a->fits b->Kept D w0 w->Calls prog fn (#[.int .i64 a,.int .i64 b]++caps) w fun e w'=>e=.returned (AV (f a b))/\Below w.heap.size w w'
def xL(v:Value)(f:Bool->Bool->Bool)(D:Nat->Prop)(w0:World):Prop:=∃fn caps,v=.func (.func fn) #[] caps/\zks fn caps f D w0
def FnV(v:Value):Prop:=v=.nilFunc\/∃fn caps,v=.func (.func fn) #[] caps
def FnV.one{v:Value}(h:FnV v):v.oneCell'=true:=by
 rcases h with rfl|⟨_,_,rfl⟩<;>rfl
def FnV.fn(fn:Nat)(caps:Array Value):FnV (.func (.func fn) #[] caps):=.inr ⟨_,_,rfl⟩
def FnV.no:FnV .nilFunc:=.inl rfl
def jP.v{v:Value}{f:Int->Int->Ans}(h:jP v f D w):FnV v:=by obtain⟨fn,caps,rfl,_⟩:=h;exact .fn _ _
def xL.v{v:Value}{f:Bool->Bool->Bool}(h:xL v f D w):FnV v:=by obtain⟨fn,caps,rfl,_⟩:=h;exact .fn _ _
def RowI(f:Int->Int->Ans)(w:World)(e:Ending)(w':World):Prop:=
 ∃D v1 v2 v3,e=.returned (.agg #[v1,v2,v3])/\(∀k,D k->k<w'.heap.size)/\jP v1 f D w'/\FnV v2/\FnV v3/\Below w.heap.size w w'
def RowB(f:Bool->Bool->Bool)(w:World)(e:Ending)(w':World):Prop:=
 ∃D v1 v2 v3,e=.returned (.agg #[v1,v2,v3])/\(∀k,D k->k<w'.heap.size)/\FnV v1/\xL v2 f D w'/\FnV v3/\Below w.heap.size w w'
abbrev rO:Obj:=.cells #[.nilFunc,.nilFunc,.nilFunc] 319
def zgk(fn:Nat)(f:Int->Int->Int)(hf:zhf fn f)(w:World):Calls prog 307 #[.func (.func fn) #[] #[]] w fun e w'=>∃v,e=.returned v/\jP v (x9 f) (fun k=>k=w.heap.size) w'/\w.heap.size<w'.heap.size/\Below w.heap.size w w':=by
 have hmf:∀(fn:Fn) (first cap:Array Value) (w:World),(Instr.makeFunc fn first cap).run prog w=.ok (.func fn first cap) w:=fun _ _ _ _=>rfl;have HF:=aQ hf;go_enter func307,ntmps307;go_wp2;go_ret;refine⟨_,rfl,⟨334,_,rfl,by intro args w;simp,fun a b w1 ha hb hw=>?_⟩,by simp,za _ _⟩;exact divC fn f HF.out a b w.heap.size w1 ha hb (hw.cell rfl (by rw[wy _ _ _ _ _ _ (ye w _)];rfl))
def jJ(fn:Nat)(caps:Array Value)(h:Int->Bool)(D:Nat->Prop)(w:World)(hD:∀k,D k->k<w.heap.size)(hf:jZ fn caps h D w):Calls prog 310 #[.func (.func fn) #[] caps] w fun e w'=>∃v,e=.returned v/\jP v (jW h) (fun k=>D k\/k=w.heap.size) w'/\w.heap.size<w'.heap.size/\Below w.heap.size w w':=by
 have hmf:∀(fn:Fn) (first cap:Array Value) (w:World),(Instr.makeFunc fn first cap).run prog w=.ok (.func fn first cap) w:=fun _ _ _ _=>rfl;have HF:=aQ hf;go_enter func310,ntmps310;go_wp2;go_ret;refine⟨_,rfl,⟨335,_,rfl,by intro args w;simp,fun a b w1 ha hb hw=>?_⟩,by simp,za _ _⟩;have hw':Kept D w w1:=fun k hk=>⟨hD k hk,by rw[(hw k (.inl hk)).2,(za w _).block k (hD k hk)]⟩;exact ordC fn caps h w D HF.out a b w.heap.size w1 hw' (hw.cell (.inr rfl) (by rw[wy _ _ _ _ _ _ (ye w _)];rfl))
def qB(w:World):(w.alloc rO).there w.heap.size 0 3:=xJ (cs:=[.nilFunc,.nilFunc,.nilFunc]) (ye w _) rfl
def zfk{fn:Nat}{f:Int->Int->Ans}(he:Ent fn)(h:∀a b w,fits a->fits b->Calls prog fn #[.int .i64 a,.int .i64 b] w fun e w'=>e=.returned (AV (f a b))/\Below w.heap.size w w')(w:World):jP (.func (.func fn) #[] #[]) f (fun _=>False) w:=
 ⟨fn,#[],rfl,he,fun a b w ha hb _=>by simpa using h a b w ha hb⟩
def ztm:Ent 304:=by intro args w;simp
def zu6:Ent 293:=by intro args w;simp
def zv8:Ent 306:=by intro args w;simp
def jP.later{v:Value}{f:Int->Int->Ans}(h:jP v f D w)(hk:Kept D w w'):jP v f D w':=by
 obtain⟨fn,caps,rfl,he,hc⟩:=h;exact⟨fn,caps,rfl,he,fun a b w1 ha hb hw=>hc a b w1 ha hb fun k h1=>⟨(hk k h1).1,by rw[(hw k h1).2,(hk k h1).2]⟩⟩
def zoi(w:World):Calls prog 290 #[.string ⟨#[43]⟩] w (RowI (fun a b=>vJ (a+b)) w):=by
 go_enter func290,ntmps290
 go_wp2_with(refine zi zH rfl (.tmp 2) (.tmp 6) rfl rfl w.heap.size rfl [_,_,_] rfl rfl (qB w) (by simp[Value.oneCell']) ?_;intro w2 g1 g2 g3 g4 g5)
 refine vS (zU (cs:=[_,_,_]) results290 underlying319 rfl zH _ _ w.heap.size rfl g1) rfl ?_;exact⟨_,_,_,_,rfl,fun _ h=>h.elim,zfk ztm sumC _,.no,.fn _ _,(za w rO).trans g3⟩
def zki(w:World):Calls prog 290 #[.string ⟨#[45]⟩] w (RowI (fun a b=>vJ (a-b)) w):=by
 go_enter func290,ntmps290
 go_wp2_with(refine zi zH rfl (.tmp 2) (.tmp 9) rfl rfl w.heap.size rfl [_,_,_] rfl rfl (qB w) (by simp[Value.oneCell']) ?_;intro w2 g1 g2 g3 g4 g5)
 refine vS (zU (cs:=[_,_,_]) results290 underlying319 rfl zH _ _ w.heap.size rfl g1) rfl ?_;exact⟨_,_,_,_,rfl,fun _ h=>h.elim,zfk zu6 zsk _,.no,.no,(za w rO).trans g3⟩
def zl5(w:World):Calls prog 290 #[.string ⟨#[42]⟩] w (RowI (fun a b=>vJ (a*b)) w):=by
 go_enter func290,ntmps290
 go_wp2_with(refine zi zH rfl (.tmp 2) (.tmp 12) rfl rfl w.heap.size rfl [_,_,_] rfl rfl (qB w) (by simp[Value.oneCell']) ?_;intro w2 g1 g2 g3 g4 g5)
 refine vS (zU (cs:=[_,_,_]) results290 underlying319 rfl zH _ _ w.heap.size rfl g1) rfl ?_;exact⟨_,_,_,_,rfl,fun _ h=>h.elim,zfk zv8 zvo _,.no,.no,(za w rO).trans g3⟩
def zpt(w:World):Calls prog 290 #[.string ⟨#[47]⟩] w (RowI (x9 Int.tdiv) w):=by
 go_enter func290,ntmps290
 go_wp2_with fail
 refine(zgk 308 Int.tdiv quoC _).mono ?_;rintro e w1 ⟨v,rfl,hv,hlt,hb1⟩;have HT:=zG (qB w) hb1 (by simp);have HV:=aQ hv;obtain⟨fn,caps,rfl,_⟩:=hv
 go_wp2_with(refine zi zH rfl (.tmp 2) (.tmp 16) rfl rfl w.heap.size rfl [_,_,_] rfl rfl HT (by simp[Value.oneCell']) ?_;intro w2 g1 g2 g3 g4 g5)
 refine vS (zU (cs:=[_,_,_]) results290 underlying319 rfl zH _ _ w.heap.size rfl g1) rfl ?_;refine⟨_,_,_,_,rfl,fun k hk=>?_,HV.out.later fun k hk=>⟨?_,g4 k ?_⟩,.no,.no,((za w rO).trans (hb1.mono (by simp))).trans g3⟩
 all_goals(simp at hk hlt;omega)
def zrn(w:World):Calls prog 290 #[.string ⟨#[37]⟩] w (RowI (x9 Int.tmod) w):=by
 go_enter func290,ntmps290
 go_wp2_with fail
 refine(zgk 309 Int.tmod remC _).mono ?_;rintro e w1 ⟨v,rfl,hv,hlt,hb1⟩;have HT:=zG (qB w) hb1 (by simp);have HV:=aQ hv;obtain⟨fn,caps,rfl,_⟩:=hv
 go_wp2_with(refine zi zH rfl (.tmp 2) (.tmp 20) rfl rfl w.heap.size rfl [_,_,_] rfl rfl HT (by simp[Value.oneCell']) ?_;intro w2 g1 g2 g3 g4 g5)
 refine vS (zU (cs:=[_,_,_]) results290 underlying319 rfl zH _ _ w.heap.size rfl g1) rfl ?_;refine⟨_,_,_,_,rfl,fun k hk=>?_,HV.out.later fun k hk=>⟨?_,g4 k ?_⟩,.no,.no,((za w rO).trans (hb1.mono (by simp))).trans g3⟩
 all_goals(simp at hk hlt;omega)
def zuz(w:World):Calls prog 290 #[.string ⟨#[60]⟩] w (RowI (jW (fun n=>decide (n<0))) w):=by
 go_enter func290,ntmps290
 go_wp2_with fail
 refine(jJ 311 #[] (fun n=>decide (n<0)) _ _ (fun _ h=>h.elim) (zug _)).mono ?_;rintro e w1 ⟨v,rfl,hv,hlt,hb1⟩;have HT:=zG (qB w) hb1 (by simp);have HV:=aQ hv;obtain⟨fn,caps,rfl,_⟩:=hv
 go_wp2_with(refine zi zH rfl (.tmp 2) (.tmp 24) rfl rfl w.heap.size rfl [_,_,_] rfl rfl HT (by simp[Value.oneCell']) ?_;intro w2 g1 g2 g3 g4 g5)
 refine vS (zU (cs:=[_,_,_]) results290 underlying319 rfl zH _ _ w.heap.size rfl g1) rfl ?_;refine⟨_,_,_,_,rfl,fun k hk=>?_,HV.out.later fun k hk=>⟨?_,g4 k ?_⟩,.no,.no,((za w rO).trans (hb1.mono (by simp))).trans g3⟩
 all_goals(simp at hk hlt;omega)
def zsy(w:World):Calls prog 290 #[.string ⟨#[60,61]⟩] w (RowI (jW (fun n=>decide (n<=0))) w):=by
 go_enter func290,ntmps290
 go_wp2_with fail
 refine(jJ 312 #[] (fun n=>decide (n<=0)) _ _ (fun _ h=>h.elim) (zsi _)).mono ?_;rintro e w1 ⟨v,rfl,hv,hlt,hb1⟩;have HT:=zG (qB w) hb1 (by simp);have HV:=aQ hv;obtain⟨fn,caps,rfl,_⟩:=hv
 go_wp2_with(refine zi zH rfl (.tmp 2) (.tmp 28) rfl rfl w.heap.size rfl [_,_,_] rfl rfl HT (by simp[Value.oneCell']) ?_;intro w2 g1 g2 g3 g4 g5)
 refine vS (zU (cs:=[_,_,_]) results290 underlying319 rfl zH _ _ w.heap.size rfl g1) rfl ?_;refine⟨_,_,_,_,rfl,fun k hk=>?_,HV.out.later fun k hk=>⟨?_,g4 k ?_⟩,.no,.no,((za w rO).trans (hb1.mono (by simp))).trans g3⟩
 all_goals(simp at hk hlt;omega)
def zsm(w:World):Calls prog 290 #[.string ⟨#[62]⟩] w (RowI (jW (fun n=>decide (0<n))) w):=by
 go_enter func290,ntmps290
 go_wp2_with fail
 refine(jJ 313 #[] (fun n=>decide (0<n)) _ _ (fun _ h=>h.elim) (zr6 _)).mono ?_;rintro e w1 ⟨v,rfl,hv,hlt,hb1⟩;have HT:=zG (qB w) hb1 (by simp);have HV:=aQ hv;obtain⟨fn,caps,rfl,_⟩:=hv
 go_wp2_with(refine zi zH rfl (.tmp 2) (.tmp 32) rfl rfl w.heap.size rfl [_,_,_] rfl rfl HT (by simp[Value.oneCell']) ?_;intro w2 g1 g2 g3 g4 g5)
 refine vS (zU (cs:=[_,_,_]) results290 underlying319 rfl zH _ _ w.heap.size rfl g1) rfl ?_;refine⟨_,_,_,_,rfl,fun k hk=>?_,HV.out.later fun k hk=>⟨?_,g4 k ?_⟩,.no,.no,((za w rO).trans (hb1.mono (by simp))).trans g3⟩
 all_goals(simp at hk hlt;omega)
def zsg(w:World):Calls prog 290 #[.string ⟨#[62,61]⟩] w (RowI (jW (fun n=>decide (0<=n))) w):=by
 go_enter func290,ntmps290
 go_wp2_with fail
 refine(jJ 314 #[] (fun n=>decide (0<=n)) _ _ (fun _ h=>h.elim) (zsp _)).mono ?_;rintro e w1 ⟨v,rfl,hv,hlt,hb1⟩;have HT:=zG (qB w) hb1 (by simp);have HV:=aQ hv;obtain⟨fn,caps,rfl,_⟩:=hv
 go_wp2_with(refine zi zH rfl (.tmp 2) (.tmp 36) rfl rfl w.heap.size rfl [_,_,_] rfl rfl HT (by simp[Value.oneCell']) ?_;intro w2 g1 g2 g3 g4 g5)
 refine vS (zU (cs:=[_,_,_]) results290 underlying319 rfl zH _ _ w.heap.size rfl g1) rfl ?_;refine⟨_,_,_,_,rfl,fun k hk=>?_,HV.out.later fun k hk=>⟨?_,g4 k ?_⟩,.no,.no,((za w rO).trans (hb1.mono (by simp))).trans g3⟩
 all_goals(simp at hk hlt;omega)
def xL.later{v:Value}{f:Bool->Bool->Bool}(h:xL v f D w)(hk:Kept D w w'):xL v f D w':=by
 obtain⟨fn,caps,rfl,he,hc⟩:=h;exact⟨fn,caps,rfl,he,fun a b w1 hw=>hc a b w1 fun k h1=>⟨(hk k h1).1,by rw[(hw k h1).2,(hk k h1).2]⟩⟩
def xL.more{v:Value}{f:Bool->Bool->Bool}(h:xL v f D w)(hk:∀k,D k->D' k):xL v f D' w:=by
 obtain⟨fn,caps,rfl,he,hc⟩:=h;exact⟨fn,caps,rfl,he,fun a b w1 hw=>hc a b w1 fun k h1=>hw k (hk k h1)⟩
def RowE(h:Bool->Bool)(w:World)(e:Ending)(w':World):Prop:=
 ∃D v1 v2 v3,e=.returned (.agg #[v1,v2,v3])/\(∀k,D k->w.heap.size<=k/\k<w'.heap.size)/\jP v1 (jW fun n=>h (n==0)) D w'/\xL v2 (fun a b=>h (a==b)) D w'/\FnV v3/\Below w.heap.size w w'
def ze7(fn:Nat)(h:Bool->Bool)(hf:zd3 fn h)(w:World):Calls prog 315 #[.func (.func fn) #[] #[]] w (RowE h w):=by
 have hmf:∀(fn:Fn) (first cap:Array Value) (w:World),(Instr.makeFunc fn first cap).run prog w=.ok (.func fn first cap) w:=fun _ _ _ _=>rfl;have hcell:((w.alloc (.cells #[.func (.func fn) #[] #[]] 335)).alloc rO).cell? ⟨w.heap.size,0,none⟩=some (.func (.func fn) #[] #[]):=by
  rw[wy _ _ _ _ _ _ (show((w.alloc (.cells #[.func (.func fn) #[] #[]] 335)).alloc rO).heap[w.heap.size]? =some _ by rw[Below.heap_alloc _ _ _ (by simp)];exact ye w _)];rfl
 have K:=aQ (jJ 337 #[.pointer (some ⟨w.heap.size,0,none⟩)] (fun n=>h (n==0)) (fun k=>k=w.heap.size) _ (by intro k hk;subst hk;simp;omega) (zo3 fn h hf w.heap.size _ hcell));have HF:=aQ hf;have HT0:((w.alloc (.cells #[.func (.func fn) #[] #[]] 335)).alloc rO).there (w.heap.size+1) 0 3:=xJ (cs:=[.nilFunc,.nilFunc,.nilFunc]) (by have:=ye (w.alloc (.cells #[.func (.func fn) #[] #[]] 335)) rO;simpa using this) rfl;have HC:=aQ hcell;clear hcell;go_enter func315,ntmps315
 go_wp2_with fail
 refine K.out.mono ?_;rintro e w1 ⟨v,rfl,hv,hlt,hb1⟩;have HT:=zG HT0 hb1 (by simp);have HV:=aQ hv;obtain⟨fn',caps,rfl,_⟩:=hv;clear K
 go_wp2_with(refine zi zH rfl (.tmp 2) (.tmp 7) rfl rfl (w.heap.size+1) rfl [_,_,_] rfl rfl HT (by simp[Value.oneCell']) ?_;intro w2 g1 g2 g3 g4 g5)
 refine vS (zU (cs:=[_,_,_]) results315 underlying319 rfl zH _ _ (w.heap.size+1) rfl g1) rfl ?_;have hb2:=zpl fn h HF.out w.heap.size w1 (yZ hb1 (by simp;omega) HC.out);simp only[aE]at hlt;have hK:Kept (fun k=>k=w.heap.size\/k=((w.alloc (.cells #[.func (.func fn) #[] #[]] 335)).alloc rO).heap.size) w1 w2:=fun k hk=>by
  simp only[aE]at hk;exact⟨by omega,g4 k (by omega)⟩
 refine⟨_,_,_,_,rfl,fun k hk=>?_,HV.out.later hK,xL.later (xL.more ⟨338,_,rfl,hb2⟩ (fun k hk=>.inl hk)) hK,.fn _ _,?_⟩
 ·simp only[aE]at hk;omega
 ·exact((xD w _ _).trans (hb1.mono (by simp;omega))).trans (g3.mono (by omega))
def zo5(w:World):Calls prog 290 #[.string ⟨#[61,61]⟩] w (RowE (fun b=>b) w):=by
 go_enter func290,ntmps290
 go_wp2_with fail
 refine(ze7 316 _ zpn _).mono ?_;rintro e w1 ⟨D,v1,v2,v3,rfl,hD,h1,h2,h3,hb1⟩;have HT:=zG (qB w) hb1 (by simp);have HV:=aQ h1;have HV2:=aQ h2;have HV3:=aQ h3;have o3:=h3.one;have o1:=h1.v.one;have o2:=h2.v.one;clear h1 h2 h3
 go_wp2_with(refine zi zH rfl (.tmp 2) (.tmp 39) rfl rfl w.heap.size rfl [_,_,_] rfl rfl HT (by simp[o1,o2,o3]) ?_;intro w2 g1 g2 g3 g4 g5)
 refine vS (zU (cs:=[_,_,_]) results290 underlying319 rfl zH _ _ w.heap.size rfl g1) rfl ?_;have hK:Kept D w1 w2:=fun k hk=>⟨(hD k hk).2,g4 k (by have:=(hD k hk).1;simp at this;omega)⟩;exact⟨_,_,_,_,rfl,fun k hk=>⟨by have:=(hD k hk).1;simp at this;omega,by rw[g5];exact(hD k hk).2⟩,HV.out.later hK,HV2.out.later hK,HV3.out,((za w rO).trans (hb1.mono (by simp))).trans g3⟩
def zpb(w:World):Calls prog 290 #[.string ⟨#[33,61]⟩] w (RowE (fun b=>!b) w):=by
 go_enter func290,ntmps290
 go_wp2_with fail
 refine(ze7 317 _ zqf _).mono ?_;rintro e w1 ⟨D,v1,v2,v3,rfl,hD,h1,h2,h3,hb1⟩;have HT:=zG (qB w) hb1 (by simp);have HV:=aQ h1;have HV2:=aQ h2;have HV3:=aQ h3;have o3:=h3.one;have o1:=h1.v.one;have o2:=h2.v.one;clear h1 h2 h3
 go_wp2_with(refine zi zH rfl (.tmp 2) (.tmp 42) rfl rfl w.heap.size rfl [_,_,_] rfl rfl HT (by simp[o1,o2,o3]) ?_;intro w2 g1 g2 g3 g4 g5)
 refine vS (zU (cs:=[_,_,_]) results290 underlying319 rfl zH _ _ w.heap.size rfl g1) rfl ?_;have hK:Kept D w1 w2:=fun k hk=>⟨(hD k hk).2,g4 k (by have:=(hD k hk).1;simp at this;omega)⟩;exact⟨_,_,_,_,rfl,fun k hk=>⟨by have:=(hD k hk).1;simp at this;omega,by rw[g5];exact(hD k hk).2⟩,HV.out.later hK,HV2.out.later hK,HV3.out,((za w rO).trans (hb1.mono (by simp))).trans g3⟩
def RowE.ints{h:Bool->Bool}{e:Ending}(r:RowE h w e w'):RowI (jW fun n=>h (n==0)) w e w':=by
 obtain⟨D,v1,v2,v3,he,hD,h1,h2,h3,hb⟩:=r;exact⟨D,v1,v2,v3,he,fun k hk=>(hD k hk).2,h1,h2.v,h3,hb⟩
def RowE.bools{h:Bool->Bool}{e:Ending}(r:RowE h w e w'):RowB (fun a b=>h (a==b)) w e w':=by
 obtain⟨D,v1,v2,v3,he,hD,h1,h2,h3,hb⟩:=r;exact⟨D,v1,v2,v3,he,fun k hk=>(hD k hk).2,h1.v,h2,h3,hb⟩
abbrev vO(t n:Int)(k:Value):Obj:=.cells #[.int .i64 t,.int .i64 n,k] 41
structure zg7(w:World)(t n t' n':Int)(k k':Value)(w':World):Prop where
 x:At6 w' w.heap.size t n k
 y:At6 w' (w.heap.size+1) t' n' k'
 z:At6 w' (w.heap.size+1+1) 0 0 kB
 sz:w.heap.size+3<=w'.heap.size
 bl:Below w.heap.size w w'
def jx(w:World)(t n t' n':Int)(k k':Value):zg7 w t n t' n' k k' (((w.alloc (vO t n k)).alloc (vO t' n' k')).alloc zO) where
 x:=((yw w t n k).below (za _ (vO t' n' k')) (by simp)).below (za _ zO) (by simp;omega)
 y:=by have:=(yw (w.alloc (vO t n k)) t' n' k').below (za _ zO) (by simp);simpa using this
 z:=by have:=yw ((w.alloc (vO t n k)).alloc (vO t' n' k')) 0 0 kB;simpa using this
 sz:=by simp
 bl:=(xD w _ _).alloc (by simp;omega) _
def zg7.below{t n t' n':Int}{k k':Value}(h:zg7 w t n t' n' k k' w')(hb:Below w'.heap.size w' w''):zg7 w t n t' n' k k' w'' where
 x:=h.x.below hb (by have:=h.sz;omega)
 y:=h.y.below hb (by have:=h.sz;omega)
 z:=h.z.below hb (by have:=h.sz;omega)
 sz:=aT h.sz hb.size
 bl:=h.bl.trans (hb.mono (by have:=h.sz;omega))
def zi9(q:Nat)(t:TypeId){d:TypeDesc}(h:prog.underlying t=some d)(hd:∃a b c,d=.func a b c)(fn:Nat)(caps:Array Value)(w:World):(Op.equalIn (q+1) t (.func (.func fn) #[] caps) .nilFunc).run prog w=.ok false w:=by
 obtain⟨a,b,c,rfl⟩:=hd;simp[Op.equalIn,run_underlying h]
def zoe(t:TypeId){d:TypeDesc}(h:prog.underlying t=some d)(hd:∃a b c,d=.func a b c)(fn:Nat)(caps:Array Value)(w:World):(Op.equal t (.func (.func fn) #[] caps) .nilFunc).run prog w=.ok false w:=zi9 9999 t h hd fn caps w
def zea(t:TypeId){d:TypeDesc}(h:prog.underlying t=some d)(hd:∃a b c,d=.func a b c)(fn:Nat)(caps:Array Value)(w:World):(binOp .neq t (.func (.func fn) #[] caps) .nilFunc).run prog w=.ok (.bool true) w:=by
 simp only[binOp];simp[zoe t h hd fn caps w]
def kP{b:Nat}{v1 v2 v3:Value}(h:w.rangeAt b 0 [v1,v2,v3]):w.cell? ⟨b,0,none⟩=some v1/\w.cell? ⟨b,1,none⟩=some v2/\w.cell? ⟨b,2,none⟩=some v3:=⟨h 0 _ rfl,h 1 _ rfl,h 2 _ rfl⟩
def twoI(S:ByteArray)(f:Int->Int->Ans)(hrow:∀w,Calls prog 290 #[.string S] w (RowI f w))(a b:Int)(k k':Value)(w:World)(ha:fits a)(hb:fits b):Calls prog 262 #[.string S,VV 1 a k,VV 1 b k'] w fun e w'=>e=.returned (AV (f a b))/\Below w.heap.size w w':=by
 have H0:=aQ (jx w 1 a 1 b k k');have HR:=aQ hrow;have HA:=aQ ha;have HB:=aQ hb;clear hrow ha hb;have hq:=fun fn caps w=>zea 315 underlying315 ⟨_,_,_,rfl⟩ fn caps w;go_enter func262,ntmps262
 go_wp2_with fail
 refine(HR.out _).mono ?_;rintro e w1 ⟨D,v1,v2,v3,rfl,hD,h1,h2,h3,hb1⟩;have H1:=aQ (H0.out.below hb1);have o3:=h3.one;have o2:=h2.one;have HI:=aQ h1;obtain⟨fn,caps,rfl,hent,hcall⟩:=h1;unfold Ent at hent;have HC:=aQ hcall;have HD:=aQ hD;clear hcall hD h2 h3 hb1 H0
 go_wp2_with(refine zi zH rfl (.tmp 8) (.tmp 16) rfl rfl w1.heap.size rfl [_,_,_] rfl rfl (qB w1) (by simp[o2,o3];rfl) ?_;intro w2 g1 g2 g3 g4 g5;have hb2:Below w1.heap.size w1 w2:=(za w1 rO).trans g3;obtain⟨x0,x1,x2⟩:=(H1.out.below hb2).x.cells;obtain⟨y0,y1,y2⟩:=(H1.out.below hb2).y.cells;obtain⟨r0,r1,r2⟩:=kP g1;have HG:=aQ (And.intro g1 g5);clear g1 g2 g3 g4 g5)
 refine(HC.out a b w2 HA.out HB.out (fun k hk=>⟨HD.out k hk,hb2.block k (HD.out k hk)⟩)).mono ?_;rintro e w3 ⟨rfl,hb3⟩;have H3:=aQ ((H1.out.below hb2).below hb3);clear x0 x1 x2 y0 y1 y2 r0 r1 r2 hb2 hb3
 go_wp2_with(refine zi zEl rfl (.tmp 6) (.tmp 33) rfl rfl (w.heap.size+1+1) rfl [_,_,_] rfl rfl H3.out.z.2 (by simp[Value.oneCell']) ?_;intro w4 g1 g2 g3 g4 g5)
 refine vS (zP (cs:=[_,_,_]) results262 underlying41 rfl zEl _ _ (w.heap.size+1+1) rfl g1) rfl ?_;exact⟨rfl,H3.out.bl.trans (g3.mono (by omega))⟩
def Kept.of(hb:Below w.heap.size w w')(hD:∀k,D k->k<w.heap.size):Kept D w w':=fun k hk=>⟨hD k hk,hb.block k (hD k hk)⟩
def Kept.cells(h:Kept D w w')(hg:¬D g)(cs:List Value):Kept D w (w'.setCells g o cs):=fun k hk=>⟨(h k hk).1,by rw[(qZ g o cs w').2.1 k (fun e=>hg (e▸hk))];exact(h k hk).2⟩
def Kept.cell'(h:Kept D w w'){a:Addr}(hc:D a.block){v:Value}(hv:w.cell? a=some v):w'.cell? a=some v:=by
 rw[yp (h _ hc).2];exact hv
def At6.keptc(hk:Kept D w w'){b:Nat}(hc:D b){t n:Int}{k:Value}(h:At6 w b t n k):w'.cell? ⟨b,0,none⟩=some (.int .i64 t)/\w'.cell? ⟨b,1,none⟩=some (.int .i64 n)/\w'.cell? ⟨b,2,none⟩=some k:=
 ⟨hk.cell' hc h.cells.1,hk.cell' hc h.cells.2.1,hk.cell' hc h.cells.2.2⟩
def zbk(w:World)(t n:Int)(k:Value):At6 ((w.alloc (vO t n k)).alloc zO) w.heap.size t n k/\At6 ((w.alloc (vO t n k)).alloc zO) (w.heap.size+1) 0 0 kB/\Below w.heap.size w ((w.alloc (vO t n k)).alloc zO):=
 ⟨(yw w t n k).below (za _ zO) (by simp),by have:=yw (w.alloc (vO t n k)) 0 0 kB;simpa using this,xD w _ _⟩
def zrv(a:Int)(k:Value)(w:World)(ha:fits a):Calls prog 264 #[.string ⟨#[45]⟩,VV 1 a k] w fun e w'=>e=.returned (AV (vJ (-a)))/\Below w.heap.size w w':=by
 have H0:=aQ (zbk w 1 a k);have K:=aQ (fun w=>by have h:=zsk 0 a w (by unfold fits;omega) ha;rw[Int.zero_sub]at h;exact h);clear ha;go_enter func264,ntmps264
 go_wp2_with fail
 refine(K.out _).mono ?_;rintro e w1 ⟨rfl,hb1⟩;have HZ:=H0.out.2.1.below hb1 (by simp)
 go_wp2_with(refine zi zEl rfl (.tmp 4) (.tmp 17) rfl rfl (w.heap.size+1) rfl [_,_,_] rfl rfl HZ.2 (by simp[Value.oneCell']) ?_;intro w4 g1 g2 g3 g4 g5)
 refine vS (zP (cs:=[_,_,_]) results264 underlying41 rfl zEl _ _ (w.heap.size+1) rfl g1) rfl ?_;exact⟨rfl,(H0.out.2.2.trans (hb1.mono (by simp;omega))).trans (g3.mono (by omega))⟩
def zur(a:Int)(k:Value)(w:World):Calls prog 264 #[.string ⟨#[33]⟩,VV 2 a k] w fun e w'=>e=.returned (AV ⟨2,b2i (!(a==1)),0⟩)/\Below w.heap.size w w':=by
 have H0:=aQ (zbk w 2 a k);go_enter func264,ntmps264
 go_wp2_with fail
 refine(zls _ _ _ _).mono ?_;rintro e w1 ⟨rfl,hb1⟩
 go_wp2_with fail
 refine(zez _ _).mono ?_;rintro e w2 ⟨rfl,hb2⟩;have s1:=hb1.size;simp only[aE]at s1;have HZ:=(H0.out.2.1.below hb1 (by simp)).below hb2 (by omega)
 go_wp2_with(refine zi zEl rfl (.tmp 4) (.tmp 30) rfl rfl (w.heap.size+1) rfl [_,_,_] rfl rfl HZ.2 (by simp[Value.oneCell']) ?_;intro w4 g1 g2 g3 g4 g5)
 refine vS (zP (cs:=[_,_,_]) results264 underlying41 rfl zEl _ _ (w.heap.size+1) rfl g1) rfl ?_;exact⟨rfl,((H0.out.2.2.trans (hb1.mono (by simp;omega))).trans (hb2.mono (by omega))).trans (g3.mono (by omega))⟩
end
end
end Go.Proofs.YtcilgkdnjgmogaaGreatDoor
