/- A part of the proof. -/
import Derived.Test.YtcilgkdnjgmogaaGreatDoorYJ
import Derived.Laws.AppendOwn
import Derived.Maps.AppendAt
namespace Go.Proofs.YtcilgkdnjgmogaaGreatDoor
open Go.Proofs.Tryz
set_option maxRecDepth 100000
set_option maxHeartbeats 12800000
set_option linter.all false
variable {A:Option Addr} {c g m n n0:Nat} {e:TypeId} {u:Value} {w w':World} {xs ys:List Value}
section
section
def zcg{l:List PR}{k:List Int}:hasM l k=true ↔ fnd k l<l.length:=by unfold hasM;simp
def zf5{l:List PR}{k:List Int}(h:hasM l k=true):(k,getM l k)∈l:=by
 have hf:=zcg.1 h;obtain⟨v,hv⟩:=zen hf;have e:getM l k=v:=by unfold getM;rw[List.getD,hv];rfl
 rw[e];exact wM hv
def zl8{l:List PR}{k:List Int}(h:hasM l k=false){x:PR}(hx:x∈l):x.1≠k:=by
 have hf:¬fnd k l<l.length:=fun h'=>by rw[zcg.2 h']at h;cases h
 exact yO hf hx
def zmz{l:List PR}(h:qJ l){k v:List Int}(hh:hasM l k=false):delM (putM l k v) k=l:=by
 have hs:=yS h.2.1 k v;refine zfp (zct hs k) h.2.1 fun x=>?_;rw[zhl hs,yK h.2.1];constructor
 ·rintro⟨e|e,h2⟩
  ·rw[e]at h2;exact absurd rfl h2
  ·exact e.1
 ·exact fun hx=>⟨.inr ⟨hx,zl8 hh hx⟩,zl8 hh hx⟩
def zg0{l m:List PR}(h:qJ l)(hm:Srt m){k:List Int}(hh:hasM l k=true)(he:∀x,x.1≠k->(x∈m ↔ x∈l)):putR m k (getM l k)=l:=by
 have hg:=zf5 hh;have e:putM m k (getM l k)=l:=by
  refine zfp (yS hm k _) h.2.1 fun x=>?_;rw[yK hm];constructor
  ·rintro(e|⟨e1,e2⟩)
   ·rw[e];exact hg
   ·exact(he x e2).1 e1
  ·intro hx;by_cases hk:x.1=k
   ·exact .inl (zpr h.2.1 hx hg hk)
   ·exact .inr ⟨(he x hk).2 hx,hk⟩
 have h0:putE m k (getM l k)=0:=by
  have h1:=h.1 _ hg;unfold putE;rw[if_neg (by simp at h1;omega),e,if_neg (by have:=h.2.2;omega)]
 unfold putR;rw[if_pos h0,e]
def zlz{l:List PR}(h:qJ l){k v:List Int}(hh:hasM l k=true):putR (putM l k v) k (getM l k)=l:=
 zg0 h (yS h.2.1 k v) hh fun x hx=>by
  rw[yK h.2.1];exact⟨fun h=>h.elim (fun e=>absurd (by rw[e]) hx) fun e=>e.1,fun h=>.inr ⟨h,hx⟩⟩
def zng{l:List PR}(h:qJ l){k:List Int}(hh:hasM l k=true):putR (delM l k) k (getM l k)=l:=
 zg0 h (zct h.2.1 k) hh fun x hx=>by
  rw[zhl h.2.1];exact⟨fun h=>h.1,fun h=>⟨h,hx⟩⟩
def zmw{l:List PR}{k:List Int}(hh:hasM l k=false):delM l k=l:=by
 have hf:¬fnd k l<l.length:=fun h'=>by rw[zcg.2 h']at hh;cases hh
 unfold delM;rw[List.take_of_length_le (by omega),List.drop_eq_nil_of_le (by omega),List.append_nil]
def Sm8(r:Nat)(a:List PR):Prop:=a.length<=r/\∀p∈a,p.1.length<=200000/\p.2.length<=200000
def Sm8.more{r r':Nat}{a:List PR}(h:Sm8 r a)(hr:r<=r'):Sm8 r' a:=⟨aT h.1 hr,h.2⟩
def zgq{l:List PR}(h:qJ l):Sm8 256 l:=by
 have h1:=zmc l;have h2:=h.2.2;refine⟨by omega,fun p hp=>?_⟩;have:=h.1 p hp;omega
def Mild(F:List PR->List PR):Prop:=∀r a,Sm8 r a->Sm8 (r+1) (F a)
def zky:Mild (fun a=>a):=fun r a h=>h.more (by omega)
def znz(k:List Int):Mild (fun a=>delM a k):=fun r a h=>
 ⟨aT (kS a k).length_le (aT h.1 (by omega)),fun p hp=>h.2 p ((kS a k).subset hp)⟩
def zgr(k v:List Int):Mild (fun a=>putR a k v):=fun r a h=>by
 show Sm8 (r+1) (putR a k v);unfold putR;by_cases h0:putE a k v=0
 ·rw[if_pos h0];have h1:k.length<=64/\v.length<=256:=by
   unfold putE at h0
   split at h0
   ·cases h0
   ·omega
  refine⟨?_,fun p hp=>?_⟩
  ·unfold putM;have h2:=zua k a;have h3:=zjv k a;have h4:=h.1;simp only[aA,aB,aI,aH];unfold spA spB
   split<;>omega
  ·unfold putM at hp;rcases List.mem_append.1 hp with e|e
   ·exact h.2 p (List.mem_of_mem_take e)
   ·rcases aC.1 e with e|e
    ·subst e;exact⟨by simp;omega,by simp;omega⟩
    ·exact h.2 p (List.mem_of_mem_drop e)
 ·rw[if_neg h0];exact⟨by simp,fun p hp=>by cases hp⟩
def back(Fs:List (List PR->List PR))(cur:List PR)(is:List Nat):List PR:=is.foldl (fun a i=>(Fs.getD i id) a) cur
def jp(Fs:List (List PR->List PR))(cur:List PR)(is:List Nat)(i:Nat):back Fs cur (is++[i])=(Fs.getD i id) (back Fs cur is):=by simp[back]
def zas(hs:List (List PR))(Fs:List (List PR->List PR)):Prop:=∀i F a b,Fs[i]? =some F->hs[i]? =some a->hs[i+1]? =some b->F b=a
def zb3{hs:List (List PR)}{cur:List PR}{Fs:List (List PR->List PR)}(hc:zas (hs++[cur]) Fs)(hl:Fs.length=hs.length):∀r,r<=hs.length->(hs++[cur])[hs.length-r]? =some (back Fs cur ((List.range r).map fun j=>hs.length-1-j))
 | 0,_=>by simp[back]
 | r+1,h=>by
  have ih:=zb3 hc hl r (by omega);rw[List.range_succ,List.map_append,List.map_cons,List.map_nil,jp]
  generalize back Fs cur ((List.range r).map fun j=>hs.length-1-j)=b at *
  obtain⟨a,ha⟩:∃a,(hs++[cur])[hs.length-(r+1)]? =some a:=⟨_,vp (by simp;omega)⟩;obtain⟨F,hF⟩:∃F,Fs[hs.length-(r+1)]? =some F:=⟨_,vp (by omega)⟩;have:=hc _ F a b hF ha (by rw[show hs.length-(r+1)+1=hs.length-r by omega];exact ih);rw[ha,show hs.length-1-r=hs.length-(r+1) by omega,List.getD,hF];show some a=some (F b);rw[this]
def zfi{Fs:List (List PR->List PR)}(hF:∀F∈Fs,Mild F){r:Nat}:∀ {is:List Nat} {cur:List PR},Sm8 r cur->Sm8 (r+is.length) (back Fs cur is)
 | [],cur,h=>h
 | i::is,cur,h=>by
  have hm:Mild (Fs.getD i id):=by
   rw[List.getD];cases h':Fs[i]? with
   | none=>exact zky
   | some F=>exact hF F (wM h')
  have:=zfi hF (is:=is) (hm r cur h);show Sm8 (r+(is.length+1)) (back Fs ((Fs.getD i id) cur) is);exact this.more (by omega)
def zi2{hs:List (List PR)}{cur nxt:List PR}{Fs:List (List PR->List PR)}(hc:zas (hs++[cur]) Fs)(hl:Fs.length=hs.length){F:List PR->List PR}(hF:F nxt=cur):zas (hs++[cur]++[nxt]) (Fs++[F]):=by
 intro i G a b hG ha hb;rcases Nat.lt_or_ge i Fs.length with h|h
 ·rw[aF h]at hG;rw[aF (by simp;omega)]at ha hb;exact hc i G a b hG ha hb
 ·have hi:i=Fs.length:=by
   have:=(vm.1 hG).1;simp at this;omega
  subst hi;rw[aG (aR _)]at hG;rw[hl]at ha hb;rw[List.append_assoc,aG (aR _)]at ha;rw[List.append_assoc,aG (by omega)]at hb;simp at hG ha hb;subst hG ha hb;exact hF
def zbp{hs:List (List PR)}{cur:List PR}{Fs:List (List PR->List PR)}(hc:zas (hs++[cur]) Fs)(hm:m<=hs.length){a:List PR}(ha:(hs++[cur])[m]? =some a):zas (hs.take m++[a]) (Fs.take m):=by
 intro i G x y hG hx hy;rw[List.getElem?_take]at hG
 split at hG
 ·rename_i hi
  have e:∀j,j<=m->(hs.take m++[a])[j]? =(hs++[cur])[j]?:=fun j hj=>by
   rcases Nat.lt_or_ge j m with h|h
   ·rw[aF (by simp;omega),List.getElem?_take,if_pos h,aF (by omega)]
   ·obtain rfl:j=m:=by omega
    rw[ha,aG (by simp;omega)];simp[Nat.min_eq_left hm]
  rw[e i (by omega)]at hx;rw[e (i+1) (by omega)]at hy;exact hc i G x y hG hx hy
 ·cases hG
end
section
open Go.RowKit
def NoI(cs:Array Value):Prop:=∀x∈cs,∀(_:Unit) y,x≠Value.int .u8 y
def Sp(n0:Nat)(w:World)(b:Nat):Prop:=n0<=b/\∃cs T z,w.heap[b]? =some (.cells cs T z)/\(T=92\/T=95\/T=154\/T=33\/T=105\/T=41\/T=44)/\NoI cs
def Sp.lt{b:Nat}(h:Sp n0 w b):b<w.heap.size:=by
 obtain⟨_,cs,T,z,h1,_⟩:=h;exact(aU.1 h1).1
def Sp.same{b:Nat}(h:w'.heap[b]? =w.heap[b]?):Sp n0 w' b ↔ Sp n0 w b:=by unfold Sp;rw[h]
def Cel(w:World)(b:Nat):Prop:=∃cs T z,w.heap[b]? =some (.cells cs T z)
def Cel.of{a:Addr}{v:Value}(h:w.cell? a=some v):Cel w a.block:=by
 unfold World.cell? at h
 split at h
 ·exact⟨_,_,_,by assumption⟩
 ·cases h
structure Off(n0:Nat)(w w':World):Prop where
 os:w'.os=w.os
 tape:w'.tape=w.tape
 output:w'.output=w.output
 size:w.heap.size<=w'.heap.size
 block:∀b,b<w.heap.size->¬Sp n0 w b->(b<n0\/Cel w b)->w'.heap[b]? =w.heap[b]?
 sp:∀b,Sp n0 w b->Sp n0 w' b
def Off.of{a b:World}(h:Below a.heap.size a b):Off n0 a b:=
 ⟨h.os,h.tape,h.output,h.size,fun i hi _ _=>h.block i hi,fun i hi=>(Sp.same (h.block i hi.lt)).2 hi⟩
def Off.refl(n0:Nat)(w:World):Off n0 w w:=.of (Below.refl _ _)
def Off.trans{a b c:World}(h:Off n0 a b)(k:Off n0 b c):Off n0 a c:=
 ⟨k.os.trans h.os,k.tape.trans h.tape,k.output.trans h.output,aT h.size k.size,
  fun i hi hx hc=>(k.block i (aS hi h.size) (fun h'=>hx ((Sp.same (h.block i hi hx hc)).1 h')) (hc.imp id fun⟨cs,T,z,hc'⟩=>⟨cs,T,z,by rw[h.block i hi hx hc];exact hc'⟩)).trans (h.block i hi hx hc),fun i hi=>k.sp i (h.sp i hi)⟩
def Off.then{a b c:World}(h:Off n0 a b)(k:Below b.heap.size b c):Off n0 a c:=h.trans (.of k)
def Off.below{a b:World}(h:Off n0 a b)(hn:n0<=a.heap.size):Below n0 a b:=
 ⟨h.os,h.tape,h.output,h.size,fun i hi=>h.block i (by omega) (fun hx=>by have:=hx.1;omega) (.inl hi)⟩
def Off.grown{a b:World}{J:Nat}(hg:a.grownBy b (some J))(hJ:Sp n0 a J)(hJ':Sp n0 b J):Off n0 a b:=
 ⟨hg.os,hg.tape,hg.output,hg.size,fun i hi hx _=>hg.block i hi fun e=>hx (by injection e with e;subst e;exact hJ),fun i hi=>by
  by_cases e:i=J
  ·subst e;exact hJ'
  ·exact(Sp.same (hg.block i hi.lt fun h=>e (by injection h))).2 hi⟩
def Off.other{a b:World}{r:Nat}(hg:a.grownBy b (some r))(hr:¬Cel a r)(hn:n0<=r):Off n0 a b:=
 ⟨hg.os,hg.tape,hg.output,hg.size,fun i hi _ hc=>hg.block i hi fun e=>by
   injection e with e
   subst e;rcases hc with h|h
   ·omega
   ·exact hr h,
  fun i hi=>(Sp.same (hg.block i hi.lt fun e=>by
   injection e with e
   subst e;obtain⟨_,cs,T,z,h,_⟩:=hi
   exact hr ⟨cs,T,z,h⟩)).2 hi⟩
def SB.off{l:List Int}(h:SB w w.heap.size u l)(ho:Off n0 w w'):SB w' w'.heap.size u l:=by
 obtain⟨A,c,h1,h2,h3,h4,h5⟩:=h;refine⟨A,c,h1,h2,h3,⟨h4.1,fun j u hu=>?_⟩,h5⟩;obtain⟨ad,e,hB,hc⟩:=h4.2 j u hu;refine⟨ad,e,aS hB ho.size,?_⟩;obtain⟨b,hb,rfl⟩:∃b,b∈l/\Value.int .u8 b=u:=by
  have:=wM hu;simpa[zA]using this
 rw[yp (a:=ad.add j) (w:=w) (by
  rw[qh];refine ho.block _ hB (fun hx=>?_) (.inr (by have:=Cel.of hc;rwa [qh]at this));obtain⟨_,cs,T,z,g1,_,g2⟩:=hx;unfold World.cell? at hc;rw[qh,g1]at hc;dsimp only at hc
  split at hc
  ·cases hc
  ·exact g2 _ (Array.mem_of_getElem? hc) () _ rfl)]
 exact hc
def PrsX(n0:Nat)(w:World)(A:Option Addr)(c:Nat)(ls:List PR):Prop:=Prs w w.heap.size A c ls/\∀ad,A=some ad->Cel w ad.block/\¬Sp n0 w ad.block
def PrsX.off{ls:List PR}(h:PrsX n0 w A c ls)(ho:Off n0 w w'):PrsX n0 w' A c ls:=by
 obtain⟨⟨vs,h1,h2⟩,h3⟩:=h;refine⟨⟨vs,⟨h1.1,fun j u hu=>?_⟩,h2.mono fun u l h=>h.off ho⟩,fun ad e=>?_⟩
 ·obtain⟨ad,e,hB,hc⟩:=h1.2 j u hu;refine⟨ad,e,aS hB ho.size,?_⟩;rw[yp (a:=ad.add j) (w:=w) (by rw[qh];exact ho.block _ hB (h3 ad e).2 (.inr (h3 ad e).1))];exact hc
 ·obtain⟨g1,g2⟩:=h3 ad e;obtain⟨cs,T,z,g3⟩:=id g1;have e':=ho.block _ (aU.1 g3).1 g2 (.inr g1);exact⟨⟨cs,T,z,by rw[e'];exact g3⟩,fun h=>g2 ((Sp.same e').1 h)⟩
def PrsX.on{ls:List PR}(h:PrsX n0 w A c ls)(hb:Below w.heap.size w w'):PrsX n0 w' A c ls:=h.off (.of hb)
def vW.off(h:vW w A):∀ad,A=some ad->Cel w ad.block/\¬Sp n0 w ad.block:=fun ad e=>by
 obtain⟨cs,z,h1⟩:=h ad e;refine⟨⟨cs,_,z,h1⟩,fun hx=>?_⟩;obtain⟨_,cs',T,z',h2,h3,_⟩:=hx;rw[h1]at h2;injection h2 with h2
 injection h2 with _ h2 _
 subst h2;revert h3;decide
def NewX(n0:Nat)(w:World)(ls:List PR)(e:Ending)(w':World):Prop:=
 ∃A' c',e=.returned (.slice A' ls.length c')/\ls.length<=c'/\c'<=maxLen/\PrsX n0 w' A' c' ls/\Below w.heap.size w w'
def Acts(n0:Nat)(w:World)(f:Value)(F:List PR->List PR):Prop:=
 ∃fn lb,f=.func (.func fn) #[] lb/\Ent fn/\∀w',Off n0 w w'->∀A c a,Sm8 100000 a->a.length<=c->c<=maxLen->PrsX n0 w' A c a->Calls prog fn (#[.slice A a.length c]++lb) w' (NewX n0 w' (F a))
def Acts.off{f:Value}{F:List PR->List PR}(h:Acts n0 w f F)(ho:Off n0 w w'):Acts n0 w' f F:=by
 obtain⟨fn,lb,h1,h2,h3⟩:=h;exact⟨fn,lb,h1,h2,fun w2 h=>h3 w2 (ho.trans h)⟩
def Rws(n0:Nat)(w:World)(T:TypeId)(v:Value)(n:Nat)(xs:List Value):Prop:=
 w.ownsRow n0 T 1 v n xs/\∀g,v.ownBlock=some g->∀cs T z,w.heap[g]? =some (.cells cs T z)->NoI cs
def Rws.nil(n0:Nat)(w:World)(T:TypeId):Rws n0 w T (.slice none 0 0) 0 []:=⟨World.ownsRow_nil _ _ _ _,fun g h=>by cases h⟩
def Rws.spb{T:TypeId}{v:Value}(h:Rws n0 w T v n xs)(hT:T=92\/T=95\/T=154\/T=33\/T=105\/T=41\/T=44)(hg:v.ownBlock=some g):Sp n0 w g:=by
 rcases h.1.2 with⟨rfl,_⟩|⟨g',cap,cur,rfl,h2,h3,_⟩
 ·cases hg
 ·obtain rfl:g'=g:=by injection hg
  exact⟨h2,cur,T,_,h3,hT,h.2 g' rfl _ _ _ h3⟩
def Rws.keep{T:TypeId}{v:Value}(h:Rws n0 w T v n xs)(hk:∀g,v.ownBlock=some g->w'.heap[g]? =w.heap[g]?):Rws n0 w' T v n xs:=by
 refine⟨⟨h.1.1,?_⟩,fun g hg cs T z h'=>h.2 g hg cs T z (by rw[<- hk g hg];exact h')⟩;rcases h.1.2 with h'|⟨g,cap,cur,rfl,h2,h3,h4⟩
 ·exact .inl h'
 ·exact .inr ⟨g,cap,cur,rfl,h2,by rw[hk g rfl];exact h3,h4⟩
def Rws.on{T:TypeId}{v:Value}(h:Rws n0 w T v n xs)(hb:Below w.heap.size w w'):Rws n0 w' T v n xs:=
 h.keep fun g hg=>hb.block g (h.1.lt g hg).2
structure Jr(n0:Nat)(w:World)(J:Nat)(hs:List (List PR))(cur:List PR):Prop where
 hJ:n0<=J
 len:hs.length<=50000
 right:∀s∈hs++[cur],qJ s
 ex:∃(A:Option Addr) (c:Nat) (R:Option Addr) (cr:Nat) (fs:List Value) (Fs:List (List PR->List PR)),
  w.heap[J]? =some (.cells #[.slice A cur.length c,.slice R hs.length cr] 92 (0,0))/\cur.length<=c/\c<=maxLen/\PrsX n0 w A c cur /\
  Rws n0 w 154 (.slice R hs.length cr) hs.length fs/\Fs.length=hs.length/\(∀(i:Nat) (f:Value) (F:List PR->List PR),fs[i]? =some f->Fs[i]? =some F->Acts n0 w f F)/\(∀F∈Fs,Mild F)/\zas (hs++[cur]) Fs
def Jr.cur{J:Nat}{hs:List (List PR)}{cur:List PR}(h:Jr n0 w J hs cur):qJ cur:=h.right cur (by simp)
def xR{A A':Option Addr}{n n' c c':Nat}:NoI #[.slice A n c,.slice A' n' c']:=by
 intro x hx q y e;subst e;simp at hx
def Jr.sp{J:Nat}{hs:List (List PR)}{cur:List PR}(h:Jr n0 w J hs cur):Sp n0 w J:=by
 obtain⟨A,c,R,cr,fs,Fs,h1,_⟩:=h.ex;exact⟨h.hJ,_,92,_,h1,.inl rfl,xR⟩
def Jb(w:World)(J b:Nat):Prop:=b=J\/∃v R,w.cell? ⟨J,1,none⟩=some v/\v.ownBlock=some R/\b=R
def Jr.off{J:Nat}{hs:List (List PR)}{cur:List PR}(h:Jr n0 w J hs cur)(ho:Off n0 w w')(hk:∀b,Jb w J b->w'.heap[b]? =w.heap[b]?):Jr n0 w' J hs cur:=by
 obtain⟨A,c,R,cr,fs,Fs,h1,h2,h3,h4,h5,h7,h8,h9,h10⟩:=h.ex
 exact⟨h.hJ,h.len,h.right,A,c,R,cr,fs,Fs,by rw[hk J (.inl rfl)];exact h1,h2,h3,h4.off ho,
  h5.keep fun g hg=>hk g (.inr ⟨_,g,by simp[World.cell?,h1],hg,rfl⟩),h7,fun i f F g1 g2=>(h8 i f F g1 g2).off ho,h9,h10⟩
def Jr.jb_lt{J:Nat}{hs:List (List PR)}{cur:List PR}(h:Jr n0 w J hs cur){b:Nat}(hb:Jb w J b):b<w.heap.size/\Sp n0 w b:=by
 obtain⟨A,c,R,cr,fs,Fs,h1,h2,h3,h4,h5,_⟩:=h.ex;rcases hb with rfl|⟨v,R',g1,g2,rfl⟩
 ·exact⟨h.sp.lt,h.sp⟩
 ·have:v=.slice R hs.length cr:=by
   have e:w.cell? ⟨J,1,none⟩=some (.slice R hs.length cr):=by simp[World.cell?,h1]
   rw[e]at g1;injection g1 with g1
   exact g1.symm
  subst this;have:=h5.spb (.inr (.inr (.inl rfl))) g2;exact⟨this.lt,this⟩
def Jr.on{J:Nat}{hs:List (List PR)}{cur:List PR}(h:Jr n0 w J hs cur)(hb:Below w.heap.size w w'):Jr n0 w' J hs cur:=
 h.off (.of hb) fun b h'=>hb.block b (h.jb_lt h').1
def zvn:Ent 268:=by intro args w;simp
def zv7:Ent 271:=by intro args w;simp
def zvq:Ent 272:=by intro args w;simp
def Sm8.sml{a:List PR}(h:Sm8 100000 a):Sml a:=⟨by have:=h.1;omega,h.2⟩
def NewF.x{ls:List PR}{e:Ending}(h:NewF w ls e w'):NewX n0 w ls e w':=by
 obtain⟨A',c',h1,h2,h3,h4,h5,h6⟩:=h;exact⟨A',c',h1,h2,h3,⟨h4.here,h5.off⟩,h6⟩
def Box(w:World)(K:Nat)(v:Value):Prop:=w.heap[K]? =some (.cells #[v] 22 (0,0))
def Box.off{K:Nat}{v:Value}(h:Box w K v)(ho:Off n0 w w'):Box w' K v:=by
 unfold Box at *
 rw[ho.block K (aU.1 h).1 (fun hx=>by
  obtain⟨_,cs',T,z',h2,h3,_⟩:=hx;rw[h]at h2;injection h2 with h2
  injection h2 with _ h2 _
  subst h2;revert h3
  decide) (.inr ⟨_,_,_,h⟩)]
 exact h
def Box.cell{K:Nat}{v:Value}(h:Box w K v):w.cell? ⟨K,0,none⟩=some v:=by unfold Box at h;simp[World.cell?,h]
def Box.new(w:World)(v:Value):Box (w.alloc (.cells #[v] 22)) w.heap.size v:=ye w _
def zd6(n0:Nat)(w:World)(K:Nat)(Ak:Option Addr)(key:List Int)(ck:Nat)(hb:Box w K (.slice Ak key.length ck))(hk:SB w w.heap.size (.slice Ak key.length ck) key):Acts n0 w (.func (.func 268) #[] #[.pointer (some ⟨K,0,none⟩)]) (fun a=>delM a key):=by
 refine⟨268,_,rfl,zvn,fun w' ho A c a hsm hc hm hp=>?_⟩;show Calls prog 268 #[.slice A a.length c,.pointer (some ⟨K,0,none⟩)] w' _;have hcell:=(hb.off ho).cell;have K1:=aQ (delC A a c Ak key ck w' hp.1 hc hm (hk.off ho) hsm.sml);clear hp hk hb ho hsm;unfold maxLen at hm;go_enter func268,ntmps268
 go_wp2_with fail
 (with_reducible refine K1.out.mono ?_)
 rintro e w2 h;have h:=h.x (n0:=n0);obtain⟨A',c',rfl,h2⟩:=h;have H2:=aQ h2;clear h2;go_wp2;go_ret;exact⟨A',c',rfl,H2.out⟩
def zdz(n0:Nat)(w:World)(K V:Nat)(Ak:Option Addr)(key:List Int)(ck:Nat)(Av:Option Addr)(val:List Int)(cv:Nat)
  (hb:Box w K (.slice Ak key.length ck)) (hk:SB w w.heap.size (.slice Ak key.length ck) key) (hbv:Box w V (.slice Av val.length cv)) (hv:SB w w.heap.size (.slice Av val.length cv) val) :
  Acts n0 w (.func (.func 271) #[] #[.pointer (some ⟨K,0,none⟩),.pointer (some ⟨V,0,none⟩)]) (fun a=>putR a key val):=by
 refine⟨271,_,rfl,zv7,fun w' ho A c a hsm hc hm hp=>?_⟩;show Calls prog 271 #[.slice A a.length c,.pointer (some ⟨K,0,none⟩),.pointer (some ⟨V,0,none⟩)] w' _;have hcell:=(hb.off ho).cell;have hcell2:=(hbv.off ho).cell;have K1:=aQ (putC A a c Ak key ck Av val cv w' hp.1 hc hm (hk.off ho) (hv.off ho) hsm.sml hsm.1);clear hp hk hb ho hsm hbv hv;unfold maxLen at hm;dsimp only
 generalize putR a key val=r at *
 generalize putE a key val=E at *
 go_enter func271,ntmps271
 go_wp2_with fail
 (with_reducible refine K1.out.mono ?_)
 rintro e w2⟨A',c',rfl,h1,h2,h3,h4,h5⟩;have H2:Hid (r.length<=c'/\c'<=maxLen/\PrsX n0 w2 A' c' r/\Below w'.heap.size w' w2):=⟨h1,h2,⟨h3.here,h4.off⟩,h5⟩;clear h1 h2 h3 h4 h5;go_wp2;go_ret;exact⟨A',c',rfl,H2.out⟩
def yl(n0:Nat)(w:World):Acts n0 w (.func (.func 272) #[] #[]) (fun a=>a):=by
 refine⟨272,_,rfl,zvq,fun w' ho A c a hsm hc hm hp=>?_⟩;show Calls prog 272 #[.slice A a.length c] w' _;have HP:=aQ hp;have HM:=aQ hm;clear hp ho hsm;unfold maxLen at hm;go_enter func272,ntmps272;go_wp2;go_ret;exact⟨A,c,rfl,hc,HM.out,HP.out,Below.refl _ _⟩
def NewA(n0:Nat)(w:World)(F:List PR->List PR)(e:Ending)(w':World):Prop:=
 ∃fn lb,e=.returned (.func (.func fn) #[] lb)/\Acts n0 w' (.func (.func fn) #[] lb) F/\Below w.heap.size w w'
def zn1(n0:Nat)(Ak:Option Addr)(key:List Int)(ck:Nat)(w:World)(hk:SB w w.heap.size (.slice Ak key.length ck) key)(hl:key.length<=200000):Calls prog 233 #[.slice Ak key.length ck] w (NewA n0 w fun a=>delM a key):=by
 have HY:=aQ hk.byt;have K1:Hid (Calls prog 48 #[.slice Ak key.length ck] w (jG w key)):=by
  obtain⟨_,_,e2,_,_,g2,_⟩:=hk;injection e2 with e2 _ e2'
  subst e2 e2';exact zbq _ key _ w g2 (by omega)
 clear hk;go_enter func233,ntmps233
 go_wp2_with fail
 (with_reducible refine K1.out.mono ?_)
 rintro e w2⟨v,rfl,h2,h3⟩;obtain⟨A,c,rfl,g⟩:=zd4 h2 HY.out;have hb:=za w2 (.cells #[.slice A key.length c] 22)
 have HA:Hid (Acts n0 (w2.alloc (.cells #[.slice A key.length c] 22)) (.func (.func 268) #[] #[.pointer (some ⟨w2.heap.size,0,none⟩)]) (fun a=>delM a key)):=
  zd6 n0 _ _ A key c (Box.new w2 _) (SB.on ⟨A,c,rfl,g⟩ hb)
 have HB:Hid (Below w.heap.size w (w2.alloc (.cells #[.slice A key.length c] 22))):=h3.trans (hb.mono h3.size);clear h2 h3 hb g;go_wp2;go_ret;exact⟨_,_,rfl,HA.out,HB.out⟩
def zhh(n0:Nat)(Ak:Option Addr)(key:List Int)(ck:Nat)(Av:Option Addr)(val:List Int)(cv:Nat)(w:World)(hk:SB w w.heap.size (.slice Ak key.length ck) key)(hl:key.length<=200000)(hv:SB w w.heap.size (.slice Av val.length cv) val):Calls prog 235 #[.slice Ak key.length ck,.slice Av val.length cv] w (NewA n0 w fun a=>putR a key val):=by
 have HY:=aQ hk.byt;have hb0:=za w (.cells #[.slice Av val.length cv] 22)
 have HV:Hid (Box (w.alloc (.cells #[.slice Av val.length cv] 22)) w.heap.size (.slice Av val.length cv)/\SB (w.alloc (.cells #[.slice Av val.length cv] 22)) (w.alloc (.cells #[.slice Av val.length cv] 22)).heap.size (.slice Av val.length cv) val/\Below w.heap.size w (w.alloc (.cells #[.slice Av val.length cv] 22))):=
  ⟨Box.new w _,hv.on hb0,hb0⟩
 have K1:Hid (Calls prog 48 #[.slice Ak key.length ck] (w.alloc (.cells #[.slice Av val.length cv] 22)) (jG (w.alloc (.cells #[.slice Av val.length cv] 22)) key)):=by
  obtain⟨_,_,e2,_,_,g2,_⟩:=hk.on hb0;injection e2 with e2 _ e2'
  subst e2 e2';exact zbq _ key _ _ g2 (by omega)
 clear hk hv hb0;go_enter func235,ntmps235
 go_wp2_with fail
 (with_reducible refine K1.out.mono ?_)
 rintro e w2⟨v,rfl,h2,h3⟩;obtain⟨A,c,rfl,g⟩:=zd4 h2 HY.out;have hb:=za w2 (.cells #[.slice A key.length c] 22)
 have HA:Hid (Acts n0 (w2.alloc (.cells #[.slice A key.length c] 22)) (.func (.func 271) #[] #[.pointer (some ⟨w2.heap.size,0,none⟩),.pointer (some ⟨w.heap.size,0,none⟩)]) (fun a=>putR a key val)):=
  zdz n0 _ _ _ A key c Av val cv (Box.new w2 _) (SB.on ⟨A,c,rfl,g⟩ hb) (((HV.out.1.off (n0:=n0) (.of h3)).off (n0:=n0) (.of hb))) ((HV.out.2.1.on h3).on hb)
 have HB:Hid (Below w.heap.size w (w2.alloc (.cells #[.slice A key.length c] 22))):=(HV.out.2.2.trans (h3.mono HV.out.2.2.size)).trans (hb.mono (aT HV.out.2.2.size h3.size));clear h2 h3 hb g;go_wp2;go_ret;exact⟨_,_,rfl,HA.out,HB.out⟩
def zph(n0:Nat)(w:World):Calls prog 237 #[] w fun e w'=>e=.returned (.func (.func 272) #[] #[])/\w=w':=by
 go_enter func237,ntmps237;go_wp2;go_ret;exact⟨rfl,rfl⟩
def zc8{z:Array Value}{x:Value}(h:x∈Builtin.zeroCells z n)(hz:0<z.size):x∈z:=by
 unfold Builtin.zeroCells at h;rw[Array.mem_map]at h;obtain⟨i,_,rfl⟩:=h;have hi:i % z.size<z.size:=Nat.mod_lt _ hz;rw[getElem!_pos z _ hi];exact Array.getElem_mem hi
def NoI.append{a b:Array Value}(ha:NoI a)(hb:NoI b):NoI (a++b):=fun x hx=>(Array.mem_append.1 hx).elim (ha x) (hb x)
def NoI.zero{z:Array Value}(hz:NoI z)(h0:0<z.size)(n:Nat):NoI (Builtin.zeroCells z n):=fun x hx=>hz x (zc8 hx h0)
def NoI.list{l:List Value}(h:∀x∈l,∀(_:Unit) y,x≠Value.int .u8 y):NoI l.toArray:=fun x hx=>h x (by simpa using hx)
def NoI.at{T:TypeId}{v:Value}(h:Rws n0 w T v n xs):∀x∈xs,∀(_:Unit) y,x≠Value.int .u8 y:=by
 intro x hx;rcases h.1.2 with⟨rfl,h2⟩|⟨g,cap,cur,rfl,h2,h3,_,_,_,h4⟩
 ·have:xs=[]:=List.eq_nil_of_length_eq_zero (by rw[h.1.1];omega);subst this;cases hx
 ·exact h.2 g rfl _ _ _ h3 x (by rw[<- h4]at hx;exact Array.mem_toList_iff.1 (List.mem_of_mem_take hx))
def zoz{v v':Value}(h:Rws n0 w e v n xs)(hT:e=92\/e=95\/e=154\/e=33\/e=105\/e=41\/e=44)(hv:v.ownBlock=some g)(hv':v'.ownBlock=some g)(hR:Rws n0 w' e v' m ys)(hg:w.grownBy w' (some g)):Rws n0 w' e v' m ys/\w.grownBy w' v.ownBlock/\Off n0 w w'/\∀g,v'.ownBlock=some g->v.ownBlock=some g\/w.heap.size<=g:=⟨hR,by rw[hv];exact hg,.grown hg (h.spb hT hv) (hR.spb hT hv'),fun i hi=>.inl (by rw[hv,<- hv'];exact hi)⟩
def Rws.app{P:Program}(w:World)(t ty e:TypeId)(i:TypeInfo)(z:Value)(bytes:Nat)(ht:P.underlying t=some (.slice e))(hi:P.info? e=some i)(hz:i.zero=some z)
  (hsize:i.size=1) (hby:i.bytes=bytes) (hzs:z.cells.size=1) (hzn:NoI z.cells)
  (hT:e=92\/e=95\/e=154\/e=33\/e=105\/e=41\/e=44) {v:Value} (h:Rws n0 w e v n xs)
  (a:Addr) (m c:Nat) (news:List Value) (hl:news.length=m) (hm0:0<m) (hnews:∀j u,news[j]? =some u->w.cell? (a.add j)=some u) (h1:∀u∈news,u.oneCell'=true) (hnn:∀x∈news,∀(_:Unit) y,x≠Value.int .u8 y)
  (h63:n+m<=maxLen) (hbytes:(n+m)*bytes<=140737488355328) (hbase:n0<=w.heap.size) :
  ∃v' w',(Builtin.append_ #[t,t] ty #[v,.slice (some a) m c]).run P w=.ok v' w'/\Rws n0 w' e v' (n+m) (xs++news)/\w.grownBy w' v.ownBlock/\Off n0 w w'/\∀g,v'.ownBlock=some g->v.ownBlock=some g\/w.heap.size<=g:=by
 subst hby;have hown:=h.1;have hxn:=NoI.at h;have hsmall:n+m<=9223372036854775807:=by simp only[maxLen]at h63;omega
 have hlen:(xs++news).length=(n+m)*1:=by rw[aA,hown.1,hl];omega
 have grown:∀(old:Nat),old<n+m->∀(row:Option Nat),
   Rws n0 (w.drew.alloc (.cells (xs.toArray++news.toArray++Builtin.zeroCells z.cells (grownCap w (n+m) old e-(n+m))) e)) e
    (.slice (some ⟨w.heap.size,0,none⟩) (n+m) (grownCap w (n+m) old e)) (n+m) (xs++news) /\
   w.grownBy (w.drew.alloc (.cells (xs.toArray++news.toArray++Builtin.zeroCells z.cells (grownCap w (n+m) old e-(n+m))) e)) row:=by
  intro old ho row;have hge:=grownCap_ge w (n+m) old e;have hcm:grownCap w (n+m) old e<=maxLen:=grownCap_le_maxLen w (n+m) old e h63;have hnew:(w.drew.alloc (.cells (xs.toArray++news.toArray++Builtin.zeroCells z.cells (grownCap w (n+m) old e-(n+m))) e)).heap[w.heap.size]? =some (.cells (xs.toArray++news.toArray++Builtin.zeroCells z.cells (grownCap w (n+m) old e-(n+m))) e (0,0)):=ye w.drew _;refine⟨⟨⟨hlen,.inr ⟨w.heap.size,_,_,rfl,hbase,hnew,hge,hcm,?_,?_⟩⟩,fun g hg cs T z' h'=>?_⟩,⟨rfl,rfl,rfl,by simp,fun k hk _=>Below.heap_alloc w.drew _ k hk⟩⟩
  ·simp only[Array.size_append,List.size_toArray,size_zeroCells,hzs,hown.1,hl];omega
  ·simp only[Array.toList_append,List.append_assoc];rw[<- List.append_assoc,<- hlen];exact List.take_left
  ·obtain rfl:w.heap.size=g:=by injection hg
   rw[hnew]at h';injection h' with h'
   injection h' with h' _ _
   subst h';exact((NoI.list hxn).append (NoI.list hnn)).append (NoI.zero hzn (by omega) _)
 rcases hown.2 with⟨rfl,rfl⟩|⟨g,cap,cur,rfl,hbg,hg,hnc,hcm,hcs,htake⟩
 ·have hx:xs=[]:=List.eq_nil_of_length_eq_zero (by simpa using hown.1);subst hx;have hoff:=Off.of (n0:=n0) ((Below.refl w.heap.size w).grown (grown 0 (by omega) none).2 (aR _) (fun k hk=>by cases hk));have hr:=run_append_nil (P:=P) w t ty e i z ht hi hz a m c news (by rw[hl,hsize,Nat.mul_one]) hnews (by omega) (by omega) (by have hb:=hbytes;simp only[Nat.zero_add]at hb;omega);have hgr:=grown 0 (by omega) (Value.ownBlock (.slice none 0 0));simp only[Nat.zero_add,List.nil_append,Array.empty_append]at hgr hoff⊢;exact⟨_,_,hr,hgr.1,hgr.2,hoff,fun i hi=>.inr (Nat.le_of_eq (Option.some.inj hi))⟩
 ·by_cases hroom:n+m<=cap
  ·have hfit:n*i.size+news.length<=cur.size:=by rw[hl,hcs,hsize];omega
   have hr:=run_append_room (P:=P) w t ty e i ht hi g n cap cur hg a m c news (by rw[hl,hsize,Nat.mul_one]) hnews h1 hroom hfit;refine⟨_,_,hr,zoz h hT rfl rfl ⟨⟨hlen,.inr ⟨g,cap,_,rfl,hbg,setRow_heap w g cur _ e _ hg,hroom,hcm,?_,?_⟩⟩,fun g' hg' cs T z' h'=>?_⟩ ⟨rfl,rfl,rfl,by simp,fun k _ hk=>setRow_other w g k _ (fun e=>hk (by simp[e]))⟩⟩
   ·simp only[List.size_toArray,aA,aI,aH,Array.length_toList];rw[hsize];omega
   ·rw[hsize,htake,<- hlen];exact List.take_left
   ·obtain rfl:g=g':=by injection hg'
    rw[setRow_heap w g cur _ e _ hg]at h';injection h' with h'
    injection h' with h' _ _
    subst h';have hc:=h.2 g rfl _ _ _ hg;refine NoI.list fun x hx=>?_;rcases List.mem_append.1 hx with e|e
    ·rcases List.mem_append.1 e with e|e
     ·exact hc x (Array.mem_toList_iff.1 (List.mem_of_mem_take e))
     ·exact hnn x e
    ·exact hc x (Array.mem_toList_iff.1 (List.mem_of_mem_drop e))
  ·have holds:∀j u,xs[j]? =some u->w.cell? ((⟨g,0,none⟩:Addr).add j)=some u:=hown.cells (g:=g) rfl;have hr:=run_append_grow (P:=P) w t ty e i z ht hi hz ⟨g,0,none⟩ n cap xs (by rw[hown.1,hsize]) holds a m c news (by rw[hl,hsize,Nat.mul_one]) hnews (by omega) (by omega) (growslice_fits (by omega) hbytes);have hgr:=grown cap (by omega) (Value.ownBlock (.slice (some ⟨g,0,none⟩) n cap));exact⟨_,_,hr,hgr.1,hgr.2,.of ((Below.refl w.heap.size w).grown (grown cap (by omega) none).2 (aR _) (fun k hk=>by cases hk)),fun i hi=>.inr (Nat.le_of_eq (Option.some.inj hi))⟩
def Rws.wpList{P:Program}{ops:Array Oper}{rest:List Oper}{o:Oper}{a:Act}{Q:Exit->Act->World->Prop}(hgd:o.guard=none)(s x:Operand)(t:TypeId)
  (ho:o.op=.call { callee:=.builtin .append,args:=#[s,x],argTypes:=#[t,t] })
  (e:TypeId) (i:TypeInfo) (z:Value) (bytes:Nat) (ht:P.underlying t=some (.slice e)) (hi:P.info? e=some i) (hz:i.zero=some z)
  (hsize:i.size=1) (hby:i.bytes=bytes) (hzs:z.cells.size=1) (hzn:NoI z.cells)
  (hT:e=92\/e=95\/e=154\/e=33\/e=105\/e=41\/e=44) {v:Value} (hs:a.eval s=v) (h:Rws n0 w e v n xs)
  (ad:Addr) (m c:Nat) (news:List Value) (hx:a.eval x=.slice (some ad) m c) (hl:news.length=m) (hm0:0<m) (hnews:∀j u,news[j]? =some u->w.cell? (ad.add j)=some u) (h1:∀u∈news,u.oneCell'=true) (hnn:∀x∈news,∀(_:Unit) y,x≠Value.int .u8 y)
  (h63:n+m<=maxLen) (hbytes:(n+m)*bytes<=140737488355328) (hbase:n0<=w.heap.size)
  (hK:∀v' w',Rws n0 w' e v' (n+m) (xs++news)->w.grownBy w' v.ownBlock->Off n0 w w'->(∀g,v'.ownBlock=some g->v.ownBlock=some g\/w.heap.size<=g)->wpList P ops Q rest (a.put o.dst v') w'):wpList P ops Q (o::rest) a w:=by
 refine wpList_plain hgd fun K hK'=>?_;obtain⟨v',w',hr,h2,h3,h5,h6⟩:=h.app (P:=P) w t o.type e i z bytes ht hi hz hsize hby hzs hzn hT ad m c news hl hm0 hnews h1 hnn h63 hbytes hbase;unfold Oper.wp execOp;simp only[ho,resolve,invoke,builtin,Sem.run_bind,Sem.run_pure,Result.andThen_ok,List.map_toArray,List.map_cons,List.map_nil,hs,hx,hr];exact hK' _ _ (hK v' w' h2 h3 h5 h6)
def zo4:(prog.info? 154).map (fun i=>(i.zero,i.size,i.bytes))=some (some (Value.nilFunc),1,8):=by kernel_rfl
def kL{J:Nat}{a b:Value}{T:TypeId}(h:w.heap[J]? =some (.cells #[a,b] T (0,0)))(u:Value):(w.setCell ⟨J,0,none⟩ u).heap[J]? =some (.cells #[u,b] T (0,0))/\(w.setCell ⟨J,1,none⟩ u).heap[J]? =some (.cells #[a,u] T (0,0)):=
 ⟨heap_setCell_same w J 0 _ T u h,heap_setCell_same w J 1 _ T u h⟩
def kO{J:Nat}{a b:Value}{T:TypeId}(h:w.heap[J]? =some (.cells #[a,b] T (0,0))):w.cell? ⟨J,0,none⟩=some a/\w.cell? ⟨J,1,none⟩=some b/\w.frozen? ⟨J,0,none⟩=false/\w.frozen? ⟨J,1,none⟩=false:=by
 refine⟨?_,?_,?_,?_⟩<;>simp[World.cell?,World.frozen?,h]
def qi(w:World)(a:Addr)(v:Value):(w.setCell a v).heap.size=w.heap.size:=by simp[World.setCell]
def zf(w:World)(J k b:Nat)(v:Value)(h:b≠J):(w.setCell ⟨J,k,none⟩ v).heap[b]? =w.heap[b]?:=Below.heap_setCell _ _ _ _ h
def Off.set2{J k:Nat}{v:Value}(hJ:Sp n0 w J)(hJ':Sp n0 (w.setCell ⟨J,k,none⟩ v) J):Off n0 w (w.setCell ⟨J,k,none⟩ v):=
 .grown ⟨rfl,rfl,rfl,by rw[qi];exact aR _,fun i _ hi=>zf _ _ _ _ _ fun e=>hi (by rw[e])⟩ hJ hJ'
def jV{a b:Nat}{cs cs':Array Value}{T T':TypeId}{z z':Nat×Nat}(h:w.heap[a]? =some (.cells cs T z))(h':w.heap[b]? =some (.cells cs' T' z'))(hT:T≠T'):a≠b:=by
 intro e;subst e;rw[h]at h';injection h' with h'
 injection h' with _ h' _
 exact hT h'
def Rws.tag{T:TypeId}{v:Value}(h:Rws n0 w T v n xs)(hg:v.ownBlock=some g):∃cs,w.heap[g]? =some (.cells cs T (0,0)):=by
 rcases h.1.2 with⟨rfl,_⟩|⟨g',cap,cur,rfl,h2,h3,_⟩
 ·cases hg
 ·obtain rfl:g'=g:=by injection hg
  exact⟨cur,h3⟩
def Ch(w:World)(J:Nat)(w':World):Prop:=(∀b,b<w.heap.size->¬Jb w J b->w'.heap[b]? =w.heap[b]?)/\∀b,Jb w' J b->Jb w J b\/w.heap.size<=b
def Chd(n0 J:Nat)(w:World)(hs:List (List PR))(cur:List PR)(w':World):Prop:=Off n0 w w'/\Ch w J w'/\Jr n0 w' J hs cur
def zc6(n0:Nat)(w:World)(J:Nat)(hs:List (List PR))(cur nxt:List PR)(A:Option Addr)(c fn:Nat)(lb:Array Value)(F:List PR->List PR)(h:Jr n0 w J hs cur)
  (hr:qJ nxt) (hc:nxt.length<=c) (hm:c<=maxLen) (hp:PrsX n0 w A c nxt) (ha:Acts n0 w (.func (.func fn) #[] lb) F) (hM:Mild F) (hF:F nxt=cur) (hl:hs.length<50000) :
  Calls prog 236 #[.pointer (some ⟨J,0,none⟩),.slice A nxt.length c,.func (.func fn) #[] lb] w fun e w'=>e=.returned (.tuple #[])/\Chd n0 J w (hs++[cur]) nxt w':=by
 obtain⟨A1,c1,R,cr,fs,Fs,h1,h2,h3,h4,h5,h7,h8,h9,h10⟩:=h.ex;obtain⟨g0,g1,g2,g3⟩:=kO h1;obtain⟨i0,hi,hz0,hz1,hz2⟩:=info_parts zo4;have hsp:=h.sp;have hJlt:=hsp.lt;have h1':=(kL h1 (.slice A nxt.length c)).1;have hsz:=qi w ⟨J,0,none⟩ (.slice A nxt.length c);have hsp1:Sp n0 (w.setCell ⟨J,0,none⟩ (.slice A nxt.length c)) J:=⟨h.hJ,_,92,_,h1',.inl rfl,xR⟩;have o1:Off n0 w (w.setCell ⟨J,0,none⟩ (.slice A nxt.length c)):=Off.set2 hsp hsp1;have hb:=za (w.setCell ⟨J,0,none⟩ (.slice A nxt.length c)) (.cells #[.func (.func fn) #[] lb] 154);have hRJ:∀g,(Value.slice R hs.length cr).ownBlock=some g->g≠J:=fun g hg=>by
  obtain⟨cs,ht⟩:=h5.tag hg;exact jV ht h1 (by decide)
 have hN:=cell_one_new (w.setCell ⟨J,0,none⟩ (.slice A nxt.length c)) (.func (.func fn) #[] lb) 154;rw[hsz]at hN;have HN:=aQ hN
 have hR1:Rws n0 ((w.setCell ⟨J,0,none⟩ (.slice A nxt.length c)).alloc (.cells #[.func (.func fn) #[] lb] 154)) 154 (.slice R hs.length cr) hs.length fs:=
  Rws.on (h5.keep fun g hg=>zf _ _ _ _ _ (hRJ g hg)) hb
 have HO:=aQ hR1
 have HR:Hid (Off n0 w ((w.setCell ⟨J,0,none⟩ (.slice A nxt.length c)).alloc (.cells #[.func (.func fn) #[] lb] 154))/\((w.setCell ⟨J,0,none⟩ (.slice A nxt.length c)).alloc (.cells #[.func (.func fn) #[] lb] 154)).heap[J]? =some (.cells #[.slice A nxt.length c,.slice R hs.length cr] 92 (0,0))/\n0<=((w.setCell ⟨J,0,none⟩ (.slice A nxt.length c)).alloc (.cells #[.func (.func fn) #[] lb] 154)).heap.size/\J<((w.setCell ⟨J,0,none⟩ (.slice A nxt.length c)).alloc (.cells #[.func (.func fn) #[] lb] 154)).heap.size/\(∀b,b<w.heap.size->b≠J->((w.setCell ⟨J,0,none⟩ (.slice A nxt.length c)).alloc (.cells #[.func (.func fn) #[] lb] 154)).heap[b]? =w.heap[b]?)/\w.heap.size<=((w.setCell ⟨J,0,none⟩ (.slice A nxt.length c)).alloc (.cells #[.func (.func fn) #[] lb] 154)).heap.size):=
  ⟨o1.then hb,by rw[hb.block J (by rw[hsz];exact hJlt)];exact h1',by have:=h.hJ;rw[aE,hsz];omega,by rw[aE,hsz];omega,
   fun b hb' hbJ=>by rw[hb.block b (by rw[hsz];exact hb')];exact zf _ _ _ _ _ hbJ,by rw[aE,hsz];omega⟩
 have HP:=aQ hp;have HA:=aQ ha;have HFF:Hid (qJ nxt/\Mild F/\F nxt=cur/\c<=maxLen):=⟨hr,hM,hF,hm⟩;have HE:Hid (Fs.length=hs.length/\(∀(i:Nat) (f:Value) (F:List PR->List PR),fs[i]? =some f->Fs[i]? =some F->Acts n0 w f F)/\(∀F∈Fs,Mild F)/\zas (hs++[cur]) Fs/\fs.length=hs.length):=⟨h7,h8,h9,h10,by have:=h5.1.1;omega⟩;have HJ:Hid (n0<=J/\(∀s∈hs++[cur],qJ s)/\(∀g,(Value.slice R hs.length cr).ownBlock=some g->g≠J)/\w.cell? ⟨J,1,none⟩=some (.slice R hs.length cr)/\∀g,(Value.slice R hs.length cr).ownBlock=some g->g<w.heap.size):=⟨h.hJ,h.right,hRJ,g1,fun g hg=>(h5.1.lt g hg).2⟩;clear hsz hsp hsp1 hN h h1 h2 h3 h4 h5 h7 h8 h9 h10 h1' o1 hb hR1 hp ha hr hM hF hm hRJ;go_enter func236,ntmps236
 go_wp2_with(at_builtin;refine Rws.wpList (n0:=n0) rfl (.tmp 14) (.tmp 16) 90 rfl 154 i0 _ 8 underlying90 hi hz0 hz1 hz2 rfl (NoI.list (l:=[Value.nilFunc]) (by simp)) (.inr (.inr (.inl rfl))) rfl HO.out ⟨w.heap.size,0,none⟩ 1 1 [.func (.func fn) #[] lb] rfl rfl (by omega) HN.out (by simp[Value.oneCell']) (by simp) (by unfold maxLen;omega) (by omega) HR.out.2.2.1 ?_;intro v' w2 ho2 hg2 hoff hrow;refine Hid.out ?_)
 obtain⟨R',cr',rfl,k1,k2,k3⟩:=xG ho2.1;have hJ2:w2.heap[J]? =some (.cells #[.slice A nxt.length c,.slice R hs.length cr] 92 (0,0)):=by
  rw[hg2.block J HR.out.2.2.2.1 fun e=>HJ.out.2.2.1 J e.symm rfl];exact HR.out.2.1
 obtain⟨q0,q1,q2,q3⟩:=kO hJ2;have h3:=(kL hJ2 (.slice R' (hs.length+1) cr')).2;have hsp2:Sp n0 w2 J:=⟨HJ.out.1,_,92,_,hJ2,.inl rfl,xR⟩;have hsp3:Sp n0 (w2.setCell ⟨J,1,none⟩ (.slice R' (hs.length+1) cr')) J:=⟨HJ.out.1,_,92,_,h3,.inl rfl,xR⟩;have HROW:=aQ hrow;clear hrow;have hof:Off n0 w (w2.setCell ⟨J,1,none⟩ (.slice R' (hs.length+1) cr')):=(HR.out.1.trans hoff).trans (Off.set2 hsp2 hsp3);have HF:Hid (Chd n0 J w (hs++[cur]) nxt (w2.setCell ⟨J,1,none⟩ (.slice R' (hs.length+1) cr'))):=by
  refine⟨hof,⟨fun b hb hnb=>?_,fun b hb=>?_⟩,HJ.out.1,by simp;omega,fun s hs'=>?_,A,c,R',cr',fs++[.func (.func fn) #[] lb],Fs++[F],by simpa using h3,hc,HFF.out.2.2.2,HP.out.off hof,?_,by simp[HE.out.1],fun i f G h1 h2=>?_,fun G hG=>?_,?_⟩
  ·have hbJ:b≠J:=fun e=>hnb (.inl e);rw[zf _ _ _ _ _ hbJ,hg2.block b (aS hb HR.out.2.2.2.2.2) fun e=>hnb (.inr ⟨_,b,HJ.out.2.2.2.1,e.symm,rfl⟩)];exact HR.out.2.2.2.2.1 b hb hbJ
  ·rcases hb with rfl|⟨v,g,e1,e2,rfl⟩
   ·exact .inl (.inl rfl)
   ·have e3:(w2.setCell ⟨J,1,none⟩ (.slice R' (hs.length+1) cr')).cell? ⟨J,1,none⟩=some (.slice R' (hs.length+1) cr'):=by simp[World.cell?,h3]
    rw[e3]at e1;injection e1 with e1
    subst e1;rcases HROW.out b e2 with e4|e4
    ·exact .inl (.inr ⟨_,b,HJ.out.2.2.2.1,e4,rfl⟩)
    ·exact .inr (aT HR.out.2.2.2.2.2 e4)
  ·rcases List.mem_append.1 hs' with e|e
   ·exact HJ.out.2.1 s e
   ·obtain rfl:s=nxt:=by simpa using e
    exact HFF.out.1
  ·have hk:Rws n0 (w2.setCell ⟨J,1,none⟩ (.slice R' (hs.length+1) cr')) 154 (.slice R' (hs.length+1) cr') (hs.length+1) (fs++[.func (.func fn) #[] lb]):=ho2.keep fun g hg=>by
    obtain⟨cs,ht⟩:=ho2.tag hg;exact zf _ _ _ _ _ (jV ht hJ2 (by decide))
   simpa using hk
  ·rcases Nat.lt_or_ge i fs.length with hi|hi
   ·rw[aF hi]at h1;rw[aF (by rw[HE.out.1,<- HE.out.2.2.2.2];exact hi)]at h2;exact(HE.out.2.1 i f G h1 h2).off hof
   ·have hii:i=fs.length:=by have:=(vm.1 h1).1;simp at this;omega
    subst hii;rw[aG (aR _)]at h1;rw[HE.out.2.2.2.2,<- HE.out.1,aG (aR _)]at h2;simp at h1 h2;subst h1 h2;exact HA.out.off hof
  ·rcases List.mem_append.1 hG with e|e
   ·exact HE.out.2.2.1 G e
   ·obtain rfl:G=F:=by simpa using e
    exact HFF.out.2.1
  ·exact zi2 HE.out.2.2.2.1 HE.out.1 HFF.out.2.2.1
 clear hof hsp3 hsp2 h3 hJ2 k3 ho2 hg2 hoff;refine aQ ?_;go_wp2
 go_end0
 exact⟨rfl,HF.out⟩
end
end
end Go.Proofs.YtcilgkdnjgmogaaGreatDoor
