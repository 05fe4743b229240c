/- A part of the proof. -/
import Derived.Test.YtcilgkdnjgmogaaGreatDoorYB
import Derived.WalkKit
import Derived.Laws.BitsAllLaws
import Derived.WalkSpells
import Derived.WalkLawsBesides
import Derived.Lib.Hide
import Derived.Outline
import Derived.Laws.BytesArg
import Derived.Laws.AppendOwnNone
import Derived.Deep.QuietTactic
import Derived.BigQuiet
import Derived.Deep.DeepCutAuto
import Derived.Deep.RegionHeld3
namespace Go.Proofs.YtcilgkdnjgmogaaGreatDoor
open Go.Proofs.Tryz
set_option maxRecDepth 100000
set_option maxHeartbeats 12800000
set_option linter.all false
variable {i k:Nat}
section
section
open Go.RowKit
def be(n:Int)(top k:Nat):List Int:=(List.range k).map fun j=>n / 2 ^ (8*(top-j)) % 256
def kj{α:Type}{ls:List α}{l:α}(h:ls[k]? =some l):ls.take (k+1)=ls.take k++[l]:=by
 rw[List.take_add_one,h];rfl
def val(l:List Int):Int:=l.foldl (fun a b=>a*256+b) 0
abbrev PR:=List Int×List Int
def cmpB:List Int->List Int->Int
 | [],[]=>0
 | [],_::_=>-1
 | _::_,[]=>1
 | a::as1,b::bs=>if a<b then -1 else if b<a then 1 else cmpB as1 bs
def zbz:∀(a b:List Int),cmpB a b=-1\/cmpB a b=0\/cmpB a b=1
 | [],[]=>by simp[cmpB]
 | [],_::_=>by simp[cmpB]
 | _::_,[]=>by simp[cmpB]
 | a::as1,b::bs=>by
  unfold cmpB;by_cases h:a<b
  ·simp[h]
  ·by_cases h':b<a
   ·simp[h,h']
   ·simp only[h,h',if_false];exact zbz as1 bs
def kd:∀(a:List Int),cmpB a a=0
 | []=>rfl
 | a::as1=>by simp[cmpB,kd as1]
def zex:∀ {a b:List Int},cmpB a b=0->a=b
 | [],[],_=>rfl
 | [],_::_,h=>by simp[cmpB]at h
 | _::_,[],h=>by simp[cmpB]at h
 | a::as1,b::bs,h=>by
  unfold cmpB at h;by_cases h1:a<b
  ·simp[h1]at h
  ·by_cases h2:b<a
   ·simp[h1,h2]at h
   ·simp only[h1,h2,if_false]at h;rw[zex h,show a=b by omega]
def wL:∀(a b:List Int),cmpB b a=- cmpB a b
 | [],[]=>by simp[cmpB]
 | [],_::_=>by simp[cmpB]
 | _::_,[]=>by simp[cmpB]
 | a::as1,b::bs=>by
  unfold cmpB;by_cases h:a<b
  ·have:¬b<a:=by omega
   simp[h,this]
  ·by_cases h':b<a
   ·simp[h,h']
   ·simp only[h,h',if_false];exact wL as1 bs
def yo:∀ {a b c:List Int},cmpB a b<0->cmpB b c<0->cmpB a c<0
 | _,[],[],_,h=>by simp[cmpB]at h
 | _,_::_,[],_,h=>by simp[cmpB]at h
 | [],[],_::_,h,_=>by simp[cmpB]at h
 | _::_,[],_::_,h,_=>by simp[cmpB]at h
 | [],_::_,_::_,_,_=>by simp[cmpB]
 | a::as1,b::bs,c::cs,h1,h2=>by
  unfold cmpB at h1 h2⊢;by_cases x:a<b
  ·by_cases y:b<c
   ·rw[if_pos (by omega)];omega
   ·by_cases y':c<b
    ·simp[y,y']at h2
    ·rw[if_pos (by omega)];omega
  ·by_cases x':b<a
   ·simp[x,x']at h1
   ·simp only[x,x',if_false]at h1;by_cases y:b<c
    ·rw[if_pos (by omega)];omega
    ·by_cases y':c<b
     ·simp[y,y']at h2
     ·simp only[y,y',if_false]at h2;rw[if_neg (by omega),if_neg (by omega)];exact yo h1 h2
def fnd(k:List Int)(l:List PR):Nat:=l.findIdx (fun p=>p.1==k)
def bey(k:List Int)(l:List PR):Nat:=l.findIdx (fun p=>decide (0<cmpB p.1 k))
def spA(k:List Int)(l:List PR):Nat:=if fnd k l<l.length then fnd k l else bey k l
def spB(k:List Int)(l:List PR):Nat:=if fnd k l<l.length then fnd k l+1 else bey k l
def putM(l:List PR)(k v:List Int):List PR:=l.take (spA k l)++((k,v)::l.drop (spB k l))
def delM(l:List PR)(k:List Int):List PR:=l.take (fnd k l)++l.drop (fnd k l+1)
def hasM(l:List PR)(k:List Int):Bool:=decide (fnd k l<l.length)
def getM(l:List PR)(k:List Int):List Int:=(l.getD (fnd k l) ([],[])).2
def szM(l:List PR):Nat:=(l.map fun p=>8+p.1.length+p.2.length).sum
abbrev Srt(l:List PR):Prop:=l.Pairwise (fun p q=>cmpB p.1 q.1<0)
def qJ(l:List PR):Prop:=(∀p∈l,p.1.length<=64/\p.2.length<=256)/\Srt l/\szM l<=2048
instance (l:List PR):Decidable (qJ l):=by unfold qJ;infer_instance
def putE(l:List PR)(k v:List Int):Int:=if 64<k.length\/256<v.length then 1 else if 2048<szM (putM l k v)then 71 else 0
def putR(l:List PR)(k v:List Int):List PR:=if putE l k v=0 then putM l k v else []
def zua(k:List Int)(l:List PR):fnd k l<=l.length:=List.findIdx_le_length
def zjv(k:List Int)(l:List PR):bey k l<=l.length:=List.findIdx_le_length
def zen{k:List Int}{l:List PR}(h:fnd k l<l.length):∃v,l[fnd k l]? =some (k,v):=by
 have h2:(l[fnd k l]).1=k:=eq_of_beq (@List.findIdx_getElem PR (fun p:PR=>p.1==k) l h);have hv:l[fnd k l]? =some l[fnd k l]:=vp h;generalize l[fnd k l]=q at hv h2;exact⟨q.2,by rw[hv,<- h2]⟩
def zh4{k:List Int}{l:List PR}{p:PR}(h:i<fnd k l)(hp:l[i]? =some p):p.1≠k:=by
 have hl:i<l.length:=(vm.1 hp).1;have h1:=List.not_of_lt_findIdx (xs:=l) (p:=fun p=>p.1==k) h;rw[vp hl]at hp;injection hp with hp
 rw[hp]at h1;simpa using h1
def yO{k:List Int}{l:List PR}(h:¬fnd k l<l.length){p:PR}(hp:p∈l):p.1≠k:=by
 obtain⟨i,hi⟩:=List.getElem?_of_mem hp;have hl:i<l.length:=(vm.1 hi).1;exact zh4 (by omega) hi
def ztq{k:List Int}{l:List PR}{p:PR}(hp:l[bey k l]? =some p):0<cmpB p.1 k:=by
 have h:bey k l<l.length:=(vm.1 hp).1;have h2:0<cmpB (l[bey k l]).1 k:=of_decide_eq_true (@List.findIdx_getElem PR (fun p:PR=>decide (0<cmpB p.1 k)) l h);rw[vp h]at hp;injection hp with hp
 rw[hp]at h2;exact h2
def zij{k:List Int}{l:List PR}{p:PR}(h:i<bey k l)(hp:l[i]? =some p):¬0<cmpB p.1 k:=by
 have hl:i<l.length:=(vm.1 hp).1;have h1:=List.not_of_lt_findIdx (xs:=l) (p:=fun p=>decide (0<cmpB p.1 k)) h;rw[vp hl]at hp;injection hp with hp
 rw[hp]at h1;simpa using h1
def zim(a b:List PR):szM (a++b)=szM a+szM b:=by simp[szM]
def kY(p:PR)(l:List PR):szM (p::l)=(8+p.1.length+p.2.length)+szM l:=by simp[szM]
def zqg:szM []=0:=rfl
def zc7{l:List PR}{p:PR}(h:l[i]? =some p):l=l.take i++(p::l.drop (i+1)):=by
 have hl:i<l.length:=(vm.1 h).1;rw[vp hl]at h;injection h with h
 rw[<- h,<- wv hl,List.take_append_drop]
def zfp:∀ {l m:List PR},Srt l->Srt m->(∀x,x∈l ↔ x∈m)->l=m
 | [],[],_,_,_=>rfl
 | [],y::m,_,_,h=>by have:=(h y).2 (List.mem_cons_self ..);cases this
 | x::l,[],_,_,h=>by have:=(h x).1 (List.mem_cons_self ..);cases this
 | x::l,y::m,hl,hm,h=>by
  have hl':=List.pairwise_cons.1 hl;have hm':=List.pairwise_cons.1 hm;have hxy:x=y:=by
   rcases aC.1 ((h x).1 (List.mem_cons_self ..))with e|e
   ·exact e
   ·rcases aC.1 ((h y).2 (List.mem_cons_self ..))with e'|e'
    ·exact e'.symm
    ·have h1:=hm'.1 x e;have h2:=hl'.1 y e';have:=wL x.1 y.1;omega
  subst hxy;have:l=m:=zfp hl'.2 hm'.2 fun z=>by
   constructor
   ·intro hz;rcases aC.1 ((h z).1 (List.mem_cons_of_mem _ hz))with e|e
    ·subst e;have:=hl'.1 z hz;rw[kd]at this;omega
    ·exact e
   ·intro hz;rcases aC.1 ((h z).2 (List.mem_cons_of_mem _ hz))with e|e
    ·subst e;have:=hm'.1 z hz;rw[kd]at this;omega
    ·exact e
  rw[this]
def zpr{l:List PR}(h:Srt l){p q:PR}(hp:p∈l)(hq:q∈l)(hk:p.1=q.1):p=q:=by
 induction h with
 | nil=>cases hp
 | @cons x l hx _ ih=>
  rcases aC.1 hp with e|e
  ·rcases aC.1 hq with e'|e'
   ·rw[e,e']
   ·have:=hx q e';rw[<- e,hk,kd]at this;omega
  ·rcases aC.1 hq with e'|e'
   ·have:=hx p e;rw[<- e',<- hk,kd]at this;omega
   ·exact ih e e'
def zjp{a b:List PR}{p:PR}(h:Srt (a++p::b)){q:PR}(hq:q∈a++b):q.1≠p.1:=by
 have h1:=List.pairwise_append.1 h;have h2:=List.pairwise_cons.1 h1.2.1;intro e;rcases List.mem_append.1 hq with h3|h3
 ·have:=h1.2.2 q h3 p (List.mem_cons_self ..);rw[e,kd]at this;omega
 ·have:=h2.1 q h3;rw[e,kd]at this;omega
def yK{l:List PR}(h:Srt l)(k v:List Int)(x:PR):x∈putM l k v ↔ x=(k,v)\/(x∈l/\x.1≠k):=by
 unfold putM spA spB;by_cases hf:fnd k l<l.length
 ·rw[if_pos hf,if_pos hf];obtain⟨v0,hv⟩:=zen hf;have e:=zc7 hv;have hs:Srt (l.take (fnd k l)++(k,v0)::l.drop (fnd k l+1)):=by rw[<- e];exact h
  have hm:=fun q hq=>zjp hs (q:=q) hq;constructor
  ·intro hx;rcases List.mem_append.1 hx with h1|h1
   ·exact .inr ⟨List.mem_of_mem_take h1,hm x (List.mem_append_left _ h1)⟩
   ·rcases aC.1 h1 with h2|h2
    ·exact .inl h2
    ·exact .inr ⟨List.mem_of_mem_drop h2,hm x (List.mem_append_right _ h2)⟩
  ·rintro(h1|⟨h1,h2⟩)
   ·exact List.mem_append_right _ (by rw[h1];exact List.mem_cons_self ..)
   ·rw[e]at h1;rcases List.mem_append.1 h1 with h3|h3
    ·exact List.mem_append_left _ h3
    ·rcases aC.1 h3 with h4|h4
     ·exact absurd (by rw[h4]) h2
     ·exact List.mem_append_right _ (List.mem_cons_of_mem _ h4)
 ·rw[if_neg hf,if_neg hf];have hn:=fun q hq=>yO hf (p:=q) hq;constructor
  ·intro hx;rcases List.mem_append.1 hx with h1|h1
   ·exact .inr ⟨List.mem_of_mem_take h1,hn x (List.mem_of_mem_take h1)⟩
   ·rcases aC.1 h1 with h2|h2
    ·exact .inl h2
    ·exact .inr ⟨List.mem_of_mem_drop h2,hn x (List.mem_of_mem_drop h2)⟩
  ·rintro(h1|⟨h1,h2⟩)
   ·exact List.mem_append_right _ (by rw[h1];exact List.mem_cons_self ..)
   ·rw[<- List.take_append_drop (bey k l) l]at h1;rcases List.mem_append.1 h1 with h3|h3
    ·exact List.mem_append_left _ h3
    ·exact List.mem_append_right _ (List.mem_cons_of_mem _ h3)
def yS{l:List PR}(h:Srt l)(k v:List Int):Srt (putM l k v):=by
 unfold putM spA spB;by_cases hf:fnd k l<l.length
 ·rw[if_pos hf,if_pos hf];obtain⟨v0,hv⟩:=zen hf;have e:=zc7 hv;have hs:Srt (l.take (fnd k l)++(k,v0)::l.drop (fnd k l+1)):=by rw[<- e];exact h
  have h1:=List.pairwise_append.1 hs;have h2:=List.pairwise_cons.1 h1.2.1;refine List.pairwise_append.2 ⟨h1.1,List.pairwise_cons.2 ⟨h2.1,h2.2⟩,fun a ha b hb=>?_⟩;rcases aC.1 hb with e'|e'
  ·subst e';exact h1.2.2 a ha (k,v0) (List.mem_cons_self ..)
  ·exact h1.2.2 a ha b (List.mem_cons_of_mem _ e')
 ·rw[if_neg hf,if_neg hf];have hl:=h;rw[<- List.take_append_drop (bey k l) l]at hl;have h1:=List.pairwise_append.1 hl;have hlow:∀q∈l.take (bey k l),cmpB q.1 k<0:=by
   intro q hq;obtain⟨i,hi⟩:=List.getElem?_of_mem hq;have hil:i<bey k l:=by
    have:=(vm.1 hi).1;simp at this;omega
   rw[List.getElem?_take,if_pos hil]at hi;have h3:=zij hil hi;have h4:=yO hf (List.mem_of_mem_take hq);rcases zbz q.1 k with h5|h5|h5
   ·omega
   ·exact absurd (zex h5) h4
   ·omega
  have hhigh:∀q∈l.drop (bey k l),cmpB k q.1<0:=by
   intro q hq;have hlt:bey k l<l.length:=by
    rcases Nat.lt_or_ge (bey k l) l.length with h3|h3
    ·exact h3
    ·rw[List.drop_eq_nil_of_le h3]at hq;cases hq
   have hg:l[bey k l]? =some l[bey k l]:=vp hlt;have h3:=ztq hg;have hd:=h1.2.1;rw[wv hlt]at hq hd;have hk:cmpB k (l[bey k l]).1<0:=by
    have:=wL (l[bey k l]).1 k;omega
   rcases aC.1 hq with e|e
   ·rw[e];exact hk
   ·exact yo hk ((List.pairwise_cons.1 hd).1 q e)
  refine List.pairwise_append.2 ⟨h1.1,List.pairwise_cons.2 ⟨hhigh,h1.2.1⟩,fun a ha b hb=>?_⟩;rcases aC.1 hb with e'|e'
  ·subst e';exact hlow a ha
  ·exact h1.2.2 a ha b e'
def zhl{l:List PR}(h:Srt l)(k:List Int)(x:PR):x∈delM l k ↔ x∈l/\x.1≠k:=by
 unfold delM;by_cases hf:fnd k l<l.length
 ·obtain⟨v0,hv⟩:=zen hf;have e:=zc7 hv;have hs:Srt (l.take (fnd k l)++(k,v0)::l.drop (fnd k l+1)):=by rw[<- e];exact h
  constructor
  ·intro hx;refine⟨?_,zjp hs hx⟩;rcases List.mem_append.1 hx with h1|h1
   ·exact List.mem_of_mem_take h1
   ·exact List.mem_of_mem_drop h1
  ·rintro⟨h1,h2⟩;rw[e]at h1;rcases List.mem_append.1 h1 with h3|h3
   ·exact List.mem_append_left _ h3
   ·rcases aC.1 h3 with h4|h4
    ·exact absurd (by rw[h4]) h2
    ·exact List.mem_append_right _ h4
 ·have e1:l.take (fnd k l)=l:=List.take_of_length_le (by omega);have e2:l.drop (fnd k l+1)=[]:=List.drop_eq_nil_of_le (by omega);rw[e1,e2,List.append_nil];exact⟨fun hx=>⟨hx,yO hf hx⟩,fun hx=>hx.1⟩
def kS(l:List PR)(k:List Int):(delM l k).Sublist l:=by
 unfold delM;have:(l.take (fnd k l)++l.drop (fnd k l+1)).Sublist (l.take (fnd k l)++l.drop (fnd k l)):=by
  refine List.Sublist.append (List.Sublist.refl _) ?_;rw[<- List.drop_drop];exact List.drop_sublist _ _
 rwa [List.take_append_drop]at this
def zct{l:List PR}(h:Srt l)(k:List Int):Srt (delM l k):=h.sublist (kS l k)
def zlf{a b:List PR}(h:a.Sublist b):szM a<=szM b:=by
 induction h with
 | slnil=>exact aR _
 | cons x _ ih=>rw[kY];omega
 | cons_cons x _ ih=>rw[kY,kY];omega
def zbv{l:List PR}(h:qJ l){k v:List Int}(he:putE l k v=0):qJ (putM l k v):=by
 unfold putE at he
 split at he
 ·omega
 ·split at he
  ·omega
  ·refine⟨fun p hp=>?_,yS h.2.1 k v,by omega⟩;rcases(yK h.2.1 k v p).1 hp with e|e
   ·subst e;exact⟨by simp;omega,by simp;omega⟩
   ·exact h.1 p e.1
def zby{l:List PR}(h:qJ l)(k:List Int):qJ (delM l k):=
 ⟨fun p hp=>h.1 p ((kS l k).subset hp),zct h.2.1 k,aT (zlf (kS l k)) h.2.2⟩
def zmc(l:List PR):8*l.length<=szM l:=by
 induction l with
 | nil=>exact aR _
 | cons x l ih=>rw[kY,aB];omega
def zmy(l:List PR)(k:Nat):szM (l.take k)<=szM l:=zlf (List.take_sublist _ _)
def zne{l:List PR}{p:PR}(h:l[k]? =some p):szM (l.take (k+1))=szM (l.take k)+(8+p.1.length+p.2.length):=by
 rw[kj h,zim,kY,zqg];omega
def zsf:(prog.info? 5).map (fun i=>(i.zero,i.size,i.bytes))=some (some (.int .u8 0),1,1):=by kernel_rfl
def cnt(l:List Int)(p:Int):Nat:=(val ((l.drop p.toNat).take 4)).toNat
def zn7(w:World)(l:List Int)(e:Ending)(w':World):Prop:=
 ∃A' c',e=.returned (.slice A' l.length c')/\l.length<=c'/\c'<=maxLen/\Lies w' w'.heap.size A' c' (zA l)/\Below w.heap.size w w'
def zdo(w:World):(w.alloc (.cells #[] 5)).ownsRow w.heap.size 5 1 (.slice (some ⟨w.heap.size,0,none⟩) 0 0) 0 []:=
 World.ownsRow_made w #[] 0 (aR _) (aK _) rfl
def zhb(w:World)(A:Option Addr)(n c:Nat):(binOp .eql 22 (.slice A n c) (.slice none 0 0)).run prog w=.ok (.bool A.isNone) w:=by
 simp only[binOp];simp[run_equal_slice_nil w 22 5 A n c underlying22]
def clone(A:Option Addr)(l:List Int)(c:Nat)(w:World)(hl:Lies w w.heap.size A c (zA l))(hlen:l.length<=140737488355328):Calls prog 48 #[.slice A l.length c] w (zn7 w l):=by
 obtain⟨i0,hi,hz0,hz1,hz2⟩:=info_parts zsf;cases A with
 | none=>
  obtain⟨h1,rfl⟩:=hl.none_nil;have h2:l=[]:=by simpa using h1
  subst h2;clear h1 hl hlen;have hnil:=zhb w none 0 0;go_enter func48,ntmps48;go_wp2;go_ret;exact⟨none,0,rfl,aR _,aK _,Lies.nothing _ _,Below.refl _ _⟩
 | some ad=>
  have ho:=zdo w;have hb:=(Below.refl w.heap.size w).alloc (aR _) (.cells #[] 5);have hl1:=hl.below hb;clear hl;have hnil:=zhb w (some ad) l.length c;go_enter func48,ntmps48
  go_wp2_with(at_builtin;refine qV rfl (.tmp 5) (.tmp 6) 22 rfl w.heap.size 5 i0 (.int .u8 0) 1 underlying22 hi hz0 hz1 hz2 rfl _ 0 [] rfl ho w.heap.size (some ad) l.length c (zA l) rfl (by simp) hl1 (xX l) (by unfold maxLen;omega) (by omega) (by simp) ?_;intro v2 w2 ho2 hg2)
  obtain⟨A2,c2,rfl,h1,h2,h3⟩:=xG ho2;go_wp2;go_ret;simp only[Nat.zero_add,List.nil_append]at h1 h3⊢;exact⟨A2,c2,rfl,h1,h2,h3,hb.grown hg2 (by simp) (fun k hk=>(ho.lt k hk).1)⟩
def jG(w:World)(l:List Int)(e:Ending)(w':World):Prop:=
 ∃v,e=.returned v/\w'.ownsRow w.heap.size 5 1 v l.length (zA l)/\Below w.heap.size w w'
def zbq(A:Option Addr)(l:List Int)(c:Nat)(w:World)(hl:Lies w w.heap.size A c (zA l))(hlen:l.length<=140737488355328):Calls prog 48 #[.slice A l.length c] w (jG w l):=by
 obtain⟨i0,hi,hz0,hz1,hz2⟩:=info_parts zsf;cases A with
 | none=>
  obtain⟨h1,rfl⟩:=hl.none_nil;have h2:l=[]:=by simpa using h1
  subst h2;clear h1 hl hlen;have hnil:=zhb w none 0 0;go_enter func48,ntmps48;go_wp2;go_ret;exact⟨.slice none 0 0,rfl,World.ownsRow_nil _ _ _ _,Below.refl _ _⟩
 | some ad=>
  have ho:=zdo w;have hb:=(Below.refl w.heap.size w).alloc (aR _) (.cells #[] 5);have hl1:=hl.below hb;clear hl;have hnil:=zhb w (some ad) l.length c;go_enter func48,ntmps48
  go_wp2_with(at_builtin;refine qV rfl (.tmp 5) (.tmp 6) 22 rfl w.heap.size 5 i0 (.int .u8 0) 1 underlying22 hi hz0 hz1 hz2 rfl _ 0 [] rfl ho w.heap.size (some ad) l.length c (zA l) rfl (by simp) hl1 (xX l) (by unfold maxLen;omega) (by omega) (by simp) ?_;intro v2 w2 ho2 hg2)
  go_ret;exact⟨v2,rfl,zlb ho2 (by omega) (by simp),hb.grown hg2 (by simp) (fun k hk=>(ho.lt k hk).1)⟩
end
end
end Go.Proofs.YtcilgkdnjgmogaaGreatDoor
