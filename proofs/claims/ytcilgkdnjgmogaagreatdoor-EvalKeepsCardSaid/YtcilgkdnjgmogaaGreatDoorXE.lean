/- A part of the proof. -/
import Derived.WalkKit
import Derived.Laws.BitsAllLaws
import Derived.WalkSpells
import Derived.WalkLawsBesides
import Derived.Lib.Hide
import Derived.Outline
import Derived.Laws.BytesArg
import Derived.Laws.AppendOwnNone
import Derived.Deep.QuietTactic
import Derived.BigQuiet
import Derived.Deep.DeepCutAuto
import Derived.Deep.RegionHeld3
import Derived.Test.YtcilgkdnjgmogaaGreatDoorXD
namespace Go.Proofs.YtcilgkdnjgmogaaGreatDoor
set_option maxRecDepth 100000
set_option maxHeartbeats 12800000
set_option linter.all false
variable {i k:Nat}
section
section
open Go.RowKit
def be (n:Int) (top k:Nat):List Int:=(List.range k).map fun j=>n / 2 ^ (8*(top-j)) % 256
theorem kj {α:Type} {ls:List α} {l:α} (h:ls[k]? =some l):ls.take (k+1) =ls.take k++[l]:=by
 rw [List.take_add_one,h];rfl
end
section
open Go.RowKit
def val (l:List Int):Int:=l.foldl (fun a b=>a*256+b) 0
end
section
abbrev PR:=List Int×List Int
def cmpB:List Int->List Int->Int
 | [],[]=>0
 | [],_::_=>-1
 | _::_,[]=>1
 | a::as1,b::bs=>if a < b then -1 else if b < a then 1 else cmpB as1 bs
theorem zbz:∀ (a b:List Int),cmpB a b = -1\/cmpB a b =0\/cmpB a b =1
 | [],[]=>by simp [cmpB]
 | [],_::_=>by simp [cmpB]
 | _::_,[]=>by simp [cmpB]
 | a::as1,b::bs=>by
  unfold cmpB;by_cases h:a < b
  ·simp [h]
  ·by_cases h':b < a
   ·simp [h,h']
   ·simp only [h,h',if_false]
    exact zbz as1 bs
theorem kd:∀ (a:List Int),cmpB a a =0
 | []=>rfl
 | a::as1=>by simp [cmpB,kd as1]
theorem zex:∀ {a b:List Int},cmpB a b =0->a =b
 | [],[],_=>rfl
 | [],_::_,h=>by simp [cmpB] at h
 | _::_,[],h=>by simp [cmpB] at h
 | a::as1,b::bs,h=>by
  unfold cmpB at h;by_cases h1:a < b
  ·simp [h1] at h
  ·by_cases h2:b < a
   ·simp [h1,h2] at h
   ·simp only [h1,h2,if_false] at h
    rw [zex h,show a =b by omega]
theorem wL:∀ (a b:List Int),cmpB b a = - cmpB a b
 | [],[]=>by simp [cmpB]
 | [],_::_=>by simp [cmpB]
 | _::_,[]=>by simp [cmpB]
 | a::as1,b::bs=>by
  unfold cmpB;by_cases h:a < b
  ·have:¬ b < a:=by omega
   simp [h,this]
  ·by_cases h':b < a
   ·simp [h,h']
   ·simp only [h,h',if_false]
    exact wL as1 bs
theorem yo:∀ {a b c:List Int},cmpB a b < 0->cmpB b c < 0->cmpB a c < 0
 | _,[],[],_,h=>by simp [cmpB] at h
 | _,_::_,[],_,h=>by simp [cmpB] at h
 | [],[],_::_,h,_=>by simp [cmpB] at h
 | _::_,[],_::_,h,_=>by simp [cmpB] at h
 | [],_::_,_::_,_,_=>by simp [cmpB]
 | a::as1,b::bs,c::cs,h1,h2=>by
  unfold cmpB at h1 h2 ⊢;by_cases x:a < b
  ·by_cases y:b < c
   ·rw [if_pos (by omega)];omega
   ·by_cases y':c < b
    ·simp [y,y'] at h2
    ·rw [if_pos (by omega)];omega
  ·by_cases x':b < a
   ·simp [x,x'] at h1
   ·simp only [x,x',if_false] at h1
    by_cases y:b < c
    ·rw [if_pos (by omega)];omega
    ·by_cases y':c < b
     ·simp [y,y'] at h2
     ·simp only [y,y',if_false] at h2
      rw [if_neg (by omega),if_neg (by omega)];exact yo h1 h2
def fnd (k:List Int) (l:List PR):Nat:=l.findIdx (fun p=>p.1 == k)
def bey (k:List Int) (l:List PR):Nat:=l.findIdx (fun p=>decide (0 < cmpB p.1 k))
def spA (k:List Int) (l:List PR):Nat:=if fnd k l < l.length then fnd k l else bey k l
def spB (k:List Int) (l:List PR):Nat:=if fnd k l < l.length then fnd k l+1 else bey k l
def putM (l:List PR) (k v:List Int):List PR:=l.take (spA k l)++((k,v)::l.drop (spB k l))
def delM (l:List PR) (k:List Int):List PR:=l.take (fnd k l)++l.drop (fnd k l+1)
def hasM (l:List PR) (k:List Int):Bool:=decide (fnd k l < l.length)
def getM (l:List PR) (k:List Int):List Int:=(l.getD (fnd k l) ([],[])).2
def szM (l:List PR):Nat:=(l.map fun p=>8+p.1.length+p.2.length).sum
abbrev Srt (l:List PR):Prop:=l.Pairwise (fun p q=>cmpB p.1 q.1 < 0)
def qJ (l:List PR):Prop:=(∀ p∈l,p.1.length<=64/\p.2.length<=256)/\Srt l/\szM l<=2048
instance (l:List PR):Decidable (qJ l):=by unfold qJ;infer_instance
def putE (l:List PR) (k v:List Int):Int:=if 64 < k.length\/256 < v.length then 1 else if 2048 < szM (putM l k v) then 71 else 0
def putR (l:List PR) (k v:List Int):List PR:=if putE l k v =0 then putM l k v else []
theorem zua (k:List Int) (l:List PR):fnd k l<=l.length:=List.findIdx_le_length
theorem zjv (k:List Int) (l:List PR):bey k l<=l.length:=List.findIdx_le_length
theorem zen {k:List Int} {l:List PR} (h:fnd k l < l.length):∃ v,l[fnd k l]? =some (k,v):=by
 have h2:(l[fnd k l]).1 =k:=eq_of_beq (@List.findIdx_getElem PR (fun p:PR=>p.1 == k) l h);have hv:l[fnd k l]? =some l[fnd k l]:=List.getElem?_eq_getElem h;generalize l[fnd k l] =q at hv h2;exact ⟨q.2,by rw [hv,<- h2]⟩
theorem zh4 {k:List Int} {l:List PR} {p:PR} (h:i < fnd k l) (hp:l[i]? =some p):p.1≠k:=by
 have hl:i < l.length:=(List.getElem?_eq_some_iff.1 hp).1;have h1:=List.not_of_lt_findIdx (xs:=l) (p:=fun p=>p.1 == k) h;rw [List.getElem?_eq_getElem hl] at hp;injection hp with hp
 rw [hp] at h1;simpa using h1
theorem yO {k:List Int} {l:List PR} (h:¬ fnd k l < l.length) {p:PR} (hp:p∈l):p.1≠k:=by
 obtain ⟨i,hi⟩:=List.getElem?_of_mem hp;have hl:i < l.length:=(List.getElem?_eq_some_iff.1 hi).1;exact zh4 (by omega) hi
theorem ztq {k:List Int} {l:List PR} {p:PR} (hp:l[bey k l]? =some p):0 < cmpB p.1 k:=by
 have h:bey k l < l.length:=(List.getElem?_eq_some_iff.1 hp).1;have h2:0 < cmpB (l[bey k l]).1 k:=of_decide_eq_true (@List.findIdx_getElem PR (fun p:PR=>decide (0 < cmpB p.1 k)) l h);rw [List.getElem?_eq_getElem h] at hp;injection hp with hp
 rw [hp] at h2;exact h2
theorem zij {k:List Int} {l:List PR} {p:PR} (h:i < bey k l) (hp:l[i]? =some p):¬ 0 < cmpB p.1 k:=by
 have hl:i < l.length:=(List.getElem?_eq_some_iff.1 hp).1;have h1:=List.not_of_lt_findIdx (xs:=l) (p:=fun p=>decide (0 < cmpB p.1 k)) h;rw [List.getElem?_eq_getElem hl] at hp;injection hp with hp
 rw [hp] at h1;simpa using h1
theorem zim (a b:List PR):szM (a++b) =szM a+szM b:=by simp [szM]
theorem kY (p:PR) (l:List PR):szM (p::l) =(8+p.1.length+p.2.length)+szM l:=by simp [szM]
theorem zqg:szM [] =0:=rfl
theorem zc7 {l:List PR} {p:PR} (h:l[i]? =some p):l =l.take i++(p::l.drop (i+1)):=by
 have hl:i < l.length:=(List.getElem?_eq_some_iff.1 h).1;rw [List.getElem?_eq_getElem hl] at h;injection h with h
 rw [<- h,<- List.drop_eq_getElem_cons hl,List.take_append_drop]
theorem zfp:∀ {l m:List PR},Srt l->Srt m->(∀ x,x∈l ↔ x∈m)->l =m
 | [],[],_,_,_=>rfl
 | [],y::m,_,_,h=>by have:=(h y).2 (List.mem_cons_self ..);cases this
 | x::l,[],_,_,h=>by have:=(h x).1 (List.mem_cons_self ..);cases this
 | x::l,y::m,hl,hm,h=>by
  have hl':=List.pairwise_cons.1 hl;have hm':=List.pairwise_cons.1 hm;have hxy:x =y:=by
   rcases List.mem_cons.1 ((h x).1 (List.mem_cons_self ..)) with e|e
   ·exact e
   ·rcases List.mem_cons.1 ((h y).2 (List.mem_cons_self ..)) with e'|e'
    ·exact e'.symm
    ·have h1:=hm'.1 x e
     have h2:=hl'.1 y e';have:=wL x.1 y.1;omega
  subst hxy;have:l =m:=zfp hl'.2 hm'.2 fun z=>by
   constructor
   ·intro hz
    rcases List.mem_cons.1 ((h z).1 (List.mem_cons_of_mem _ hz)) with e|e
    ·subst e
     have:=hl'.1 z hz;rw [kd] at this;omega
    ·exact e
   ·intro hz
    rcases List.mem_cons.1 ((h z).2 (List.mem_cons_of_mem _ hz)) with e|e
    ·subst e
     have:=hm'.1 z hz;rw [kd] at this;omega
    ·exact e
  rw [this]
theorem zpr {l:List PR} (h:Srt l) {p q:PR} (hp:p∈l) (hq:q∈l) (hk:p.1 =q.1):p =q:=by
 induction h with
 | nil=>cases hp
 | @cons x l hx _ ih=>
  rcases List.mem_cons.1 hp with e|e
  ·rcases List.mem_cons.1 hq with e'|e'
   ·rw [e,e']
   ·have:=hx q e'
    rw [<- e,hk,kd] at this;omega
  ·rcases List.mem_cons.1 hq with e'|e'
   ·have:=hx p e
    rw [<- e',<- hk,kd] at this;omega
   ·exact ih e e'
theorem zjp {a b:List PR} {p:PR} (h:Srt (a++p::b)) {q:PR} (hq:q∈a++b):q.1≠p.1:=by
 have h1:=List.pairwise_append.1 h;have h2:=List.pairwise_cons.1 h1.2.1;intro e;rcases List.mem_append.1 hq with h3|h3
 ·have:=h1.2.2 q h3 p (List.mem_cons_self ..)
  rw [e,kd] at this;omega
 ·have:=h2.1 q h3
  rw [e,kd] at this;omega
theorem yK {l:List PR} (h:Srt l) (k v:List Int) (x:PR):x∈putM l k v ↔ x =(k,v)\/(x∈l/\x.1≠k):=by
 unfold putM spA spB;by_cases hf:fnd k l < l.length
 ·rw [if_pos hf,if_pos hf]
  obtain ⟨v0,hv⟩:=zen hf;have e:=zc7 hv;have hs:Srt (l.take (fnd k l)++(k,v0)::l.drop (fnd k l+1)):=by rw [<- e];exact h
  have hm:=fun q hq=>zjp hs (q:=q) hq;constructor
  ·intro hx
   rcases List.mem_append.1 hx with h1|h1
   ·exact .inr ⟨List.mem_of_mem_take h1,hm x (List.mem_append_left _ h1)⟩
   ·rcases List.mem_cons.1 h1 with h2|h2
    ·exact .inl h2
    ·exact .inr ⟨List.mem_of_mem_drop h2,hm x (List.mem_append_right _ h2)⟩
  ·rintro (h1|⟨h1,h2⟩)
   ·exact List.mem_append_right _ (by rw [h1];exact List.mem_cons_self ..)
   ·rw [e] at h1
    rcases List.mem_append.1 h1 with h3|h3
    ·exact List.mem_append_left _ h3
    ·rcases List.mem_cons.1 h3 with h4|h4
     ·exact absurd (by rw [h4]) h2
     ·exact List.mem_append_right _ (List.mem_cons_of_mem _ h4)
 ·rw [if_neg hf,if_neg hf]
  have hn:=fun q hq=>yO hf (p:=q) hq;constructor
  ·intro hx
   rcases List.mem_append.1 hx with h1|h1
   ·exact .inr ⟨List.mem_of_mem_take h1,hn x (List.mem_of_mem_take h1)⟩
   ·rcases List.mem_cons.1 h1 with h2|h2
    ·exact .inl h2
    ·exact .inr ⟨List.mem_of_mem_drop h2,hn x (List.mem_of_mem_drop h2)⟩
  ·rintro (h1|⟨h1,h2⟩)
   ·exact List.mem_append_right _ (by rw [h1];exact List.mem_cons_self ..)
   ·rw [<- List.take_append_drop (bey k l) l] at h1
    rcases List.mem_append.1 h1 with h3|h3
    ·exact List.mem_append_left _ h3
    ·exact List.mem_append_right _ (List.mem_cons_of_mem _ h3)
theorem yS {l:List PR} (h:Srt l) (k v:List Int):Srt (putM l k v):=by
 unfold putM spA spB;by_cases hf:fnd k l < l.length
 ·rw [if_pos hf,if_pos hf]
  obtain ⟨v0,hv⟩:=zen hf;have e:=zc7 hv;have hs:Srt (l.take (fnd k l)++(k,v0)::l.drop (fnd k l+1)):=by rw [<- e];exact h
  have h1:=List.pairwise_append.1 hs;have h2:=List.pairwise_cons.1 h1.2.1;refine List.pairwise_append.2 ⟨h1.1,List.pairwise_cons.2 ⟨h2.1,h2.2⟩,fun a ha b hb=>?_⟩;rcases List.mem_cons.1 hb with e'|e'
  ·subst e'
   exact h1.2.2 a ha (k,v0) (List.mem_cons_self ..)
  ·exact h1.2.2 a ha b (List.mem_cons_of_mem _ e')
 ·rw [if_neg hf,if_neg hf]
  have hl:=h;rw [<- List.take_append_drop (bey k l) l] at hl;have h1:=List.pairwise_append.1 hl;have hlow:∀ q∈l.take (bey k l),cmpB q.1 k < 0:=by
   intro q hq;obtain ⟨i,hi⟩:=List.getElem?_of_mem hq;have hil:i < bey k l:=by
    have:=(List.getElem?_eq_some_iff.1 hi).1;simp at this;omega
   rw [List.getElem?_take,if_pos hil] at hi;have h3:=zij hil hi;have h4:=yO hf (List.mem_of_mem_take hq);rcases zbz q.1 k with h5|h5|h5
   ·omega
   ·exact absurd (zex h5) h4
   ·omega
  have hhigh:∀ q∈l.drop (bey k l),cmpB k q.1 < 0:=by
   intro q hq;have hlt:bey k l < l.length:=by
    rcases Nat.lt_or_ge (bey k l) l.length with h3|h3
    ·exact h3
    ·rw [List.drop_eq_nil_of_le h3] at hq;cases hq
   have hg:l[bey k l]? =some l[bey k l]:=List.getElem?_eq_getElem hlt;have h3:=ztq hg;have hd:=h1.2.1;rw [List.drop_eq_getElem_cons hlt] at hq hd;have hk:cmpB k (l[bey k l]).1 < 0:=by
    have:=wL (l[bey k l]).1 k;omega
   rcases List.mem_cons.1 hq with e|e
   ·rw [e];exact hk
   ·exact yo hk ((List.pairwise_cons.1 hd).1 q e)
  refine List.pairwise_append.2 ⟨h1.1,List.pairwise_cons.2 ⟨hhigh,h1.2.1⟩,fun a ha b hb=>?_⟩;rcases List.mem_cons.1 hb with e'|e'
  ·subst e'
   exact hlow a ha
  ·exact h1.2.2 a ha b e'
theorem zhl {l:List PR} (h:Srt l) (k:List Int) (x:PR):x∈delM l k ↔ x∈l/\x.1≠k:=by
 unfold delM;by_cases hf:fnd k l < l.length
 ·obtain ⟨v0,hv⟩:=zen hf
  have e:=zc7 hv;have hs:Srt (l.take (fnd k l)++(k,v0)::l.drop (fnd k l+1)):=by rw [<- e];exact h
  constructor
  ·intro hx
   refine ⟨?_,zjp hs hx⟩;rcases List.mem_append.1 hx with h1|h1
   ·exact List.mem_of_mem_take h1
   ·exact List.mem_of_mem_drop h1
  ·rintro ⟨h1,h2⟩
   rw [e] at h1;rcases List.mem_append.1 h1 with h3|h3
   ·exact List.mem_append_left _ h3
   ·rcases List.mem_cons.1 h3 with h4|h4
    ·exact absurd (by rw [h4]) h2
    ·exact List.mem_append_right _ h4
 ·have e1:l.take (fnd k l) =l:=List.take_of_length_le (by omega)
  have e2:l.drop (fnd k l+1) =[]:=List.drop_eq_nil_of_le (by omega);rw [e1,e2,List.append_nil];exact ⟨fun hx=>⟨hx,yO hf hx⟩,fun hx=>hx.1⟩
theorem kS (l:List PR) (k:List Int):(delM l k).Sublist l:=by
 unfold delM;have:(l.take (fnd k l)++l.drop (fnd k l+1)).Sublist (l.take (fnd k l)++l.drop (fnd k l)):=by
  refine List.Sublist.append (List.Sublist.refl _) ?_;rw [<- List.drop_drop];exact List.drop_sublist _ _
 rwa [List.take_append_drop] at this
theorem zct {l:List PR} (h:Srt l) (k:List Int):Srt (delM l k):=h.sublist (kS l k)
theorem zlf {a b:List PR} (h:a.Sublist b):szM a<=szM b:=by
 induction h with
 | slnil=>exact zzA0 _
 | cons x _ ih=>rw [kY];omega
 | cons_cons x _ ih=>rw [kY,kY];omega
theorem zbv {l:List PR} (h:qJ l) {k v:List Int} (he:putE l k v =0):qJ (putM l k v):=by
 unfold putE at he
 split at he
 ·omega
 ·split at he
  ·omega
  ·refine ⟨fun p hp=>?_,yS h.2.1 k v,by omega⟩
   rcases (yK h.2.1 k v p).1 hp with e|e
   ·subst e;exact ⟨by simp;omega,by simp;omega⟩
   ·exact h.1 p e.1
theorem zby {l:List PR} (h:qJ l) (k:List Int):qJ (delM l k):=
 ⟨fun p hp=>h.1 p ((kS l k).subset hp),zct h.2.1 k,zzA2 (zlf (kS l k)) h.2.2⟩
theorem zmc (l:List PR):8*l.length<=szM l:=by
 induction l with
 | nil=>exact zzA0 _
 | cons x l ih=>rw [kY,List.length_cons];omega
theorem zmy (l:List PR) (k:Nat):szM (l.take k)<=szM l:=zlf (List.take_sublist _ _)
theorem zne {l:List PR} {p:PR} (h:l[k]? =some p):szM (l.take (k+1)) =szM (l.take k)+(8+p.1.length+p.2.length):=by
 rw [kj h,zim,kY,zqg];omega
end
section
open Go.RowKit
end
section
open Go.RowKit
theorem zsf:(Tryz.prog.info? 5).map (fun i=>(i.zero,i.size,i.bytes)) =some (some (.int .u8 0),1,1):=by kernel_rfl
end
section
open Go.RowKit
end
section
open Go.RowKit
end
section
open Go.RowKit
end
section
open Go.RowKit
end
section
open Go.RowKit
end
section
open Go.RowKit
end
section
open Go.RowKit
def cnt (l:List Int) (p:Int):Nat:=(val ((l.drop p.toNat).take 4)).toNat
def zn7 (w:World) (l:List Int) (e:Ending) (w':World):Prop:=
 ∃ A' c',e =.returned (.slice A' l.length c')/\l.length<=c'/\c'<=maxLen/\Lies w' w'.heap.size A' c' (zA l)/\Below w.heap.size w w'
theorem zdo (w:World):(w.alloc (.cells #[] 5)).ownsRow w.heap.size 5 1 (.slice (some ⟨w.heap.size,0,none⟩) 0 0) 0 []:=
 World.ownsRow_made w #[] 0 (zzA0 _) (Nat.zero_le _) rfl
theorem zhb (w:World) (A:Option Addr) (n c:Nat):(binOp .eql 22 (.slice A n c) (.slice none 0 0)).run Tryz.prog w =.ok (.bool A.isNone) w:=by
 simp only [binOp];simp [run_equal_slice_nil w 22 5 A n c Tryz.underlying22]
theorem clone (A:Option Addr) (l:List Int) (c:Nat) (w:World) (hl:Lies w w.heap.size A c (zA l)) (hlen:l.length<=140737488355328) :
  Calls Tryz.prog 48 #[.slice A l.length c] w (zn7 w l):=by
 obtain ⟨i0,hi,hz0,hz1,hz2⟩:=info_parts zsf;cases A with
 | none=>
  obtain ⟨h1,rfl⟩:=hl.none_nil;have h2:l =[]:=by simpa using h1
  subst h2;clear h1 hl hlen;have hnil:=zhb w none 0 0;go_enter Tryz.func48,Tryz.ntmps48
  go_wp2
  go_ret;exact ⟨none,0,rfl,zzA0 _,Nat.zero_le _,Lies.nothing _ _,Below.refl _ _⟩
 | some ad=>
  have ho:=zdo w;have hb:=(Below.refl w.heap.size w).alloc (zzA0 _) (.cells #[] 5);have hl1:=hl.below hb;clear hl;have hnil:=zhb w (some ad) l.length c;go_enter Tryz.func48,Tryz.ntmps48
  go_wp2_with (at_builtin;refine qV rfl (.tmp 5) (.tmp 6) 22 rfl w.heap.size 5 i0 (.int .u8 0) 1 Tryz.underlying22 hi hz0 hz1 hz2 rfl _ 0 [] rfl ho w.heap.size (some ad) l.length c (zA l) rfl (by simp) hl1 (xX l) (by unfold maxLen;omega) (by omega) (by simp) ?_;intro v2 w2 ho2 hg2)
  obtain ⟨A2,c2,rfl,h1,h2,h3⟩:=xG ho2
  go_wp2
  go_ret;simp only [Nat.zero_add,List.nil_append] at h1 h3 ⊢;exact ⟨A2,c2,rfl,h1,h2,h3,hb.grown hg2 (by simp) (fun k hk=>(ho.lt k hk).1)⟩
end
section
open Go.RowKit
end
section
open Go.RowKit
end
section
open Go.RowKit
end
section
open Go.RowKit
def jG (w:World) (l:List Int) (e:Ending) (w':World):Prop:=
 ∃ v,e =.returned v/\w'.ownsRow w.heap.size 5 1 v l.length (zA l)/\Below w.heap.size w w'
theorem zbq (A:Option Addr) (l:List Int) (c:Nat) (w:World) (hl:Lies w w.heap.size A c (zA l)) (hlen:l.length<=140737488355328) :
  Calls Tryz.prog 48 #[.slice A l.length c] w (jG w l):=by
 obtain ⟨i0,hi,hz0,hz1,hz2⟩:=info_parts zsf;cases A with
 | none=>
  obtain ⟨h1,rfl⟩:=hl.none_nil;have h2:l =[]:=by simpa using h1
  subst h2;clear h1 hl hlen;have hnil:=zhb w none 0 0;go_enter Tryz.func48,Tryz.ntmps48
  go_wp2
  go_ret;exact ⟨.slice none 0 0,rfl,World.ownsRow_nil _ _ _ _,Below.refl _ _⟩
 | some ad=>
  have ho:=zdo w;have hb:=(Below.refl w.heap.size w).alloc (zzA0 _) (.cells #[] 5);have hl1:=hl.below hb;clear hl;have hnil:=zhb w (some ad) l.length c;go_enter Tryz.func48,Tryz.ntmps48
  go_wp2_with (at_builtin;refine qV rfl (.tmp 5) (.tmp 6) 22 rfl w.heap.size 5 i0 (.int .u8 0) 1 Tryz.underlying22 hi hz0 hz1 hz2 rfl _ 0 [] rfl ho w.heap.size (some ad) l.length c (zA l) rfl (by simp) hl1 (xX l) (by unfold maxLen;omega) (by omega) (by simp) ?_;intro v2 w2 ho2 hg2)
  go_ret;exact ⟨v2,rfl,zlb ho2 (by omega) (by simp),hb.grown hg2 (by simp) (fun k hk=>(ho.lt k hk).1)⟩
end
section
open Go.RowKit
end
section
open Go.RowKit
end
section
open Go.RowKit
end
end
section
structure Va where
 t:Int
 n:Int
 s:List Int
 deriving DecidableEq
structure Stt where
 used:Int
 hs:List (List PR)
 cur:List PR
 deriving DecidableEq
inductive Ou (α:Type) where
 | ok (a:α) (σ:Stt)
 | trap (t:Int) (σ:Stt)
abbrev Ev (α:Type):=Option (Ou α)
def Ev.bind {α β:Type} (m:Ev α) (f:α->Stt->Ev β):Ev β:=
 match m with
 | none=>none
 | some (.trap t σ)=>some (.trap t σ)
 | some (.ok a σ)=>f a σ
def qv {α:Type} (a:α) (σ:Stt):Ev α:=some (.ok a σ)
def useE (lim n:Int) (σ:Stt):Ev Unit:=
 if n > lim-σ.used then some (.trap 1 { σ with used:=lim }) else some (.ok () { σ with used:=σ.used+n })
abbrev Env:=List (List (List Nat×Va))
def updF (f:List (List Nat×Va)) (s:List Nat) (v:Va):List (List Nat×Va):=
 match f with
 | []=>[(s,v)]
 | p::l=>if p.1 =s then (s,v)::l else p::updF l s v
def kQ:Env->List Nat->Option Va
 | [],_=>none
 | f::r,s=>match seek f s with
  | some v=>some v
  | none=>kQ r s
def setE:Env->List Nat->Va->Option Env
 | [],_,_=>none
 | f::r,s,v=>match seek f s with
  | some _=>some (updF f s v::r)
  | none=>match setE r s v with
   | some r'=>some (f::r')
   | none=>none
def zfr:Env->List Nat->Va->Env
 | [],_,_=>[]
 | f::r,s,v=>updF f s v::r
def zap (e:Env):Env:=match e with
 | []::r=>r
 | e=>e
def jj (e b:Env):Env:=match e with
 | []::_=>[]::b
 | _=>b
def intV (n:Int):Va:=⟨1,n,[]⟩
def xS (b:Bool):Va:=⟨2,if b then 1 else 0,[]⟩
def ya (s:List Int):Va:=⟨3,0,s⟩
def qe:Va:=⟨0,0,[]⟩
def fitI (x:Int):Va×Int:=if -9223372036854775808<=x/\x<=9223372036854775807 then (intV x,0) else (qe,3)
def divI (f:Int->Int->Int) (a b:Int):Va×Int:=if b =0 then (qe,2) else if a = -9223372036854775808/\b = -1 then (qe,3) else (intV (f a b),0)
def truE (b:Bool):Va×Int:=(xS b,0)
def twoE (S:List Nat) (a b:Va):Option (Va×Int):=
 if a.t =1/\b.t =1 then
  if S =[43] then some (fitI (a.n+b.n)) else if S =[45] then some (fitI (a.n-b.n)) else if S =[42] then some (fitI (a.n*b.n))
  else if S =[47] then some (divI Int.tdiv a.n b.n) else if S =[37] then some (divI Int.tmod a.n b.n)
  else if S =[60] then some (truE (decide (a.n < b.n))) else if S =[60,61] then some (truE (decide (a.n<=b.n)))
  else if S =[62] then some (truE (decide (b.n < a.n))) else if S =[62,61] then some (truE (decide (b.n<=a.n)))
  else if S =[61,61] then some (truE (decide (a.n =b.n))) else if S =[33,61] then some (truE (!decide (a.n =b.n)))
  else none
 else if a.t =2/\b.t =2 then
  if S =[61,61] then some (truE ((a.n == 1) == (b.n == 1))) else if S =[33,61] then some (truE (!((a.n == 1) == (b.n == 1)))) else none
 else if a.t =3/\b.t =3/\a.n =0/\b.n =0 then
  if S =[43] then some (if 256 < a.s.length+b.s.length then (qe,6) else (ya (a.s++b.s),0))
  else if S =[61,61] then some (truE (decide (a.s =b.s))) else if S =[33,61] then some (truE (!decide (a.s =b.s))) else none
 else none
def oneE (S:List Nat) (a:Va):Option (Va×Int):=
 if S =[45]/\a.t =1 then some (fitI (-a.n)) else if S =[33]/\a.t =2 then some (truE (!(a.n == 1))) else none
def endE (r:Option (Va×Int)) (σ:Stt):Ev Va:=
 match r with
 | none=>none
 | some (v,t)=>if t =0 then qv v σ else some (.trap t σ)
def jd:List (List Nat×Int)->List Va->List (List Nat×Va)->Option (List (List Nat×Va))
 | [],[],f=>some f
 | p::ps,v::vs,f=>jd ps vs (updF f p.1 v)
 | _,_,_=>none
def xC (a b:Nat):Int:=4+((a+b:Nat):Int) / 16
def wO (k v:List Int) (σ:Stt):Ev Unit:=
 if putE σ.cur k v =0 then qv () { σ with hs:=σ.hs++[σ.cur],cur:=putM σ.cur k v }
 else some (.trap (if putE σ.cur k v =1 then 6 else 5) σ)
def zpo (k:List Int) (σ:Stt):Ev Unit:=qv () { σ with hs:=σ.hs++[σ.cur],cur:=delM σ.cur k }
def putG (lim:Int) (k v:List Int) (σ:Stt):Ev Unit:=(useE lim (xC k.length v.length) σ).bind fun _ σ=>wO k v σ
def delG (lim:Int) (k:List Int) (σ:Stt):Ev Unit:=(useE lim 4 σ).bind fun _ σ=>zpo k σ
def zay (vs:List Va):Va:=match vs with
 | v::_=>v
 | []=>qe
mutual
def qD (lim:Int) (F:List Nat->Option Xf):Nat->Nat->Env->Xe->Stt->Ev Va
 | 0,_,_,_,_=>none
 | n+1,c,env,.mk op num text kids _,σ=>(useE lim 1 σ).bind fun _ σ=>
  if op =1 then qv (intV num) σ
  else if op =2 then qv (xS (num == 1)) σ
  else if op =3 then qv (ya (ints text)) σ
  else if op =4 then (match kQ env text with
   | some v=>qv v σ
   | none=>none)
  else if op =5 then (match F text with
   | some f=>(qK lim F n c env kids σ).bind fun vs σ=>xo lim F n c f vs σ
   | none=>none)
  else match kids with
   | [a]=>if op =6 then none else (qD lim F n c env a σ).bind fun v σ=>
    if op =7 then endE (oneE text v) σ
    else if v.t≠3 then none
    else if op =8 then (useE lim 2 σ).bind fun _ σ=>qv (ya (getM σ.cur v.s)) σ
    else if op =9 then (useE lim 2 σ).bind fun _ σ=>qv (xS (hasM σ.cur v.s)) σ
    else if op =10 then qv (intV v.s.length) σ
    else none
   | [a,b]=>if op≠6 then none else (qD lim F n c env a σ).bind fun v σ=>
    if text =[38,38] then (if v.n =1 then qD lim F n c env b σ else qv (xS false) σ)
    else if text =[124,124] then (if v.n =1 then qv (xS true) σ else qD lim F n c env b σ)
    else (qD lim F n c env b σ).bind fun u σ=>
     if text =[43]/\v.t =3 then (useE lim (((v.s.length+u.s.length:Nat):Int) / 16) σ).bind fun _ σ=>endE (twoE text v u) σ
     else endE (twoE text v u) σ
   | _=>none
def qK (lim:Int) (F:List Nat->Option Xf):Nat->Nat->Env->List Xe->Stt->Ev (List Va)
 | 0,_,_,_,_=>none
 | _+1,_,_,[],σ=>qv [] σ
 | n+1,c,env,e::l,σ=>(qD lim F n c env e σ).bind fun v σ=>(qK lim F n c env l σ).bind fun vs σ=>qv (v::vs) σ
def xo (lim:Int) (F:List Nat->Option Xf):Nat->Nat->Xf->List Va->Stt->Ev Va
 | 0,_,_,_,_=>none
 | n+1,c,f,vs,σ=>if c =16 then some (.trap 4 σ) else
  match jd f.params vs [] with
  | some fr=>(qS lim F n (c+1) [fr] f.body σ).bind fun r σ=>qv (r.1.getD qe) σ
  | none=>none
def qS (lim:Int) (F:List Nat->Option Xf):Nat->Nat->Env->List Xs->Stt->Ev (Option Va×Env)
 | 0,_,_,_,_=>none
 | _+1,_,env,[],σ=>qv (none,env) σ
 | n+1,c,env,s::l,σ=>(ji lim F n c env s σ).bind fun r σ=>
  match r.1 with
  | some v=>qv (some v,r.2) σ
  | none=>qS lim F n c r.2 l σ
def xe (lim:Int) (F:List Nat->Option Xf):Nat->Nat->Env->List Xs->Stt->Ev (Option Va×Env)
 | 0,_,_,_,_=>none
 | n+1,c,env,l,σ=>(qS lim F n c ([]::zap env) l σ).bind fun r σ=>qv (r.1,jj env r.2.tail) σ
def ji (lim:Int) (F:List Nat->Option Xf):Nat->Nat->Env->Xs->Stt->Ev (Option Va×Env)
 | 0,_,_,_,_=>none
 | n+1,c,env,.mk op text exprs body els _,σ=>(useE lim 1 σ).bind fun _ σ=>
  if op =3 then (match exprs with
   | [e]=>(qD lim F n c env e σ).bind fun v σ=>if v.n =1 then xe lim F n c env body σ else xe lim F n c env els σ
   | _=>none)
  else (qK lim F n c env exprs σ).bind fun vs σ=>
   if op =4 then (match vs with
    | [a,b]=>(k7 lim F n c a.n b.n text body ([]::zap env) σ).bind fun r σ=>qv (r.1,jj env r.2.tail) σ
    | _=>none)
   else if op =5 then qv (some (zay vs),env) σ
   else match vs with
    | [a]=>
     if op =1 then qv (none,zfr env text a) σ
     else if op =2 then (match setE env text a with
      | some env'=>qv (none,env') σ
      | none=>none)
     else if op =7 then (if a.t≠3 then none else (delG lim a.s σ).bind fun _ σ=>qv (none,env) σ)
     else if op =8 then qv (none,env) σ
     else none
    | [a,b]=>if op =6/\a.t =3/\b.t =3 then (putG lim a.s b.s σ).bind fun _ σ=>qv (none,env) σ else none
    | _=>none
def k7 (lim:Int) (F:List Nat->Option Xf):Nat->Nat->Int->Int->List Nat->List Xs->Env->Stt->Ev (Option Va×Env)
 | 0,_,_,_,_,_,_,_=>none
 | n+1,c,i,b,text,body,env,σ=>
  if i < b then (useE lim 1 σ).bind fun _ σ=>(xe lim F n c (zfr env text (intV i)) body σ).bind fun r σ=>
   match r.1 with
   | some v=>qv (some v,r.2) σ
   | none=>k7 lim F n c (i+1) b text body r.2 σ
  else qv (none,env) σ
end
structure Adv (lim:Int) (σ τ:Stt):Prop where
 more:σ.used<=τ.used
 most:τ.used<=lim
 past:(σ.hs++[σ.cur]) <+: (τ.hs++[τ.cur])
 count:(τ.hs.length:Int)*4+σ.used<=σ.hs.length*4+τ.used
 right:(∀ s∈σ.hs++[σ.cur],qJ s)->∀ s∈τ.hs++[τ.cur],qJ s
theorem Adv.refl {lim:Int} {σ:Stt} (h:σ.used<=lim):Adv lim σ σ:=⟨Int.le_refl _,h,List.prefix_refl _,by omega,id⟩
theorem Adv.trans {lim:Int} {a b c:Stt} (h:Adv lim a b) (k:Adv lim b c):Adv lim a c:=
 ⟨Int.le_trans h.more k.more,k.most,h.past.trans k.past,by have:=h.count;have:=k.count;omega,fun q=>k.right (h.right q)⟩
def Ends {α:Type} (lim:Int) (σ:Stt) (m:Ev α):Prop:=
 match m with
 | none=>True
 | some (.ok _ τ)=>Adv lim σ τ
 | some (.trap t τ)=>Adv lim σ τ/\t≠0
theorem Ends.bind {α β:Type} {lim:Int} {σ:Stt} {m:Ev α} {f:α->Stt->Ev β} (h:Ends lim σ m) (k:∀ a τ,m =some (.ok a τ)->τ.used<=lim->Ends lim τ (f a τ)):Ends lim σ (m.bind f):=by
 match m,h,k with
 | none,_,_=>trivial
 | some (.trap t τ),h,_=>exact h
 | some (.ok a τ),h,k=>
  have h1:Adv lim σ τ:=h;have h2:=k a τ rfl h1.most;show Ends lim σ (f a τ)
  match f a τ,h2 with
  | none,_=>trivial
  | some (.trap t ρ),h2=>exact ⟨h1.trans h2.1,h2.2⟩
  | some (.ok b ρ),h2=>exact h1.trans h2
theorem qU {α:Type} {lim:Int} {σ:Stt} (a:α) (h:σ.used<=lim):Ends lim σ (qv a σ):=Adv.refl h
theorem vM {lim n:Int} {σ:Stt} (hn:0<=n) (h:σ.used<=lim):Ends lim σ (useE lim n σ):=by
 unfold useE
 split
 ·exact ⟨⟨h,Int.le_refl _,List.prefix_refl _,by simp;omega,id⟩,by decide⟩
 ·exact ⟨by simp;omega,by simp;omega,List.prefix_refl _,by simp;omega,id⟩
theorem zcb {lim:Int} {σ:Stt} (r:Option (Va×Int)) (h:σ.used<=lim):Ends lim σ (endE r σ):=by
 unfold endE
 split
 ·trivial
 ·split
  ·exact qU _ h
  ·exact ⟨Adv.refl h,by assumption⟩
theorem zg5 (hs:List (List PR)) (cur nxt:List PR):(hs++[cur]) <+: ((hs++[cur])++[nxt]):=List.prefix_append _ _
theorem j9 (a b:Nat):4<=xC a b:=by unfold xC;omega
theorem zhr {lim:Int} {σ:Stt} (k v:List Int) (h:σ.used<=lim):Ends lim σ (putG lim k v σ):=by
 have hn:=j9 k.length v.length;unfold putG useE
 split
 ·exact ⟨⟨h,Int.le_refl _,List.prefix_refl _,by simp;omega,id⟩,by decide⟩
 ·show Ends lim σ (wO k v _)
  unfold wO
  split
  ·rename_i hp
   refine ⟨by simp;omega,by simp;omega,zg5 _ _ _,by simp;omega,fun q s hs=>?_⟩;rcases List.mem_append.1 hs with hs|hs
   ·exact q s hs
   ·simp at hs
    rw [hs];exact zbv (q _ (by simp)) hp
  ·show Ends lim σ (some _)
   refine ⟨⟨by simp;omega,by simp;omega,List.prefix_refl _,by simp;omega,id⟩,?_⟩
   split <;> decide
theorem zgv {lim:Int} {σ:Stt} (k:List Int) (h:σ.used<=lim):Ends lim σ (delG lim k σ):=by
 unfold delG useE
 split
 ·exact ⟨⟨h,Int.le_refl _,List.prefix_refl _,by simp;omega,id⟩,by decide⟩
 ·refine ⟨by simp;omega,by simp;omega,zg5 _ _ _,by simp;omega,fun q s hs=>?_⟩
  rcases List.mem_append.1 hs with hs|hs
  ·exact q s hs
  ·simp at hs
   rw [hs];exact zby (q _ (by simp)) k
theorem wS {α:Type} {lim:Int} {σ:Stt}:Ends lim σ (none:Ev α):=trivial
theorem znd {α:Type} {lim:Int} {σ:Stt} {p:Prop} [Decidable p] {a b:Ev α} (h:Ends lim σ a) (k:Ends lim σ b):Ends lim σ (if p then a else b):=by
 split
 ·exact h
 ·exact k
structure zqy (lim:Int) (F:List Nat->Option Xf) (n:Nat):Prop where
 e:∀ c env e σ,σ.used<=lim->Ends lim σ (qD lim F n c env e σ)
 es:∀ c env l σ,σ.used<=lim->Ends lim σ (qK lim F n c env l σ)
 c:∀ c f vs σ,σ.used<=lim->Ends lim σ (xo lim F n c f vs σ)
 b:∀ c env l σ,σ.used<=lim->Ends lim σ (qS lim F n c env l σ)
 i:∀ c env l σ,σ.used<=lim->Ends lim σ (xe lim F n c env l σ)
 s:∀ c env s σ,σ.used<=lim->Ends lim σ (ji lim F n c env s σ)
 l:∀ c i b text body env σ,σ.used<=lim->Ends lim σ (k7 lim F n c i b text body env σ)
theorem zmd (lim:Int) (F:List Nat->Option Xf):∀ n,zqy lim F n
 | 0=>⟨fun _ _ _ _ _=>by unfold qD;trivial,fun _ _ _ _ _=>by unfold qK;trivial,fun _ _ _ _ _=>by unfold xo;trivial,fun _ _ _ _ _=>by unfold qS;trivial,fun _ _ _ _ _=>by unfold xe;trivial,fun _ _ _ _ _=>by unfold ji;trivial,fun _ _ _ _ _ _ _ _=>by unfold k7;trivial⟩
 | n+1=>by
  have ih:=zmd lim F n;refine ⟨?_,?_,?_,?_,?_,?_,?_⟩
  ·intro c env e σ h
   obtain ⟨op,num,text,kids,place⟩:=e;unfold qD;refine (vM (by decide) h).bind fun _ τ _ h=>?_
   repeat' (first
    | exact qU _ h
    | exact wS
    | exact zcb _ h
    | (refine (ih.e _ _ _ _ h).bind fun _ τ _ h=>?_)
    | (refine (ih.es _ _ _ _ h).bind fun _ τ _ h=>?_)
    | (refine (vM (by omega) h).bind fun _ τ _ h=>?_)
    | exact ih.c _ _ _ _ h
    | exact ih.e _ _ _ _ h
    | refine znd ?_ ?_
    | split)
  ·intro c env l σ h
   cases l with
   | nil=>unfold qK;exact qU _ h
   | cons e l=>
    unfold qK;exact (ih.e _ _ _ _ h).bind fun _ τ _ h=>(ih.es _ _ _ _ h).bind fun _ τ _ h=>qU _ h
  ·intro c f vs σ h
   unfold xo
   split
   ·exact ⟨Adv.refl h,by decide⟩
   ·split
    ·exact (ih.b _ _ _ _ h).bind fun _ τ _ h=>qU _ h
    ·exact wS
  ·intro c env l σ h
   cases l with
   | nil=>unfold qS;exact qU _ h
   | cons s l=>
    unfold qS;refine (ih.s _ _ _ _ h).bind fun r τ _ h=>?_
    split
    ·exact qU _ h
    ·exact ih.b _ _ _ _ h
  ·intro c env l σ h
   unfold xe;exact (ih.b _ _ _ _ h).bind fun _ τ _ h=>qU _ h
  ·intro c env s σ h
   obtain ⟨op,text,exprs,body,els,place⟩:=s;unfold ji;refine (vM (by decide) h).bind fun _ τ _ h=>?_
   repeat' (first
    | exact qU _ h
    | exact wS
    | exact zcb _ h
    | (refine (ih.e _ _ _ _ h).bind fun _ τ _ h=>?_)
    | (refine (ih.es _ _ _ _ h).bind fun _ τ _ h=>?_)
    | (refine (ih.l _ _ _ _ _ _ _ h).bind fun _ τ _ h=>?_)
    | (refine (zhr _ _ h).bind fun _ τ _ h=>?_)
    | (refine (zgv _ h).bind fun _ τ _ h=>?_)
    | exact ih.i _ _ _ _ h
    | exact ih.c _ _ _ _ h
    | exact ih.e _ _ _ _ h
    | split)
  ·intro c i b text body env σ h
   unfold k7
   split
   ·refine (vM (by decide) h).bind fun _ τ _ h=>(ih.i _ _ _ _ h).bind fun r τ _ h=>?_
    split
    ·exact qU _ h
    ·exact ih.l _ _ _ _ _ _ _ h
   ·exact qU _ h
def vi {α:Type} (lim':Int) (m m':Ev α):Prop:=
 match m with
 | none=>True
 | some (.ok a τ)=>(τ.used<=lim'->m' =some (.ok a τ))/\(lim' < τ.used->∃ ρ,m' =some (.trap 1 ρ)/\ρ.used =lim')
 | some (.trap t τ)=>t≠1->(τ.used<=lim'->m' =some (.trap t τ))/\(lim' < τ.used->∃ ρ,m' =some (.trap 1 ρ)/\ρ.used =lim')
theorem vi.bind {α β:Type} {lim lim':Int} {σ:Stt} {m m':Ev α} {f f':α->Stt->Ev β} (h:vi lim' m m') (k:∀ a τ,m =some (.ok a τ)->τ.used<=lim'->vi lim' (f a τ) (f' a τ)) (hm:∀ a τ,m =some (.ok a τ)->Ends lim τ (f a τ)):vi lim' (m.bind f) (m'.bind f'):=by
 match m,h,k,hm with
 | none,_,_,_=>trivial
 | some (.trap t τ),h,_,_=>
  intro ht;obtain ⟨h1,h2⟩:=h ht;refine ⟨fun hu=>?_,fun hu=>?_⟩
  ·rw [h1 hu];rfl
  ·obtain ⟨ρ,e,er⟩:=h2 hu
   exact ⟨ρ,by rw [e];rfl,er⟩
 | some (.ok a τ),h,k,hm=>
  obtain ⟨h1,h2⟩:=h;have hE:=hm a τ rfl;have hk:=k a τ rfl;show vi lim' (f a τ) _;by_cases hu:τ.used<=lim'
  ·rw [h1 hu]
   exact hk hu
  ·obtain ⟨ρ,e,er⟩:=h2 (by omega)
   rw [e];show vi lim' (f a τ) (some (.trap 1 ρ))
   match f a τ,hE with
   | none,_=>trivial
   | some (.ok b υ),hE=>
    have:=Adv.more hE;exact ⟨fun h=>by omega,fun _=>⟨ρ,rfl,er⟩⟩
   | some (.trap t υ),hE=>
    have:=Adv.more hE.1;exact fun _=>⟨fun h=>by omega,fun _=>⟨ρ,rfl,er⟩⟩
theorem jI {α:Type} {lim':Int} {σ:Stt} (a:α) (h:σ.used<=lim'):vi lim' (qv a σ) (qv a σ):=⟨fun _=>rfl,fun h'=>by omega⟩
theorem zj8 {lim':Int} {σ:Stt} (r:Option (Va×Int)) (h:σ.used<=lim'):vi lim' (endE r σ) (endE r σ):=by
 unfold endE
 split
 ·trivial
 ·split
  ·exact jI _ h
  ·exact fun _=>⟨fun _=>rfl,fun h'=>by omega⟩
theorem zld {lim lim' n:Int} {σ:Stt} (hn:0<=n):vi lim' (useE lim n σ) (useE lim' n σ):=by
 unfold useE
 split
 ·exact fun h=>absurd rfl h
 ·refine ⟨fun h=>?_,fun h=>?_⟩
  ·rw [if_neg (by simp at h;omega)]
  ·rw [if_pos (by simp at h;omega)]
   exact ⟨_,rfl,rfl⟩
theorem zj7 {lim':Int} {σ:Stt} (k v:List Int) (h:σ.used<=lim'):vi lim' (wO k v σ) (wO k v σ):=by
 unfold wO
 split
 ·exact jI _ h
 ·exact fun _=>⟨fun _=>rfl,fun h'=>by omega⟩
theorem zj9 {lim':Int} {σ:Stt} (k:List Int) (h:σ.used<=lim'):vi lim' (zpo k σ) (zpo k σ):=jI _ h
theorem zds {α:Type} {lim:Int} {σ τ:Stt} {m:Ev α} {a:α} (h:Ends lim σ m) (e:m =some (.ok a τ)):τ.used<=lim:=by
 rw [e] at h;exact Adv.most h
structure Both {α:Type} (lim lim':Int) (σ:Stt) (m m':Ev α):Prop where
 e:Ends lim σ m
 a:σ.used<=lim'->vi lim' m m'
theorem Both.bind {α β:Type} {lim lim':Int} {σ:Stt} {m m':Ev α} {f f':α->Stt->Ev β} (h:Both lim lim' σ m m') (k:∀ a τ,τ.used<=lim->Both lim lim' τ (f a τ) (f' a τ)):Both lim lim' σ (m.bind f) (m'.bind f'):=
 ⟨h.e.bind fun a τ _ hu=>(k a τ hu).e,fun hl=>(h.a hl).bind (lim:=lim) (σ:=σ) (fun a τ e hu=>(k a τ (zds h.e e)).a hu) fun a τ e=>(k a τ (zds h.e e)).e⟩
theorem Both.ite {α:Type} {lim lim':Int} {σ:Stt} {p:Prop} [Decidable p] {a a' b b':Ev α} (h:p->Both lim lim' σ a a') (k:¬p->Both lim lim' σ b b'):Both lim lim' σ (if p then a else b) (if p then a' else b'):=by
 split
 ·exact h (by assumption)
 ·exact k (by assumption)
theorem zS {α:Type} {lim lim':Int} {σ:Stt} (a:α) (h:σ.used<=lim):Both lim lim' σ (qv a σ) (qv a σ):=⟨qU a h,jI a⟩
theorem zN {α:Type} {lim lim':Int} {σ:Stt} {m:Ev α}:Both lim lim' σ none m:=⟨trivial,fun _=>trivial⟩
theorem zb9 {lim lim':Int} {σ:Stt} (r:Option (Va×Int)) (h:σ.used<=lim):Both lim lim' σ (endE r σ) (endE r σ):=⟨zcb r h,zj8 r⟩
theorem jL {lim lim' n:Int} {σ:Stt} (hn:0<=n) (h:σ.used<=lim):Both lim lim' σ (useE lim n σ) (useE lim' n σ):=⟨vM hn h,fun _=>zld hn⟩
theorem zn6 {lim lim':Int} {σ:Stt} (k v:List Int) (h:σ.used<=lim):Both lim lim' σ (putG lim k v σ) (putG lim' k v σ):=by
 refine ⟨zhr k v h,fun hl=>?_⟩;have hn:=j9 k.length v.length;unfold putG useE
 split
 ·exact fun h=>absurd rfl h
 ·show vi lim' (wO k v _) _
  by_cases hu:σ.used+xC k.length v.length<=lim'
  ·rw [if_neg (by omega)]
   show vi lim' _ (wO k v _);exact zj7 k v hu
  ·rw [if_pos (by omega)]
   show vi lim' _ (some _);unfold wO
   split
   ·exact ⟨fun h=>by simp at h;omega,fun _=>⟨_,rfl,rfl⟩⟩
   ·exact fun _=>⟨fun h=>by simp at h;omega,fun _=>⟨_,rfl,rfl⟩⟩
theorem zmq {lim lim':Int} {σ:Stt} (k:List Int) (h:σ.used<=lim):Both lim lim' σ (delG lim k σ) (delG lim' k σ):=by
 refine ⟨zgv k h,fun hl=>?_⟩;unfold delG useE
 split
 ·exact fun h=>absurd rfl h
 ·by_cases hu:σ.used+4<=lim'
  ·rw [if_neg (by omega)]
   exact zj9 k hu
  ·rw [if_pos (by omega)]
   exact ⟨fun h=>by simp at h;omega,fun _=>⟨_,rfl,rfl⟩⟩
structure zrs (lim lim':Int) (F:List Nat->Option Xf) (n:Nat):Prop where
 e:∀ c env e σ,σ.used<=lim->Both lim lim' σ (qD lim F n c env e σ) (qD lim' F n c env e σ)
 es:∀ c env l σ,σ.used<=lim->Both lim lim' σ (qK lim F n c env l σ) (qK lim' F n c env l σ)
 c:∀ c f vs σ,σ.used<=lim->Both lim lim' σ (xo lim F n c f vs σ) (xo lim' F n c f vs σ)
 b:∀ c env l σ,σ.used<=lim->Both lim lim' σ (qS lim F n c env l σ) (qS lim' F n c env l σ)
 i:∀ c env l σ,σ.used<=lim->Both lim lim' σ (xe lim F n c env l σ) (xe lim' F n c env l σ)
 s:∀ c env s σ,σ.used<=lim->Both lim lim' σ (ji lim F n c env s σ) (ji lim' F n c env s σ)
 l:∀ c i b text body env σ,σ.used<=lim->Both lim lim' σ (k7 lim F n c i b text body env σ) (k7 lim' F n c i b text body env σ)
theorem zjq (lim lim':Int) (F:List Nat->Option Xf):∀ n,zrs lim lim' F n
 | 0=>⟨fun _ _ _ _ _=>by unfold qD;exact zN,fun _ _ _ _ _=>by unfold qK;exact zN,fun _ _ _ _ _=>by unfold xo;exact zN,fun _ _ _ _ _=>by unfold qS;exact zN,fun _ _ _ _ _=>by unfold xe;exact zN,fun _ _ _ _ _=>by unfold ji;exact zN,fun _ _ _ _ _ _ _ _=>by unfold k7;exact zN⟩
 | n+1=>by
  have ih:=zjq lim lim' F n;refine ⟨?_,?_,?_,?_,?_,?_,?_⟩
  ·intro c env e σ h
   obtain ⟨op,num,text,kids,place⟩:=e;unfold qD;refine (jL (by decide) h).bind fun _ τ h=>?_;refine .ite (fun _=>zS _ h) fun _=>.ite (fun _=>zS _ h) fun _=>.ite (fun _=>zS _ h) fun _=>.ite (fun _=>?_) fun _=>.ite (fun _=>?_) fun _=>?_
   ·cases kQ env text with
    | none=>exact zN
    | some v=>exact zS _ h
   ·cases F text with
    | none=>exact zN
    | some f=>exact (ih.es _ _ _ _ h).bind fun _ τ h=>ih.c _ _ _ _ h
   ·match kids with
    | []=>exact zN
    | [a]=>
     refine .ite (fun _=>zN) fun _=>(ih.e _ _ _ _ h).bind fun v τ h=>?_;refine .ite (fun _=>zb9 _ h) fun _=>.ite (fun _=>zN) fun _=>.ite (fun _=>?_) fun _=>.ite (fun _=>?_) fun _=>.ite (fun _=>zS _ h) fun _=>zN
     ·exact (jL (by decide) h).bind fun _ τ h=>zS _ h
     ·exact (jL (by decide) h).bind fun _ τ h=>zS _ h
    | [a,b]=>
     refine .ite (fun _=>zN) fun _=>(ih.e _ _ _ _ h).bind fun v τ h=>?_;refine .ite (fun _=>.ite (fun _=>ih.e _ _ _ _ h) fun _=>zS _ h) fun _=>.ite (fun _=>.ite (fun _=>zS _ h) fun _=>ih.e _ _ _ _ h) fun _=>?_;refine (ih.e _ _ _ _ h).bind fun u τ h=>.ite (fun _=>?_) fun _=>zb9 _ h;exact (jL (by omega) h).bind fun _ τ h=>zb9 _ h
    | _::_::_::_=>exact zN
  ·intro c env l σ h
   cases l with
   | nil=>unfold qK;exact zS _ h
   | cons e l=>
    unfold qK;exact (ih.e _ _ _ _ h).bind fun _ τ h=>(ih.es _ _ _ _ h).bind fun _ τ h=>zS _ h
  ·intro c f vs σ h
   unfold xo
   split
   ·exact ⟨⟨Adv.refl h,by decide⟩,fun hl _=>⟨fun _=>rfl,fun h'=>by omega⟩⟩
   ·split
    ·exact (ih.b _ _ _ _ h).bind fun _ τ h=>zS _ h
    ·exact zN
  ·intro c env l σ h
   cases l with
   | nil=>unfold qS;exact zS _ h
   | cons s l=>
    unfold qS;refine (ih.s _ _ _ _ h).bind fun r τ h=>?_
    split
    ·exact zS _ h
    ·exact ih.b _ _ _ _ h
  ·intro c env l σ h
   unfold xe;exact (ih.b _ _ _ _ h).bind fun _ τ h=>zS _ h
  ·intro c env s σ h
   obtain ⟨op,text,exprs,body,els,place⟩:=s;unfold ji;refine (jL (by decide) h).bind fun _ τ h=>.ite (fun _=>?_) fun _=>(ih.es _ _ _ _ h).bind fun vs τ h=>.ite (fun _=>?_) fun _=>.ite (fun _=>zS _ h) fun _=>?_
   ·match exprs with
    | []=>exact zN
    | [e]=>exact (ih.e _ _ _ _ h).bind fun v τ h=>.ite (fun _=>ih.i _ _ _ _ h) fun _=>ih.i _ _ _ _ h
    | _::_::_=>exact zN
   ·match vs with
    | []=>exact zN
    | [_]=>exact zN
    | [a,b]=>exact (ih.l _ _ _ _ _ _ _ h).bind fun _ τ h=>zS _ h
    | _::_::_::_=>exact zN
   ·match vs with
    | []=>exact zN
    | [a]=>
     refine .ite (fun _=>zS _ h) fun _=>.ite (fun _=>?_) fun _=>.ite (fun _=>.ite (fun _=>zN) fun _=>?_) fun _=>.ite (fun _=>zS _ h) fun _=>zN
     ·cases setE env text a with
      | none=>exact zN
      | some e=>exact zS _ h
     ·exact (zmq _ h).bind fun _ τ h=>zS _ h
    | [a,b]=>exact .ite (fun _=>(zn6 _ _ h).bind fun _ τ h=>zS _ h) fun _=>zN
    | _::_::_::_=>exact zN
  ·intro c i b text body env σ h
   unfold k7
   split
   ·refine (jL (by decide) h).bind fun _ τ h=>(ih.i _ _ _ _ h).bind fun r τ h=>?_
    split
    ·exact zS _ h
    ·exact ih.l _ _ _ _ _ _ _ h
   ·exact zS _ h
end
section
def xT (fs:List Xf):List Nat->Option Xf:=fun s=>fs.find? (fun f=>f.name == s)
def G1 {α:Type} (lim:Int) (m:Ev α):Prop:=
 match m with
 | some (.trap t τ)=>t =1->τ.used =lim
 | _=>True
def vg (lim:Int) (F:List Nat->Option Xf) (f:Xf) (vs:List Va) (σ:Stt) (r:Ou Va):Prop:=∃ N,∀ n,N<=n->xo lim F n 0 f vs σ =some r
theorem vg.at {lim:Int} {F:List Nat->Option Xf} {f:Xf} {vs:List Va} {σ:Stt} {r:Ou Va} (h:vg lim F f vs σ r):∃ n,xo lim F n 0 f vs σ =some r:=by
 obtain ⟨N,h⟩:=h;exact ⟨N,h N (zzA0 _)⟩
theorem vg.ends {lim:Int} {F:List Nat->Option Xf} {f:Xf} {vs:List Va} {σ:Stt} {r:Ou Va} (h:vg lim F f vs σ r) (hu:σ.used<=lim):Ends lim σ (some r):=by
 obtain ⟨n,h⟩:=h.at;rw [<- h];exact (zmd lim F n).c _ _ _ _ hu
end
section
theorem zhq {lim:Int} {F:List Nat->Option Xf} {f:Xf} {vs:List Va} {σ:Stt} {r:Ou Va} (h:∀ m,xo lim F (m+40) 0 f vs σ =some r):vg lim F f vs σ r:=⟨40,fun n hn=>by
 obtain ⟨m,rfl⟩:=Nat.exists_eq_add_of_le' hn
 exact h m⟩
def hdF0:Xf:=⟨[102],[([97],1)],1,[.mk 5 [] [.mk 6 0 [47] [.mk 4 0 [97] [] 27,.mk 1 0 [] [] 31] 29] [] [] 20],0⟩
def hdF1:Xf:=⟨[103],[([97],1)],1,[.mk 5 [] [.mk 6 0 [43] [.mk 4 0 [97] [] 63,.mk 1 1 [] [] 67] 65] [] [] 56],36⟩
def hdFX:List Xf:=[hdF0,hdF1]
def keF0:Xf:=⟨[112],[([107],3),([118],3)],0,[.mk 6 [] [.mk 4 0 [107] [] 31,.mk 4 0 [118] [] 34] [] [] 27],0⟩
def keF1:Xf:=⟨[103],[([107],3)],3,[.mk 5 [] [.mk 8 0 [] [.mk 4 0 [107] [] 75] 71] [] [] 64],40⟩
def keF2:Xf:=⟨[104],[([107],3)],2,[.mk 5 [] [.mk 9 0 [] [.mk 4 0 [107] [] 115] 111] [] [] 104],81⟩
def keF3:Xf:=⟨[100],[([107],3)],0,[.mk 7 [] [.mk 4 0 [107] [] 142] [] [] 138],121⟩
def keFX:List Xf:=[keF0,keF1,keF2,keF3]
theorem hd_f:vg 100 (xT hdFX) hdF0 [intV 0] ⟨0,[],[]⟩ (.trap 2 ⟨4,[],[]⟩):=zhq fun m=>by simp [xo,hdF0,jd,qS,ji,qK,qD,useE,qv,Ev.bind,kQ,seek,List.find?,updF,intV,twoE,divI,endE,qe]
theorem hd_g:vg 100 (xT hdFX) hdF1 [intV 4] ⟨0,[],[]⟩ (.ok (intV 5) ⟨4,[],[]⟩):=zhq fun m=>by simp [xo,hdF1,jd,qS,ji,qK,qD,useE,qv,Ev.bind,kQ,seek,List.find?,updF,intV,twoE,fitI,endE,qe,zay]
theorem zej {lim n u:Int} {hs:List (List PR)} {cur:List PR} (h:u+n<=lim):useE lim n ⟨u,hs,cur⟩ =some (.ok () ⟨u+n,hs,cur⟩):=by
 unfold useE;rw [if_neg (by show ¬ n > lim-u;omega)]
theorem wW {α β:Type} (a:α) (σ:Stt) (f:α->Stt->Ev β):Ev.bind (some (.ok a σ)) f =f a σ:=rfl
theorem vp {α β:Type} (t:Int) (σ:Stt) (f:α->Stt->Ev β):Ev.bind (some (.trap t σ)) f =some (.trap t σ):=rfl
theorem zyv (F:List Nat->Option Xf) (k v:List Int) (hs:List (List PR)) (cur:List PR) (hk:k.length<=256) (hv:v.length<=256) :
  vg 1000 F keF0 [ya k,ya v] ⟨0,hs,cur⟩ (if putE cur k v =0 then .ok qe ⟨3+xC k.length v.length,hs++[cur],putM cur k v⟩ else .trap (if putE cur k v =1 then 6 else 5) ⟨3+xC k.length v.length,hs,cur⟩):=zhq fun m=>by
 have hc:xC k.length v.length<=36:=by unfold xC;omega
 have hp:putG 1000 k v ⟨3,hs,cur⟩ =if putE cur k v =0 then some (.ok () ⟨3+xC k.length v.length,hs++[cur],putM cur k v⟩) else some (.trap (if putE cur k v =1 then 6 else 5) ⟨3+xC k.length v.length,hs,cur⟩):=by
  unfold putG;rw [zej (by omega),wW];rfl
 by_cases h:putE cur k v =0
 ·rw [if_pos h] at hp
  simp (disch:=omega) [xo,keF0,hp,h,ya,jd,qS,ji,qK,qD,zej,wW,vp,qv,kQ,seek,List.find?,updF,endE,zay,zap,jj]
 ·rw [if_neg h] at hp
  simp (disch:=omega) [xo,keF0,hp,h,ya,jd,qS,ji,qK,qD,zej,wW,vp,qv,kQ,seek,List.find?,updF,endE,zay,zap,jj]
theorem zyw (F:List Nat->Option Xf) (k:List Int) (hs:List (List PR)) (cur:List PR):vg 1000 F keF1 [ya k] ⟨0,hs,cur⟩ (.ok (ya (getM cur k)) ⟨5,hs,cur⟩):=zhq fun m=>by
 simp (disch:=omega) [xo,keF1,ya,jd,qS,ji,qK,qD,zej,wW,vp,qv,kQ,seek,List.find?,updF,endE,zay,zap,jj]
theorem zxx (F:List Nat->Option Xf) (k:List Int) (hs:List (List PR)) (cur:List PR):vg 1000 F keF2 [ya k] ⟨0,hs,cur⟩ (.ok (xS (hasM cur k)) ⟨5,hs,cur⟩):=zhq fun m=>by
 simp (disch:=omega) [xo,keF2,ya,jd,qS,ji,qK,qD,zej,wW,vp,qv,kQ,seek,List.find?,updF,endE,zay,zap,jj]
theorem zys (F:List Nat->Option Xf) (k:List Int) (hs:List (List PR)) (cur:List PR):vg 1000 F keF3 [ya k] ⟨0,hs,cur⟩ (.ok qe ⟨6,hs++[cur],delM cur k⟩):=zhq fun m=>by
 simp (disch:=omega) [xo,keF3,ya,delG,zpo,jd,qS,ji,qK,qD,zej,wW,vp,qv,kQ,seek,List.find?,updF,endE,zay,zap,jj]
end
end Go.Proofs.YtcilgkdnjgmogaaGreatDoor
