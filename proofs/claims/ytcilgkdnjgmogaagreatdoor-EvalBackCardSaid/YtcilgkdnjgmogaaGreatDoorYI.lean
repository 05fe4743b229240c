/- A part of the proof. -/
import Derived.Test.YtcilgkdnjgmogaaGreatDoorYH
import Derived.Deep.MidRow
import Derived.Deep.Slices
import Derived.Deep.QuietTactic
import Derived.BigQuiet
import Derived.Lib.Bytealg
import Derived.Lib.Bytes
import Derived.Lib.Hide
import Derived.Maps.AppendAt
namespace Go.Proofs.YtcilgkdnjgmogaaGreatDoor
open Go.Proofs.Tryz
set_option maxRecDepth 100000
set_option maxHeartbeats 12800000
set_option linter.all false
variable {A:Option Addr} {B B' c i k m n:Nat} {D D':Nat->Prop} {e:TypeId} {u:Value} {us vs xs:List Value} {w w':World}
section
section
open Go.RowKit
def SB(w:World)(B:Nat)(u:Value)(l:List Int):Prop:=∃A c,u=.slice A l.length c/\l.length<=c/\c<=maxLen/\Lies w B A c (zA l)/\Byt l
def SB.below{l:List Int}(h:SB w B u l)(hb:Below B w w'):SB w' B u l:=by
 obtain⟨A,c,h1,h2,h3,h4,h5⟩:=h;exact⟨A,c,h1,h2,h3,h4.below hb,h5⟩
def SB.more{l:List Int}(h:SB w B u l)(hB:B<=B'):SB w B' u l:=by
 obtain⟨A,c,h1,h2,h3,h4,h5⟩:=h;exact⟨A,c,h1,h2,h3,h4.more hB,h5⟩
def SB.byt{l:List Int}(h:SB w B u l):Byt l:=h.choose_spec.choose_spec.2.2.2.2
def SB.str{l:List Int}(h:SB w B u l):(convert 22 9 u).run prog w=.ok (.string (strOfNums l)) w:=by
 obtain⟨A,c,rfl,h2,h3,h4,h5⟩:=h;exact js w 22 9 5 underlying22 underlying5 underlying9 B A l.length c l rfl h4
def SB.one{l:List Int}(h:SB w B u l):u.oneCell'=true:=by
 obtain⟨A,c,rfl,_⟩:=h;rfl
def SB.nil(w:World)(B:Nat):SB w B (.slice none 0 0) []:=⟨none,0,rfl,aR _,aK _,Lies.nothing _ _,Byt.nil⟩
inductive PsC(w:World)(B:Nat):List PR->List Value->Prop
 | nil:PsC w B [] []
 | cons {p:PR} {l:List PR} {u v:Value} {vs:List Value} (h1:SB w B u p.1) (h2:SB w B v p.2) (h3:PsC w B l vs):PsC w B (p::l) (u::v::vs)
def PsC.mono(hm:∀u l,SB w B u l->SB w' B' u l){l:List PR}(h:PsC w B l vs):PsC w' B' l vs:=by
 induction h with
 | nil=>exact .nil
 | cons h1 h2 _ ih=>exact .cons (hm _ _ h1) (hm _ _ h2) ih
def PsC.low{l:List PR}(h:PsC w B l vs)(hb:Below B w w'):PsC w' B l vs:=h.mono fun _ _ h=>h.below hb
def PsC.more{l:List PR}(h:PsC w B l vs)(hB:B<=B'):PsC w B' l vs:=h.mono fun _ _ h=>h.more hB
def PsC.len{l:List PR}(h:PsC w B l vs):vs.length=l.length*2:=by
 induction h with
 | nil=>rfl
 | cons _ _ _ ih=>simp only[aB,ih];omega
def PsC.one{l:List PR}(h:PsC w B l vs):∀u∈vs,u.oneCell'=true:=by
 induction h with
 | nil=>intro u hu;cases hu
 | cons h1 h2 _ ih=>
  intro u hu;rcases aC.1 hu with e|e
  ·rw[e];exact h1.one
  ·rcases aC.1 e with e|e
   ·rw[e];exact h2.one
   ·exact ih u e
def PsC.append{l m:List PR}(h:PsC w B l vs)(h':PsC w B m us):PsC w B (l++m) (vs++us):=by
 induction h with
 | nil=>exact h'
 | cons h1 h2 _ ih=>exact .cons h1 h2 ih
def PsC.take{l:List PR}(h:PsC w B l vs):∀k,PsC w B (l.take k) (vs.take (k*2)):=by
 induction h with
 | nil=>intro k;simp;exact .nil
 | @cons p l u v vs h1 h2 _ ih=>
  intro k;cases k with
  | zero=>simp;exact .nil
  | succ k=>
   rw[show(k+1)*2=k*2+1+1 by omega,List.take_succ_cons,List.take_succ_cons,List.take_succ_cons];exact .cons h1 h2 (ih k)
def PsC.drop{l:List PR}(h:PsC w B l vs):∀k,PsC w B (l.drop k) (vs.drop (k*2)):=by
 induction h with
 | nil=>intro k;simp;exact .nil
 | @cons p l u v vs h1 h2 h3 ih=>
  intro k;cases k with
  | zero=>exact .cons h1 h2 h3
  | succ k=>
   rw[show(k+1)*2=k*2+1+1 by omega,List.drop_succ_cons,List.drop_succ_cons,List.drop_succ_cons];exact ih k
def PsC.get{l:List PR}(h:PsC w B l vs):∀ {i:Nat} {p:PR},l[i]? =some p->∃u v,vs[i*2]? =some u/\vs[i*2+1]? =some v/\SB w B u p.1/\SB w B v p.2:=by
 induction h with
 | nil=>intro i p hp;simp at hp
 | @cons q l u v vs h1 h2 _ ih=>
  intro i p hp;cases i with
  | zero=>
   simp at hp;subst hp;exact⟨u,v,rfl,rfl,h1,h2⟩
  | succ i=>
   obtain⟨u',v',g1,g2,g3⟩:=ih (i:=i) (p:=p) (by simpa using hp);refine⟨u',v',?_,?_,g3⟩
   ·rw[show(i+1)*2=i*2+1+1 by omega];simpa using g1
   ·rw[show(i+1)*2+1=i*2+1+1+1 by omega];simpa using g2
def Prs(w:World)(B:Nat)(A:Option Addr)(c:Nat)(ls:List PR):Prop:=∃vs,Lies w B A c vs/\PsC w B ls vs
def Prs.nothing(w:World)(B:Nat):Prs w B none 0 []:=⟨[],Lies.nothing _ _,.nil⟩
def Prs.below{ls:List PR}(h:Prs w B A c ls)(hb:Below B w w'):Prs w' B A c ls:=by
 obtain⟨vs,h1,h2⟩:=h;exact⟨vs,h1.below hb,h2.low hb⟩
def Prs.more{ls:List PR}(h:Prs w B A c ls)(hB:B<=B'):Prs w B' A c ls:=by
 obtain⟨vs,h1,h2⟩:=h;exact⟨vs,h1.more hB,h2.more hB⟩
def Prs.none_nil{ls:List PR}(h:Prs w B none c ls):ls=[]/\c=0:=by
 obtain⟨vs,h1,h2⟩:=h;have h3:=h1.none_nil;have h4:=h2.len;rw[h3.1]at h4;exact⟨List.eq_nil_of_length_eq_zero (by simp at h4;omega),h3.2⟩
def Prs.get{ls:List PR}(h:Prs w B A c ls){p:PR}(hp:ls[i]? =some p):∃b o u v,A=some ⟨b,o,none⟩/\b<B/\w.cell? ⟨b,o+i*2,none⟩=some u/\w.cell? ⟨b,o+(i*2+1),none⟩=some v/\SB w B u p.1/\SB w B v p.2:=by
 obtain⟨vs,h1,h2⟩:=h;obtain⟨u,v,g1,g2,g3,g4⟩:=h2.get hp;obtain⟨ad,rfl,hB,hc⟩:=h1.2 _ _ g1;obtain⟨ad',e,_,hc'⟩:=h1.2 _ _ g2;injection e with e
 subst e;obtain⟨b,o,s⟩:=ad;have hs:s=none:=by
  have hl:i*2<vs.length:=(vm.1 g1).1;obtain⟨ad0,e0,_,hc0⟩:=h1.2 0 _ (vp (by omega));injection e0 with e0
  subst e0;exact World.cell?_spot hc0
 subst hs;rw[Addr.add_mid]at hc hc';exact⟨b,o,u,v,rfl,hB,hc,hc',g3,g4⟩
def zem{b o:Nat}{u v:Value}(h1:w.cell? ⟨b,o,none⟩=some u)(h2:w.cell? ⟨b,o+1,none⟩=some v):w.rangeAt b o [u,v]:=by
 intro j x hx
 match j,hx with
 | 0,hx=>simp at hx;subst hx;exact h1
 | 1,hx=>simp at hx;subst hx;exact h2
def zxq{base:Nat}{s:Nat}{v:Value}(h:w.ownsRow base e s v n xs):∃A c,v=.slice A n c/\n<=c/\c<=maxLen/\Lies w w.heap.size A c xs:=by
 rcases h.2 with⟨rfl,rfl⟩|⟨g,cap,cur,rfl,hb,hg,hn,hm,hs,ht⟩
 ·have:xs=[]:=List.eq_nil_of_length_eq_zero (by simpa using h.1);subst this;exact⟨none,0,rfl,aR _,aK _,Lies.nothing _ _⟩
 ·exact⟨_,_,rfl,hn,hm,(fun e=>by cases e),fun j u hu=>⟨_,rfl,(h.lt g rfl).2,h.cells rfl j u hu⟩⟩
def zj0:∀ {a b:List Int},Byt a->Byt b->Lib.bytesOf a=Lib.bytesOf b->a=b
 | [],[],_,_,_=>rfl
 | [],_::_,_,_,h=>by simp[Lib.bytesOf]at h
 | _::_,[],_,_,h=>by simp[Lib.bytesOf]at h
 | x::a,y::b,ha,hb,h=>by
  have hx:=ha x (List.mem_cons_self ..);have hy:=hb y (List.mem_cons_self ..);simp only[Lib.bytesOf,List.map_cons,aN]at h;have h1:=congrArg UInt8.toNat h.1;simp only[UInt8.toNat_ofNat']at h1;rw[zj0 (ha.sub fun z hz=>List.mem_cons_of_mem _ hz) (hb.sub fun z hz=>List.mem_cons_of_mem _ hz) h.2,show x=y by omega]
def zst{a b:List Int}(ha:Byt a)(hb:Byt b):((strOfNums a).toList==(strOfNums b).toList)=decide (a=b):=by
 rw[Lib.strOfNums_toList,Lib.strOfNums_toList,Bool.eq_iff_iff];simp only[beq_iff_eq,decide_eq_true_eq];exact⟨zj0 ha hb,fun h=>by rw[h]⟩
def ztn{x y:Int}(hx:0<=x/\x<256)(hy:0<=y/\y<256):(UInt8.ofNat x.toNat<UInt8.ofNat y.toNat) ↔ x<y:=by
 rw[UInt8.lt_iff_toNat_lt];simp only[UInt8.toNat_ofNat'];omega
def zey:∀ {a b:List Int},Byt a->Byt b->Lib.compareBytes (Lib.bytesOf a) (Lib.bytesOf b)=cmpB a b
 | [],[],_,_=>rfl
 | [],_::_,_,_=>rfl
 | _::_,[],_,_=>rfl
 | x::a,y::b,ha,hb=>by
  have hx:=ha x (List.mem_cons_self ..);have hy:=hb y (List.mem_cons_self ..);have ih:=zey (ha.sub fun z hz=>List.mem_cons_of_mem _ hz) (hb.sub fun z hz=>List.mem_cons_of_mem _ hz);show(if UInt8.ofNat x.toNat<UInt8.ofNat y.toNat then(-1:Int)else if UInt8.ofNat y.toNat<UInt8.ofNat x.toNat then 1 else Lib.compareBytes (Lib.bytesOf a) (Lib.bytesOf b))=_;unfold cmpB;simp only[ztn hx hy,ztn hy hx,ih]
def zAh:∀ {a b:List Int},Byt a->Byt b->Op.bytesLess (Lib.bytesOf a) (Lib.bytesOf b)=decide (cmpB a b<0)
 | [],[],_,_=>rfl
 | [],_::_,_,_=>rfl
 | _::_,[],_,_=>rfl
 | x::a,y::b,ha,hb=>by
  have hx:=ha x (List.mem_cons_self ..);have hy:=hb y (List.mem_cons_self ..);have ih:=zAh (ha.sub fun z hz=>List.mem_cons_of_mem _ hz) (hb.sub fun z hz=>List.mem_cons_of_mem _ hz);show(decide (UInt8.ofNat x.toNat<UInt8.ofNat y.toNat) || (UInt8.ofNat x.toNat==UInt8.ofNat y.toNat&&Op.bytesLess (Lib.bytesOf a) (Lib.bytesOf b)))=_;rw[ih];have hu:cmpB (x::a) (y::b)=if x<y then -1 else if y<x then 1 else cmpB a b:=rfl
  rw[hu];by_cases h:x<y
  ·have:=(ztn hx hy).2 h;simp[h,this]
  ·have h1:¬UInt8.ofNat x.toNat<UInt8.ofNat y.toNat:=fun h'=>h ((ztn hx hy).1 h');by_cases h2:y<x
   ·have h3:(UInt8.ofNat x.toNat==UInt8.ofNat y.toNat)=false:=by
     rw[yI];intro e;have:=(ztn hy hx).2 h2;rw[e]at this;exact absurd this (UInt8.lt_irrefl _)
    simp[h,h2,h1,h3]
   ·obtain rfl:x=y:=by omega
    simp
def zC2{a b:List Int}(ha:Byt a)(hb:Byt b):Op.bytesLess (strOfNums a).toList (strOfNums b).toList=decide (cmpB a b<0):=by
 rw[Lib.strOfNums_toList,Lib.strOfNums_toList,zAh ha hb]
def zy4{P:Program}(w:World):∀(l:List Int) (a:Addr) (acc:ByteArray),(∀j u,(zA l)[j]? =some u->w.cell? (a.add j)=some u) ->
  (Extern.Bytes.loadBytes a l.length acc).run P w=.ok ⟨acc.data++(Lib.bytesOf l).toArray⟩ w
 | [],a,acc,_=>by simp[Extern.Bytes.loadBytes,Lib.bytesOf]
 | x::l,a,acc,h=>by
  have h0:=h 0 (.int .u8 x) rfl;have e:a.add 0=a:=by unfold Addr.add;split<;>simp_all
  rw[e]at h0;have ih:=zy4 (P:=P) w l (a.add 1) (acc.push x.toNat.toUInt8) fun j u hu=>by
   rw[Deep.add_add,Nat.add_comm];exact h (j+1) u (by simpa using hu)
  have hl:(load a).run P w=.ok (.int .u8 x) w:=by simp[h0]
  show(load a >>= fun q=>match q with
   | .int .u8 b=>Extern.Bytes.loadBytes (a.add 1) l.length (acc.push b.toNat.toUInt8)
   | _=>stuck "loadBytes: a byte expected").run P w=_
  rw[Sem.run_bind,hl];simp only[Result.andThen];rw[ih];simp[Lib.bytesOf,ByteArray.push]
def SB.raw{P:Program}{l:List Int}(h:SB w B u l):(Extern.Bytes.bytesOf u).run P w=.ok ⟨(Lib.bytesOf l).toArray⟩ w:=by
 obtain⟨A,c,rfl,h2,h3,h4,h5⟩:=h;cases A with
 | none=>
  have h:=h4.none_nil.1;have hl:l=[]:=by simpa using h
  subst hl;rfl
 | some ad=>
  show(Extern.Bytes.loadBytes ad l.length .empty).run P w=_
  rw[zy4 w l ad .empty fun j u hu=>by
   obtain⟨ad',e',_,hc⟩:=h4.2 j u hu;injection e' with e'
   subst e'
   exact hc]
  simp[ByteArray.empty,ByteArray.emptyWithCapacity];rfl
def zfq{P:Program}{u v:Value}{a b:List Int}(hu:SB w B u a)(hv:SB w B v b):(Extern.BytealgCompare.compare #[u,v]).run P w=.ok (.int .i64 (cmpB a b)) w:=by
 change Sem.run P (do pure (goInt (Extern.BytealgCompare.cmp (<- Extern.Bytes.bytesOf u) (<- Extern.Bytes.bytesOf v)))) w=_
 simp only[Sem.run_bind,hu.raw,hv.raw,Sem.run_pure,Result.andThen];rw[Lib.cmp_eq];show Result.ok (Value.int .i64 (Lib.compareBytes (Lib.bytesOf a) (Lib.bytesOf b))) w=_;rw[zey hu.byt hv.byt]
def zo2(u v:Value)(a b:List Int)(w:World)(B:Nat)(hu:SB w B u a)(hv:SB w B v b):Calls prog 296 #[u,v] w fun e w'=>e=.returned (.bool (decide (a=b)))/\w=w':=by
 have HE:=aQ (zst hu.byt hv.byt);have d1:=hu.str;have d2:=hv.str;clear hu hv;rw[<- HE.out];clear HE
 generalize strOfNums a=s at *
 generalize strOfNums b=t at *
 go_enter func296,ntmps296;go_wp2;go_ret;exact⟨rfl,rfl⟩
def zgi(u v:Value)(a b:List Int)(w:World)(B:Nat)(hu:SB w B u a)(hv:SB w B v b):Calls prog 76 #[u,v] w fun e w'=>e=.returned (.int .i64 (cmpB a b))/\w=w':=by
 have HC:=aQ (zfq (P:=prog) hu hv);clear hu hv
 generalize cmpB a b=r at *
 go_enter func76,ntmps76;go_wp2;rw[run_callFunc_extern func127 (by kernel_rfl) (by kernel_rfl) (by kernel_rfl) (e:=Extern.BytealgCompare.compare) (by kernel_rfl),HC.out];simp only[Result.andThen];rw[Oper.upon_value];go_wp2;go_ret;exact⟨rfl,rfl⟩
def zkh:(prog.info? 119).map (fun i=>(i.zero,i.size,i.bytes))=some (some (.agg #[.slice none 0 0,.slice none 0 0]),2,48):=by kernel_rfl
def kC:(prog.info? 119).map (·.size)=some 2:=by kernel_rfl
def zp7:Ent 295:=by intro args w;simp
def zse:Ent 320:=by intro args w;simp
def SB.on{l:List Int}(h:SB w w.heap.size u l)(hb:Below w.heap.size w w'):SB w' w'.heap.size u l:=(h.below hb).more hb.size
def Prs.on{ls:List PR}(h:Prs w w.heap.size A c ls)(hb:Below w.heap.size w w'):Prs w' w'.heap.size A c ls:=(h.below hb).more hb.size
def Asks(fn Bc:Nat)(f:PR->Bool)(w:World):Prop:=
 ∀w' p u v,Below w.heap.size w w'->SB w' w'.heap.size u p.1->SB w' w'.heap.size v p.2->Calls prog fn #[.agg #[u,v],.pointer (some ⟨Bc,0,none⟩)] w' fun e w''=>e=.returned (.bool (f p))/\Below w'.heap.size w' w''
abbrev znr(fn Bc:Nat):Value:=.func (.func fn) #[] #[.pointer (some ⟨Bc,0,none⟩)]
def zf6(A:Option Addr)(n c:Nat)(w:World):Calls prog 270 #[.slice A n c] w fun e w'=>e=.returned (znr 295 w.heap.size)/\w.alloc (.cells #[.slice A n c] 22)=w':=by
 go_enter func270,ntmps270;go_wp2;go_ret;exact⟨rfl,rfl⟩
def zmj(A:Option Addr)(n c:Nat)(w:World):Calls prog 294 #[.slice A n c] w fun e w'=>e=.returned (znr 320 w.heap.size)/\w.alloc (.cells #[.slice A n c] 22)=w':=by
 go_enter func294,ntmps294;go_wp2;go_ret;exact⟨rfl,rfl⟩
def zl3(w:World)(v:Value)(T:TypeId):(w.alloc (.cells #[v] T)).cell? ⟨w.heap.size,0,none⟩=some v:=by
 rw[wy _ _ _ _ _ _ (ye w _)];rfl
def zbu{k:List Int}(hk:SB w w.heap.size (.slice A k.length c) k)(hb:Below (w.alloc (.cells #[.slice A k.length c] 22)).heap.size (w.alloc (.cells #[.slice A k.length c] 22)) w')(o:Obj):(w'.alloc o).cell? ⟨w.heap.size,0,none⟩=some (.slice A k.length c)/\SB (w'.alloc o) (w'.alloc o).heap.size (.slice A k.length c) k/\w.heap.size<w'.heap.size:=by
 have hsz:=hb.size;have hlt:w.heap.size<w'.heap.size:=by simp at hsz;omega
 refine⟨?_,((hk.on (za w _)).on hb).on (za w' _),hlt⟩;rw[(za w' _).cell (by exact hlt),hb.cell (by simp)];exact zl3 w _ _
def zam(A:Option Addr)(k:List Int)(c:Nat)(w:World)(hk:SB w w.heap.size (.slice A k.length c) k):Asks 295 w.heap.size (fun p=>p.1==k) (w.alloc (.cells #[.slice A k.length c] 22)):=by
 intro w' p u v hb hu hv;dsimp only;obtain⟨g1,g2,g3⟩:=zbu hk hb (.cells #[u,v] 119);have K:=aQ (zo2 u (.slice A k.length c) p.1 k _ _ (hu.on (za w' (.cells #[u,v] 119))) g2);have HE:Hid ((p.1==k)=decide (p.1=k)):=by show _=_;rw[Bool.eq_iff_iff];simp
 have HB:=aQ (za w' (.cells #[u,v] 119));rw[HE.out];obtain⟨Au,cu,rfl,_⟩:=hu;obtain⟨Av,cv,rfl,_⟩:=hv
 generalize decide (p.1=k)=r at *
 clear hb hk g2 HE;go_enter func295,ntmps295
 go_wp2_with fail
 refine K.out.mono ?_;rintro e w2 ⟨rfl,rfl⟩;go_wp2;go_ret;exact⟨rfl,HB.out⟩
def zfz(A:Option Addr)(k:List Int)(c:Nat)(w:World)(hk:SB w w.heap.size (.slice A k.length c) k):Asks 320 w.heap.size (fun p=>decide (0<cmpB p.1 k)) (w.alloc (.cells #[.slice A k.length c] 22)):=by
 intro w' p u v hb hu hv;dsimp only;obtain⟨g1,g2,g3⟩:=zbu hk hb (.cells #[u,v] 119);have K:=aQ (zgi u (.slice A k.length c) p.1 k _ _ (hu.on (za w' (.cells #[u,v] 119))) g2);have HB:=aQ (za w' (.cells #[u,v] 119));obtain⟨Au,cu,rfl,_⟩:=hu;obtain⟨Av,cv,rfl,_⟩:=hv
 generalize cmpB p.1 k=r at *
 clear hb hk g2;go_enter func320,ntmps320
 go_wp2_with fail
 refine K.out.mono ?_;rintro e w2 ⟨rfl,rfl⟩;go_wp2;go_ret;exact⟨rfl,HB.out⟩
def idxV(f:PR->Bool)(l:List PR):Int:=if l.findIdx f<l.length then(l.findIdx f:Nat)else -1
def zix{f:PR->Bool}{l:List PR}{p:PR}(hk:k<=l.findIdx f)(hp:l[k]? =some p)(hf:f p=false):k+1<=l.findIdx f:=by
 rcases Nat.lt_or_ge k (l.findIdx f)with h|h
 ·exact h
 ·obtain rfl:k=l.findIdx f:=by omega
  have hl:=(vm.1 hp).1;have h1:=@List.findIdx_getElem PR f l hl;rw[vp hl]at hp;injection hp with hp
  rw[hp,hf]at h1;cases h1
def zfh{f:PR->Bool}{l:List PR}{p:PR}(hk:k<=l.findIdx f)(hp:l[k]? =some p)(hf:f p=true):l.findIdx f=k:=by
 rcases Nat.lt_or_ge k (l.findIdx f)with h|h
 ·have hl:=(vm.1 hp).1;have h1:=List.not_of_lt_findIdx (xs:=l) (p:=f) h;rw[vp hl]at hp;injection hp with hp
  rw[hp,hf]at h1;simp at h1
 ·omega
def zgt(fn Bc:Nat)(f:PR->Bool)(hent:Ent fn)(A:Option Addr)(ls:List PR)(c:Nat)(w:World)(hp:Prs w w.heap.size A c ls)(hc:ls.length<=c)(hm:c<=maxLen)(ha:Asks fn Bc f w):Calls prog 269 #[.slice A ls.length c,znr fn Bc] w fun e w'=>e=.returned (.int .i64 (idxV f ls))/\Below w.heap.size w w':=by
 have HP:=aQ hp;have HA:=aQ ha;clear hp ha;unfold maxLen at hm;unfold Ent at hent;go_enter func269,ntmps269;go_wp2
 go_loopw [5,8] (fun _ i wr=>∃k:Nat,k<=ls.length/\i=.int .i64 k/\Hid (k<=ls.findIdx f/\Below w.heap.size w wr)) (fun _ i _=>ls.length-(intOf i).toNat)
 case atStart=>exact⟨0,aK _,rfl,aK _,Below.refl _ _⟩
 case round=>
  obtain⟨k,hk,rfl,HR⟩:=hrel;by_cases hlt:k<ls.length
  ·have hg:ls[k]? =some ls[k]:=vp hlt;generalize ls[k]=p at hg;obtain⟨b,o,u,v,rfl,hB,c1,c2,s1,s2⟩:=(HP.out.on HR.out.2).get hg;have HC:=aQ (zem c1 c2);have K:=aQ (HA.out wr p u v HR.out.2 s1 s2);have HG:=aQ hg;clear c1 c2 s1 s2 hg hB
   go_wp2_with(first|(refine wpList_load_mid rfl 119 (.tmp 14) rfl b (o+k*2) rfl [u,v] _ HC.out underlying119 rfl kC ?_;refine Hid.out ?_)|fail)
   refine aQ ?_
   (go_wp2_with fail);refine K.out.mono ?_;rintro e w2 ⟨rfl,hb2⟩;have HB2:=aQ (HR.out.2.trans (hb2.mono HR.out.2.size));clear hb2;cases hf:f p with
   | true=>
    have HE:=aQ (zfh HR.out.1 HG.out hf);clear hf;go_wp2;go_ret;refine⟨jY ?_,HB2.out⟩;unfold idxV;rw[HE.out,if_pos hlt]
   | false=>
    have HE:=aQ (zix HR.out.1 HG.out hf);clear hf;go_wp2
    go_roundw
    case rel=>exact⟨k+1,by omega,by go_num,HE.out,HB2.out⟩
    case measure=>simp[intOf];omega
  ·obtain rfl:k=ls.length:=by omega
   go_wp2;go_ret;refine⟨jY ?_,HR.out.2⟩;unfold idxV;rw[if_neg (by have:=HR.out.1;omega)]
def SB.drewN{l:List Int}(h:SB w B u l)(n:Nat):SB (w.drewN n) B u l:=h.below (zW (Below.refl _ _) n)
def Prs.at{ls:List PR}(h:Prs w w.heap.size A c ls){p:PR}(hp:ls[i]? =some p):∃b o Au cu Av cv,A=some ⟨b,o,none⟩/\w.cell? ⟨b,o+i*2,none⟩=some (.slice Au p.1.length cu)/\w.cell? ⟨b,o+i*2+1,none⟩=some (.slice Av p.2.length cv)/\SB w w.heap.size (.slice Au p.1.length cu) p.1/\SB w w.heap.size (.slice Av p.2.length cv) p.2 /\
   p.1.length<=cu/\cu<=maxLen/\p.2.length<=cv/\cv<=maxLen:=by
 obtain⟨b,o,u,v,h1,h2,h3,h4,h5,h6⟩:=h.get hp;obtain⟨Au,cu,rfl,g1,g2,_⟩:=id h5;obtain⟨Av,cv,rfl,k1,k2,_⟩:=id h6;exact⟨b,o,Au,cu,Av,cv,h1,h3,h4,h5,h6,g1,g2,k1,k2⟩
def findC(A:Option Addr)(ls:List PR)(c:Nat)(Ak:Option Addr)(key:List Int)(ck:Nat)(w:World)(hp:Prs w w.heap.size A c ls)(hc:ls.length<=c)(hm:c<=maxLen)(hk:SB w w.heap.size (.slice Ak key.length ck) key):Calls prog 242 #[.slice A ls.length c,.slice Ak key.length ck] w fun e w'=>e=.returned (.int .i64 (idxV (fun p=>p.1==key) ls))/\Below w.heap.size w w':=by
 have HP:=aQ hp;have HK:=aQ hk;clear hp hk;unfold maxLen at hm;go_enter func242,ntmps242;go_wp2
 go_loopw [5] (fun i wr=>∃k:Nat,k<=ls.length/\i=.int .i64 k/\Hid (k<=ls.findIdx (fun p=>p.1==key)/\Below w.heap.size w wr)) (fun i _=>ls.length-(intOf i).toNat)
 case atStart=>exact⟨0,aK _,rfl,aK _,Below.refl _ _⟩
 case round=>
  obtain⟨k,hk,rfl,HR⟩:=hrel;by_cases hlt:k<ls.length
  ·have hg:ls[k]? =some ls[k]:=vp hlt;generalize ls[k]=p at hg;obtain⟨b,o,Au,cu,Av,cv,rfl,c1,c2,s1,s2,_⟩:=(HP.out.on HR.out.2).at hg;have d1:=fun n=>(s1.drewN n).str;have d2:=fun n=>((HK.out.on HR.out.2).drewN n).str;have hse:=zst s1.byt HK.out.byt;have HG:=aQ hg;clear c2 s1 s2 hg
   generalize strOfNums key=t at *
   cases hf:(p.1==key)with
   | true=>
    have HE:=aQ (zfh (f:=fun p=>p.1==key) HR.out.1 HG.out hf);have he:p.1=key:=by simpa using hf
    have hd:((strOfNums p.1).toList==t.toList)=true:=by rw[hse];simpa using he
    generalize strOfNums p.1=s at *
    clear hf hse he HG
    (go_wp2_with fail);go_quiet (fail)
    go_wp2;go_ret;refine⟨jY ?_,zW HR.out.2 _⟩;unfold idxV;rw[HE.out,if_pos hlt]
   | false=>
    have HE:=aQ (zix (f:=fun p=>p.1==key) HR.out.1 HG.out hf);have he:¬p.1=key:=by simpa using hf
    have hd:((strOfNums p.1).toList==t.toList)=false:=by rw[hse];simpa using he
    generalize strOfNums p.1=s at *
    clear hf hse he HG
    (go_wp2_with fail);go_quiet (fail)
    go_wp2
    go_roundw
    case rel=>exact⟨k+1,by omega,by go_num,HE.out,zW HR.out.2 _⟩
    case measure=>simp[intOf];omega
  ·obtain rfl:k=ls.length:=by omega
   go_wp2;go_ret;refine⟨jY ?_,HR.out.2⟩;unfold idxV;rw[if_neg (by have:=HR.out.1;omega)]
def zts(A:Option Addr)(ls:List PR)(c:Nat)(w:World)(hp:Prs w w.heap.size A c ls)(hc:ls.length<=c)(hm:c<=maxLen)(hs:szM ls<=4611686018427387904):Calls prog 77 #[.slice A ls.length c] w fun e w'=>e=.returned (.int .i64 (szM ls))/\Below w.heap.size w w':=by
 have HP:=aQ hp;clear hp;unfold maxLen at hm;go_enter func77,ntmps77;go_wp2
 go_loopw [3,5,8] (fun n _ i wr=>∃k:Nat,k<=ls.length/\i=.int .i64 k/\n=.int .i64 (szM (ls.take k))/\Hid (Below w.heap.size w wr)) (fun _ _ i _=>ls.length-(intOf i).toNat)
 case atStart=>exact⟨0,aK _,rfl,rfl,Below.refl _ _⟩
 case round=>
  obtain⟨k,hk,rfl,rfl,HR⟩:=hrel;by_cases hlt:k<ls.length
  ·have hg:ls[k]? =some ls[k]:=vp hlt;generalize ls[k]=p at hg;obtain⟨b,o,Au,cu,Av,cv,rfl,c1,c2,s1,s2,q1,q2,q3,q4⟩:=(HP.out.on HR.out).at hg;have HC:=aQ (zem c1 c2);have hn:=zne hg;have hl:=zmy ls (k+1);have hle:szM (ls.take k)+(8+p.1.length+p.2.length)<=4611686018427387904:=by omega
   have HN:=aQ hn;have HB:=aQ (HR.out.trans ((za wr (.cells #[.slice Au p.1.length cu,.slice Av p.2.length cv] 119)).mono HR.out.size));unfold maxLen at q2 q4;clear c1 c2 s1 s2 hg hn hl
   go_wp2_with(first|(refine wpList_load_mid rfl 119 (.tmp 10) rfl b (o+k*2) rfl [.slice Au p.1.length cu,.slice Av p.2.length cv] _ HC.out underlying119 rfl kC ?_;refine Hid.out ?_)|fail)
   refine aQ ?_;go_wp2
   go_roundw
   case rel=>exact⟨k+1,by omega,by go_num,by rw[HN.out];go_num,HB.out⟩
   case measure=>simp[intOf];omega
  ·obtain rfl:k=ls.length:=by omega
   have HT:Hid (ls.take ls.length=ls):=List.take_length;go_wp2;go_ret;exact⟨jY (by rw[HT.out]),HR.out⟩
def zC9(A:Option Addr)(ls:List PR)(c:Nat)(w:World)(hp:Prs w w.heap.size A c ls)(hc:ls.length<=c)(hm:c<=maxLen)(hs:szM ls<=4611686018427387904):Calls prog 57 #[.slice A ls.length c] w fun e w'=>e=.returned (.int .i64 (szM ls))/\Below w.heap.size w w':=by
 have HP:=aQ hp;clear hp;unfold maxLen at hm;go_enter func57,ntmps57;go_wp2
 go_loopw [3,4] (fun n i wr=>∃k:Nat,k<=ls.length/\i=.int .i64 k/\n=.int .i64 (szM (ls.take k))/\Hid (Below w.heap.size w wr)) (fun _ i _=>ls.length-(intOf i).toNat)
 case atStart=>exact⟨0,aK _,rfl,rfl,Below.refl _ _⟩
 case round=>
  obtain⟨k,hk,rfl,rfl,HR⟩:=hrel;by_cases hlt:k<ls.length
  ·have hg:ls[k]? =some ls[k]:=vp hlt;generalize ls[k]=p at hg;obtain⟨b,o,Au,cu,Av,cv,rfl,c1,c2,s1,s2,q1,q2,q3,q4⟩:=(HP.out.on HR.out).at hg;have hn:=zne hg;have hl:=zmy ls (k+1);have hle:szM (ls.take k)+(8+p.1.length+p.2.length)<=4611686018427387904:=by omega
   have HN:=aQ hn;unfold maxLen at q2 q4;clear s1 s2 hg hn hl
   generalize szM (ls.take k)=z at *
   have e1:IntKind.i64.wrap ((z:Int)+8)=(z:Int)+8:=IntWalk.i64_in _ (by omega);have e2:IntKind.i64.wrap ((z:Int)+8+(p.1.length:Int))=(z:Int)+8+(p.1.length:Int):=IntWalk.i64_in _ (by omega);have e3:IntKind.i64.wrap ((z:Int)+8+(p.1.length:Int)+(p.2.length:Int))=(z:Int)+8+(p.1.length:Int)+(p.2.length:Int):=IntWalk.i64_in _ (by omega)
   (go_wp2_with fail);go_quiet (fail)
   clear e1 e2 e3;go_wp2
   go_roundw
   case rel=>exact⟨k+1,by omega,by go_num,by rw[HN.out];go_num,zW HR.out _⟩
   case measure=>simp[intOf];omega
  ·obtain rfl:k=ls.length:=by omega
   have HT:Hid (ls.take ls.length=ls):=List.take_length;go_wp2;go_ret;exact⟨jY (by rw[HT.out]),HR.out⟩
def okTo(l:List PR)(k:Nat):Prop:=(∀p∈l.take k,p.1.length<=64/\p.2.length<=256)/\Srt (l.take k)
def zmb(l:List PR):okTo l 0:=by constructor<;>simp
def zdi{l:List PR}{p:PR}(h:okTo l k)(hp:l[k]? =some p)(h1:p.1.length<=64)(h2:p.2.length<=256)(h3:∀q,0<k->l[k-1]? =some q->cmpB q.1 p.1<0):okTo l (k+1):=by
 unfold okTo;rw[kj hp];refine⟨fun q hq=>?_,List.pairwise_append.2 ⟨h.2,List.pairwise_singleton _ _,fun a ha b hb=>?_⟩⟩
 ·rcases List.mem_append.1 hq with e|e
  ·exact h.1 q e
  ·rw[List.mem_singleton.1 e];exact⟨h1,h2⟩
 ·rw[List.mem_singleton.1 hb];have hk:0<k:=by
   rcases Nat.eq_zero_or_pos k with e|e
   ·subst e;simp at ha
   ·exact e
  have hkl:k<l.length:=(vm.1 hp).1;have hq:l[k-1]? =some l[k-1]:=vp (by omega);generalize l[k-1]=q at hq;have h4:=h3 q hk hq;have e:=kj hq;rw[show k-1+1=k by omega]at e;rw[e]at ha;rcases List.mem_append.1 ha with g|g
  ·have hs:=h.2;rw[e]at hs;exact yo ((List.pairwise_append.1 hs).2.2 a g q (List.mem_singleton.2 rfl)) h4
  ·rw[List.mem_singleton.1 g];exact h4
def zb7{l:List PR}{p:PR}(hp:l[k]? =some p)(h:64<p.1.length\/256<p.2.length):decide (qJ l)=false:=by
 rw[decide_eq_false_iff_not];intro hr;have:=hr.1 p (wM hp);omega
def zcr{l:List PR}{p q:PR}(hp:l[k]? =some p)(hk:0<k)(hq:l[k-1]? =some q)(h:0<=cmpB q.1 p.1):decide (qJ l)=false:=by
 rw[decide_eq_false_iff_not];intro hr;have h1:=hr.2.1;have hkl:k<l.length:=(vm.1 hp).1;have:=List.pairwise_iff_getElem.1 h1 (k-1) k (by omega) hkl (by omega);rw[vp (by omega)]at hp hq;injection hp with hp
 injection hq with hq
 rw[hp,hq]at this;omega
def zm5{l:List PR}(h:okTo l l.length):decide (qJ l)=decide (szM l<=2048):=by
 unfold okTo at h;rw[List.take_length]at h;rw[Bool.eq_iff_iff];simp only[decide_eq_true_eq];exact⟨fun g=>g.2.2,fun g=>⟨h.1,h.2,g⟩⟩
def zpg:∀ {l:List PR},(∀p∈l,p.1.length<=64/\p.2.length<=256)->szM l<=328*l.length
 | [],_=>aR _
 | p::l,h=>by
  have h1:=h p (List.mem_cons_self ..);have h2:=zpg (l:=l) fun q hq=>h q (List.mem_cons_of_mem _ hq);rw[kY,aB];omega
def zji{l:List PR}(h:okTo l l.length)(hl:l.length<=2932031007402):szM l<=4611686018427387904:=by
 unfold okTo at h;rw[List.take_length]at h;have:=zpg h.1;omega
def zuj(A:Option Addr)(ls:List PR)(c:Nat)(w:World)(hp:Prs w w.heap.size A c ls)(hc:ls.length<=c)(hm:c<=maxLen)(hl:ls.length<=2932031007402):Calls prog 40 #[.slice A ls.length c] w fun e w'=>e=.returned (.bool (decide (qJ ls)))/\Below w.heap.size w w':=by
 have HP:=aQ hp;have hm':=hm;clear hp;unfold maxLen at hm;go_enter func40,ntmps40;go_wp2
 go_loopw [3,4,7] (fun _ _ i wr=>∃k:Nat,k<=ls.length/\i=.int .i64 k/\Hid (okTo ls k/\Below w.heap.size w wr)) (fun _ _ i _=>ls.length-(intOf i).toNat)
 case atStart=>exact⟨0,aK _,rfl,zmb _,Below.refl _ _⟩
 case round=>
  obtain⟨k,hk,rfl,HR⟩:=hrel;by_cases hlt:k<ls.length
  ·have hg:ls[k]? =some ls[k]:=vp hlt;generalize ls[k]=p at hg;obtain⟨b,o,Au,cu,Av,cv,rfl,c1,c2,s1,s2,q1,q2,q3,q4⟩:=(HP.out.on HR.out.2).at hg;have HC:=aQ (zem c1 c2);have hb1:=za wr (.cells #[.slice Au p.1.length cu,.slice Av p.2.length cv] 119);have HB:=aQ (HR.out.2.trans (hb1.mono HR.out.2.size));have HS:=aQ (s1.on hb1);have HG:=aQ hg;unfold maxLen at q2 q4;clear c1 c2 s1 s2 hg;by_cases hbad:64<p.1.length\/256<p.2.length
   ·have HF:=aQ (zb7 HG.out hbad);by_cases h1:64<p.1.length
    ·clear hbad hb1
     go_wp2_with(first|(refine wpList_load_mid rfl 119 (.tmp 10) rfl b (o+k*2) rfl [.slice Au p.1.length cu,.slice Av p.2.length cv] _ HC.out underlying119 rfl kC ?_;refine Hid.out ?_)|fail)
     refine aQ ?_;go_wp2;go_ret;exact⟨qP HF.out.symm,HB.out⟩
    ·have h2:256<p.2.length:=by omega
     clear hbad hb1
     go_wp2_with(first|(refine wpList_load_mid rfl 119 (.tmp 10) rfl b (o+k*2) rfl [.slice Au p.1.length cu,.slice Av p.2.length cv] _ HC.out underlying119 rfl kC ?_;refine Hid.out ?_)|fail)
     refine aQ ?_;go_wp2;go_ret;exact⟨qP HF.out.symm,HB.out⟩
   ·have h1:p.1.length<=64:=by omega
    have h2:p.2.length<=256:=by omega
    clear hbad;by_cases hk0:k=0
    ·have HN:=aQ (zdi HR.out.1 HG.out h1 h2 (fun q hq=>by omega));have hd:decide (0<k)=false:=by simpa using hk0
     have HK:=aQ hk0;clear hk0 hb1
     go_wp2_with(first|(refine wpList_load_mid rfl 119 (.tmp 10) rfl b (o+k*2) rfl [.slice Au p.1.length cu,.slice Av p.2.length cv] _ HC.out underlying119 rfl kC ?_;refine Hid.out ?_)|fail)
     refine aQ ?_
     (go_wp2_with fail);go_quiet (fail)
     go_wp2
     go_roundw
     case rel=>exact⟨k+1,by omega,by go_num,HN.out,zW HB.out _⟩
     case measure=>simp[intOf];omega
    ·have hpos:0<k:=by omega
     have hq:ls[k-1]? =some ls[k-1]:=vp (by omega);generalize ls[k-1]=q at hq;obtain⟨b',o',Aw,cw,Ax,cx,e1,c1,_,s1,_,r1,r2,_⟩:=(HP.out.on HB.out).at hq;injection e1 with e1
     injection e1 with e1 e2
     subst e1 e2;have K:=aQ (fun n=>(zgi (.slice Aw q.1.length cw) (.slice Au p.1.length cu) q.1 p.1 _ _ (s1.drewN n) (HS.out.drewN n)).mono fun e w' (h:_/\_)=>(⟨h.1,h.2.symm⟩:_/\_));have hi:(k:Int)-1=((k-1:Nat):Int):=by omega
     have ho:o+(k-1)*2=o+k*2-2:=by omega
     have ew:IntKind.i64.wrap ((k:Int)-1)=(k:Int)-1:=IntWalk.i64_in _ (by omega);have e0:(0:Int)<=(k:Int)-1:=by omega
     have e0':(1:Int)<=(k:Int):=by omega
     have et:((k:Int)-1).toNat=k-1:=by omega
     have hd:decide (0<k)=true:=by simpa using hpos
     clear s1 hk0 hi ho hb1;rcases Int.lt_or_le (cmpB q.1 p.1) 0 with hcmp|hcmp
     ·have HN:=aQ (zdi HR.out.1 HG.out h1 h2 (fun q' _ hq'=>by rw[hq]at hq';injection hq' with hq';rw[<- hq'];exact hcmp));clear hq;have hge:decide (0<=cmpB q.1 p.1)=false:=by simp;omega
      generalize cmpB q.1 p.1=z at *
      go_wp2_with(first|(refine wpList_load_mid rfl 119 (.tmp 10) rfl b (o+k*2) rfl [.slice Au p.1.length cu,.slice Av p.2.length cv] _ HC.out underlying119 rfl kC ?_;refine Hid.out ?_)|fail)
      refine aQ ?_
      (go_wp2_with fail);go_quiet ((go_at_call 76;exact Calls.quiet_of_same (K.out _)))
      clear ew et;go_wp2
      go_roundw
      case rel=>exact⟨k+1,by omega,by go_num,HN.out,zW HB.out _⟩
      case measure=>simp[intOf];omega
     ·have HN:=aQ (zcr HG.out hpos hq hcmp);clear hq;have hge:decide (0<=cmpB q.1 p.1)=true:=by simpa using hcmp
      generalize cmpB q.1 p.1=z at *
      go_wp2_with(first|(refine wpList_load_mid rfl 119 (.tmp 10) rfl b (o+k*2) rfl [.slice Au p.1.length cu,.slice Av p.2.length cv] _ HC.out underlying119 rfl kC ?_;refine Hid.out ?_)|fail)
      refine aQ ?_
      (go_wp2_with fail);go_quiet ((go_at_call 76;exact Calls.quiet_of_same (K.out _)))
      clear ew et;go_wp2;go_ret;exact⟨qP HN.out.symm,zW HB.out _⟩
  ·obtain rfl:k=ls.length:=by omega
   have HF:=aQ (zm5 HR.out.1);have K:=aQ (zts A ls c wr (HP.out.on HR.out.2) hc hm' (zji HR.out.1 hl));have HB:=aQ HR.out.2;clear HR
   (go_wp2_with fail);refine K.out.mono ?_;rintro e w2 ⟨rfl,hb2⟩
   go_wp2;go_ret;refine⟨qP ?_,HB.out.trans (hb2.mono HB.out.size)⟩;rw[HF.out]
   first|rfl|(rw[Bool.eq_iff_iff];simp;done)|(rw[Bool.eq_iff_iff];simp;omega)
def zB9(A:Option Addr)(ls:List PR)(c:Nat)(w:World)(hp:Prs w w.heap.size A c ls)(hc:ls.length<=c)(hm:c<=maxLen)(hl:ls.length<=2932031007402):Calls prog 26 #[.slice A ls.length c] w fun e w'=>e=.returned (.bool (decide (qJ ls)))/\Below w.heap.size w w':=by
 have HP:=aQ hp;have hm':=hm;clear hp;unfold maxLen at hm;go_enter func26,ntmps26;go_wp2
 go_loopw [3] (fun i wr=>∃k:Nat,k<=ls.length/\i=.int .i64 k/\Hid (okTo ls k/\Below w.heap.size w wr)) (fun i _=>ls.length-(intOf i).toNat)
 case atStart=>exact⟨0,aK _,rfl,zmb _,Below.refl _ _⟩
 case round=>
  obtain⟨k,hk,rfl,HR⟩:=hrel;by_cases hlt:k<ls.length
  ·have hg:ls[k]? =some ls[k]:=vp hlt;generalize ls[k]=p at hg;obtain⟨b,o,Au,cu,Av,cv,rfl,c1,c2,s1,s2,q1,q2,q3,q4⟩:=(HP.out.on HR.out.2).at hg;have HG:=aQ hg;unfold maxLen at q2 q4;clear hg;by_cases hbad:64<p.1.length\/256<p.2.length
   ·have HF:=aQ (zb7 HG.out hbad);by_cases h1:64<p.1.length
    ·have hd:decide ((64:Int)<(p.1.length:Int))=true:=by simp;omega
     clear hbad s1 s2
     (go_wp2_with fail);go_quiet (fail)
     go_wp2;go_ret;exact⟨qP HF.out.symm,zW HR.out.2 _⟩
    ·have h2:256<p.2.length:=by omega
     have hd:decide ((64:Int)<(p.1.length:Int))=false:=by simp;omega
     have hd2:decide ((256:Int)<(p.2.length:Int))=true:=by simp;omega
     clear hbad s1 s2
     (go_wp2_with fail);go_quiet (fail)
     go_wp2;go_ret;exact⟨qP HF.out.symm,zW HR.out.2 _⟩
   ·have h1:p.1.length<=64:=by omega
    have h2:p.2.length<=256:=by omega
    have hd1:decide ((64:Int)<(p.1.length:Int))=false:=by simp;omega
    have hd2:decide ((256:Int)<(p.2.length:Int))=false:=by simp;omega
    clear hbad;by_cases hk0:k=0
    ·have HN:=aQ (zdi HR.out.1 HG.out h1 h2 (fun q hq=>by omega));have hd:decide (0<k)=false:=by simpa using hk0
     clear hk0 s1 s2
     (go_wp2_with fail);go_quiet (fail)
     go_wp2
     go_roundw
     case rel=>exact⟨k+1,by omega,by go_num,HN.out,zW HR.out.2 _⟩
     case measure=>simp[intOf];omega
    ·have hpos:0<k:=by omega
     have hq:ls[k-1]? =some ls[k-1]:=vp (by omega);generalize ls[k-1]=q at hq;obtain⟨b',o',Aw,cw,Ax,cx,e1,c3,_,s3,_,r1,r2,_⟩:=(HP.out.on HR.out.2).at hq;injection e1 with e1
     injection e1 with e1 e2
     subst e1 e2;have d1:=fun n=>(s1.drewN n).str;have d2:=fun n=>(s3.drewN n).str;have hsl:=zC2 s3.byt s1.byt;have ew:IntKind.i64.wrap ((k:Int)-1)=(k:Int)-1:=IntWalk.i64_in _ (by omega);have e0:(0:Int)<=(k:Int)-1:=by omega
     have e0':(1:Int)<=(k:Int):=by omega
     have et:((k:Int)-1).toNat=k-1:=by omega
     have hd:decide (0<k)=true:=by simpa using hpos
     clear s1 s2 s3 hk0;rcases Int.lt_or_le (cmpB q.1 p.1) 0 with hcmp|hcmp
     ·have HN:=aQ (zdi HR.out.1 HG.out h1 h2 (fun q' _ hq'=>by rw[hq]at hq';injection hq' with hq';rw[<- hq'];exact hcmp));have hge:Op.bytesLess (strOfNums q.1).toList (strOfNums p.1).toList=true:=by rw[hsl];simpa using hcmp
      clear hq hsl
      generalize strOfNums q.1=t1 at *
      generalize strOfNums p.1=t2 at *
      (go_wp2_with fail);go_quiet (fail)
      clear ew et;go_wp2
      go_roundw
      case rel=>exact⟨k+1,by omega,by go_num,HN.out,zW HR.out.2 _⟩
      case measure=>simp[intOf];omega
     ·have HN:=aQ (zcr HG.out hpos hq hcmp);have hge:Op.bytesLess (strOfNums q.1).toList (strOfNums p.1).toList=false:=by rw[hsl];simp;omega
      clear hq hsl
      generalize strOfNums q.1=t1 at *
      generalize strOfNums p.1=t2 at *
      (go_wp2_with fail);go_quiet (fail)
      clear ew et;go_wp2;go_ret;exact⟨qP HN.out.symm,zW HR.out.2 _⟩
  ·obtain rfl:k=ls.length:=by omega
   have HF:=aQ (zm5 HR.out.1);have K:=aQ (zC9 A ls c wr (HP.out.on HR.out.2) hc hm' (zji HR.out.1 hl));have HB:=aQ HR.out.2;clear HR
   (go_wp2_with fail);refine K.out.mono ?_;rintro e w2 ⟨rfl,hb2⟩
   go_wp2;go_ret;refine⟨qP ?_,HB.out.trans (hb2.mono HB.out.size)⟩;rw[HF.out]
   first|rfl|(rw[Bool.eq_iff_iff];simp;done)|(rw[Bool.eq_iff_iff];simp;omega)
def zBp{a b:List PR}{p q:PR}(h:a.take k=b.take k)(hp:a[k]? =some p)(hq:b[k]? =some q)(h1:p.1=q.1)(h2:p.2=q.2):a.take (k+1)=b.take (k+1):=by
 rw[kj hp,kj hq,h,show p=q from Prod.ext h1 h2]
def zD4(A1:Option Addr)(l1:List PR)(c1:Nat)(A2:Option Addr)(l2:List PR)(c2:Nat)(w:World)(hp1:Prs w w.heap.size A1 c1 l1)(hc1:l1.length<=c1)(hm1:c1<=maxLen)(hp2:Prs w w.heap.size A2 c2 l2):Calls prog 22 #[.slice A1 l1.length c1,.slice A2 l2.length c2] w fun e w'=>e=.returned (.bool (decide (l1=l2)))/\Below w.heap.size w w':=by
 have HP1:=aQ hp1;have HP2:=aQ hp2;clear hp1 hp2;unfold maxLen at hm1;by_cases hlen:l1.length=l2.length
 ·have HL:=aQ hlen;have hne:((l1.length:Int)!=(l2.length:Int))=false:=by simp;omega
  have hne':((l1.length:Int)==(l2.length:Int))=true:=by simp;omega
  clear hlen;go_enter func22,ntmps22;go_wp2
  go_loopw [5] (fun i wr=>∃k:Nat,k<=l1.length/\i=.int .i64 k/\Hid (l1.take k=l2.take k/\Below w.heap.size w wr)) (fun i _=>l1.length-(intOf i).toNat)
  case atStart=>exact⟨0,aK _,rfl,rfl,Below.refl _ _⟩
  case round=>
   obtain⟨k,hk,rfl,HR⟩:=hrel;by_cases hlt:k<l1.length
   ·have hlt2:k<l2.length:=by have:=HL.out;omega
    have hg1:l1[k]? =some l1[k]:=vp hlt;have hg2:l2[k]? =some l2[k]:=vp hlt2;generalize l1[k]=p at hg1;generalize l2[k]=q at hg2;obtain⟨b,o,Au,cu,Av,cv,rfl,x1,x2,s1,s2,q1,q2,q3,q4⟩:=(HP1.out.on HR.out.2).at hg1;obtain⟨b',o',Au',cu',Av',cv',rfl,y1,y2,t1,t2,r1,r2,r3,r4⟩:=(HP2.out.on HR.out.2).at hg2;have d1:=fun n=>(s1.drewN n).str;have d2:=fun n=>(s2.drewN n).str;have d3:=fun n=>(t1.drewN n).str;have d4:=fun n=>(t2.drewN n).str;have hs1:=zst s1.byt t1.byt;have hs2:=zst s2.byt t2.byt;have HG:Hid (l1[k]? =some p/\l2[k]? =some q):=⟨hg1,hg2⟩;clear s1 s2 t1 t2 hg1 hg2;by_cases h1:p.1=q.1
    ·by_cases h2:p.2=q.2
     ·have HN:=aQ (zBp HR.out.1 HG.out.1 HG.out.2 h1 h2);have e1:((strOfNums p.1).toList==(strOfNums q.1).toList)=true:=by rw[hs1];simpa using h1
      have e2:((strOfNums p.2).toList==(strOfNums q.2).toList)=true:=by rw[hs2];simpa using h2
      clear hs1 hs2 h1 h2
      generalize strOfNums p.1=z1 at *
      generalize strOfNums p.2=z2 at *
      generalize strOfNums q.1=z3 at *
      generalize strOfNums q.2=z4 at *
      (go_wp2_with fail);go_quiet (fail)
      go_wp2
      go_roundw
      case rel=>exact⟨k+1,by omega,by go_num,HN.out,zW HR.out.2 _⟩
      case measure=>simp[intOf];omega
     ·have HN:Hid (decide (l1=l2)=false):=by
       show _=_;simp only[decide_eq_false_iff_not];intro e;have h3:=HG.out;rw[e]at h3;have:=h3.1.symm.trans h3.2;injection this with this
       exact h2 (by rw[this])
      have e1:((strOfNums p.1).toList==(strOfNums q.1).toList)=true:=by rw[hs1];simpa using h1
      have e2:((strOfNums p.2).toList==(strOfNums q.2).toList)=false:=by rw[hs2];simpa using h2
      clear hs1 hs2 h1 h2
      generalize strOfNums p.1=z1 at *
      generalize strOfNums p.2=z2 at *
      generalize strOfNums q.1=z3 at *
      generalize strOfNums q.2=z4 at *
      (go_wp2_with fail);go_quiet (fail)
      go_wp2;go_ret;exact⟨qP HN.out.symm,zW HR.out.2 _⟩
    ·have HN:Hid (decide (l1=l2)=false):=by
      show _=_;simp only[decide_eq_false_iff_not];intro e;have h3:=HG.out;rw[e]at h3;have:=h3.1.symm.trans h3.2;injection this with this
      exact h1 (by rw[this])
     have e1:((strOfNums p.1).toList==(strOfNums q.1).toList)=false:=by rw[hs1];simpa using h1
     clear hs1 hs2 h1
     generalize strOfNums p.1=z1 at *
     generalize strOfNums p.2=z2 at *
     generalize strOfNums q.1=z3 at *
     generalize strOfNums q.2=z4 at *
     (go_wp2_with fail);go_quiet (fail)
     go_wp2;go_ret;exact⟨qP HN.out.symm,zW HR.out.2 _⟩
   ·obtain rfl:k=l1.length:=by omega
    have HN:Hid (decide (l1=l2)=true):=by
     show _=_;simp only[decide_eq_true_eq];have h3:=HR.out.1;rw[List.take_length,HL.out,List.take_length]at h3;exact h3
    go_wp2;go_ret;exact⟨qP HN.out.symm,HR.out.2⟩
 ·have HN:Hid (decide (l1=l2)=false):=by
   show _=_;simp only[decide_eq_false_iff_not];intro e;exact hlen (by rw[e])
  have hne:((l1.length:Int)!=(l2.length:Int))=true:=by simp;omega
  clear hlen;go_enter func22,ntmps22;go_wp2;go_ret;exact⟨qP HN.out.symm,Below.refl _ _⟩
abbrev Fr(lo hi:Nat):Nat->Prop:=fun b=>lo<=b/\b<hi
def za9(w:World)(D:Nat->Prop)(A:Option Addr)(c:Nat)(l:List Value):Prop:=
 (A=none->c=0)/\∀j u,l[j]? =some u->∃ad,A=some ad/\D ad.block/\w.cell? (ad.add j)=some u
def za9.keep{l:List Value}(h:za9 w D A c l)(hk:∀b,D b->w'.heap[b]? =w.heap[b]?)(hD:∀b,D b->D' b):za9 w' D' A c l:=
 ⟨h.1,fun j u hu=>by
  obtain⟨ad,e,hd,hc⟩:=h.2 j u hu
  exact⟨ad,e,hD _ hd,by rw[yp (a:=ad.add j) (w:=w) (by rw[qh];exact hk _ hd)];exact hc⟩⟩
def za9.lies{l:List Value}(h:za9 w D A c l)(hD:∀b,D b->b<B):Lies w B A c l:=
 ⟨h.1,fun j u hu=>by
  obtain⟨ad,e,hd,hc⟩:=h.2 j u hu
  exact⟨ad,e,hD _ hd,hc⟩⟩
def SBD(w:World)(D:Nat->Prop)(u:Value)(l:List Int):Prop:=∃A c,u=.slice A l.length c/\l.length<=c/\c<=maxLen/\za9 w D A c (zA l)/\Byt l
def SBD.keep{l:List Int}(h:SBD w D u l)(hk:∀b,D b->w'.heap[b]? =w.heap[b]?)(hD:∀b,D b->D' b):SBD w' D' u l:=by
 obtain⟨A,c,h1,h2,h3,h4,h5⟩:=h;exact⟨A,c,h1,h2,h3,h4.keep hk hD,h5⟩
def SBD.sb{l:List Int}(h:SBD w D u l)(hD:∀b,D b->b<B):SB w B u l:=by
 obtain⟨A,c,h1,h2,h3,h4,h5⟩:=h;exact⟨A,c,h1,h2,h3,h4.lies hD,h5⟩
def SBD.fr{lo:Nat}{l:List Int}(h:SBD w (Fr lo w.heap.size) u l)(hb:Below w.heap.size w w'):SBD w' (Fr lo w'.heap.size) u l:=
 h.keep (fun b hb'=>hb.block b hb'.2) fun b hb'=>⟨hb'.1,aS hb'.2 hb.size⟩
def SBD.lo{lo lo' hi:Nat}{l:List Int}(h:SBD w (Fr lo hi) u l)(hl:lo'<=lo):SBD w (Fr lo' hi) u l:=
 h.keep (fun _ _=>rfl) fun _ hb=>⟨aT hl hb.1,hb.2⟩
inductive PsCD(w:World)(D:Nat->Prop):List PR->List Value->Prop
 | nil:PsCD w D [] []
 | cons {p:PR} {l:List PR} {u v:Value} {vs:List Value} (h1:SBD w D u p.1) (h2:SBD w D v p.2) (h3:PsCD w D l vs):PsCD w D (p::l) (u::v::vs)
def PsCD.mono(hm:∀u l,SBD w D u l->SBD w' D' u l){l:List PR}(h:PsCD w D l vs):PsCD w' D' l vs:=by
 induction h with
 | nil=>exact .nil
 | cons h1 h2 _ ih=>exact .cons (hm _ _ h1) (hm _ _ h2) ih
def PsCD.append{l m:List PR}(h:PsCD w D l vs)(h':PsCD w D m us):PsCD w D (l++m) (vs++us):=by
 induction h with
 | nil=>exact h'
 | cons h1 h2 _ ih=>exact .cons h1 h2 ih
def PsCD.psc(hD:∀b,D b->b<B){l:List PR}(h:PsCD w D l vs):PsC w B l vs:=by
 induction h with
 | nil=>exact .nil
 | cons h1 h2 _ ih=>exact .cons (h1.sb hD) (h2.sb hD) ih
def PrsD(w:World)(D:Nat->Prop)(A:Option Addr)(c:Nat)(ls:List PR):Prop:=∃vs,za9 w D A c vs/\PsCD w D ls vs
def PrsD.keep{ls:List PR}(h:PrsD w D A c ls)(hk:∀b,D b->w'.heap[b]? =w.heap[b]?)(hD:∀b,D b->D' b):PrsD w' D' A c ls:=by
 obtain⟨vs,h1,h2⟩:=h;exact⟨vs,h1.keep hk hD,h2.mono fun u l h=>h.keep hk hD⟩
def PrsD.prs{ls:List PR}(h:PrsD w D A c ls)(hD:∀b,D b->b<B):Prs w B A c ls:=by
 obtain⟨vs,h1,h2⟩:=h;exact⟨vs,h1.lies hD,h2.psc hD⟩
def PrsD.fr{lo:Nat}{ls:List PR}(h:PrsD w (Fr lo w.heap.size) A c ls)(hb:Below w.heap.size w w'):PrsD w' (Fr lo w'.heap.size) A c ls:=
 h.keep (fun b hb'=>hb.block b hb'.2) fun b hb'=>⟨hb'.1,aS hb'.2 hb.size⟩
def PrsD.lo{lo lo' hi:Nat}{ls:List PR}(h:PrsD w (Fr lo hi) A c ls)(hl:lo'<=lo):PrsD w (Fr lo' hi) A c ls:=
 h.keep (fun _ _=>rfl) fun _ hb=>⟨aT hl hb.1,hb.2⟩
def PrsD.here{lo:Nat}{ls:List PR}(h:PrsD w (Fr lo w.heap.size) A c ls):Prs w w.heap.size A c ls:=h.prs fun _ hb=>hb.2
def PrsD.nothing(w:World)(D:Nat->Prop):PrsD w D none 0 []:=⟨[],⟨fun _=>rfl,fun j u h=>by simp at h⟩,.nil⟩
def zd7{base:Nat}{v:Value}(h:w.ownsRow base e 1 v n xs):∃A c,v=.slice A n c/\n<=c/\c<=maxLen/\za9 w (Fr base w.heap.size) A c xs:=by
 rcases h.2 with⟨rfl,rfl⟩|⟨g,cap,cur,rfl,hb,hg,hn,hm,hs,ht⟩
 ·have:xs=[]:=List.eq_nil_of_length_eq_zero (by simpa using h.1);subst this;exact⟨none,0,rfl,aR _,aK _,⟨fun _=>rfl,fun j u h=>by simp at h⟩⟩
 ·exact⟨_,_,rfl,hn,hm,(fun e=>by cases e),fun j u hu=>⟨_,rfl,h.lt g rfl,h.cells rfl j u hu⟩⟩
def vK(w:World)(l:List Int)(e:Ending)(w':World):Prop:=
 ∃A' c',e=.returned (.slice A' l.length c')/\l.length<=c'/\c'<=maxLen/\za9 w' (Fr w.heap.size w'.heap.size) A' c' (zA l)/\Below w.heap.size w w'
def zka(A:Option Addr)(l:List Int)(c:Nat)(w:World)(hl:Lies w w.heap.size A c (zA l))(hlen:l.length<=140737488355328):Calls prog 48 #[.slice A l.length c] w (vK w l):=
 (zbq A l c w hl hlen).mono fun e w' h=>by
  obtain⟨v,rfl,h1,h2⟩:=h;obtain⟨A',c',rfl,g1,g2,g3⟩:=zd7 h1;exact⟨A',c',rfl,g1,g2,g3,h2⟩
def vW(w:World)(A:Option Addr):Prop:=∀ad,A=some ad->∃cs z,w.heap[ad.block]? =some (.cells cs 119 z)
def vW.on(h:vW w A)(hb:Below w.heap.size w w'):vW w' A:=fun ad e=>by
 obtain⟨cs,z,h1⟩:=h ad e;exact⟨cs,z,by rw[hb.block _ (aU.1 h1).1];exact h1⟩
def zgu{base size:Nat}(h:w.ownsRow base 119 size (.slice A n c) m xs):vW w A:=fun ad e=>by
 rcases h.2 with⟨h1,_⟩|⟨g,cap,cur,h1,_,h3,_⟩
 ·injection h1 with h1 _ _
  rw[e]at h1;cases h1
 ·injection h1 with h1 _ _
  rw[e]at h1;injection h1 with h1
  subst h1;exact⟨cur,_,h3⟩
def NewF(w:World)(ls:List PR)(e:Ending)(w':World):Prop:=
 ∃A' c',e=.returned (.slice A' ls.length c')/\ls.length<=c'/\c'<=maxLen/\PrsD w' (Fr w.heap.size w'.heap.size) A' c' ls/\vW w' A'/\Below w.heap.size w w'
def NewR(w:World)(ls:List PR)(e:Ending)(w':World):Prop:=
 ∃A' c',e=.returned (.slice A' ls.length c')/\ls.length<=c'/\c'<=maxLen/\Prs w' w'.heap.size A' c' ls/\vW w' A'/\Below w.heap.size w w'
def NewF.r{ls:List PR}{e:Ending}(h:NewF w ls e w'):NewR w ls e w':=by
 obtain⟨A',c',h1,h2,h3,h4,h5,h6⟩:=h;exact⟨A',c',h1,h2,h3,h4.here,h5,h6⟩
def PutF(w:World)(ls:List PR)(E:Int)(e:Ending)(w':World):Prop:=
 ∃A' c',e=.returned (.tuple #[.slice A' ls.length c',.int .i64 E])/\ls.length<=c'/\c'<=maxLen/\PrsD w' (Fr w.heap.size w'.heap.size) A' c' ls/\vW w' A'/\Below w.heap.size w w'
def PutF.none(w w':World)(E:Int)(hb:Below w.heap.size w w'):PutF w [] E (.returned (.tuple #[.slice none 0 0,.int .i64 E])) w':=
 ⟨_,_,rfl,aR _,aK _,PrsD.nothing _ _,(fun ad e=>by cases e),hb⟩
end
end
end Go.Proofs.YtcilgkdnjgmogaaGreatDoor
