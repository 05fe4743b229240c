/- A part of the proof. -/
import Derived.Test.YtcilgkdnjgmogaaGreatDoorYI
import Derived.ArgAppend
namespace Go.Proofs.YtcilgkdnjgmogaaGreatDoor
open Go.Proofs.Tryz
set_option maxRecDepth 100000
set_option maxHeartbeats 12800000
set_option linter.all false
variable {A:Option Addr} {B c cm k m n:Nat} {D:Nat->Prop} {e:TypeId} {u:Value} {vs xs:List Value} {w w' w1 w2 wr:World}
section
section
open Go.RowKit
abbrev nilS:Value:=.slice none 0 0
def zmr(n:Nat):∀x∈(madeCells (Value.agg #[nilS,nilS]).cells (n*2)).toList,x=nilS:=by
 intro x hx;simp only[madeCells,Value.cells,Array.toList_map,List.mem_map]at hx;obtain⟨i,_,rfl⟩:=hx;have h2:i % 2<2:=Nat.mod_lt _ (by omega);show(#[nilS,nilS]:Array Value)[i % 2]! =nilS
 match i % 2,h2 with
 | 0,_=>rfl
 | 1,_=>rfl
def xl(g o:Nat):∀(cs:List Value) (w:World),Below g w (w.setCells g o cs)/\(∀k,k≠g->(w.setCells g o cs).heap[k]? =w.heap[k]?)/\(w.setCells g o cs).heap.size=w.heap.size:=by
 intro cs
 induction cs generalizing o with
 | nil=>exact fun w=>⟨Below.refl _ _,fun _ _=>rfl,rfl⟩
 | cons c cs ih=>
  intro w;have h:=ih (o+1) (w.setCell ⟨g,o,none⟩ c);refine⟨((Below.refl g w).setCell (p:=⟨g,o,none⟩) (aR _) c).trans h.1,fun k hk=>?_,h.2.2.trans (by simp[World.setCell])⟩;have h2:=h.2.1 k hk;rw[Below.heap_setCell _ _ _ _ hk]at h2;exact h2
def SB.stored{base g n:Nat}(ho:w.ownsRow base 119 2 (.slice (some ⟨g,0,none⟩) n n) n xs)(hx:∀x∈xs,∃A m c,x=Value.slice A m c)
 {l:List Int} (h:SB w B u l) (o:Nat) (cs:List Value):SB (w.setCells g o cs) B u l:=by
 obtain⟨A,c,rfl,h1,h2,h3,h4⟩:=h;refine⟨A,c,rfl,h1,h2,⟨h3.1,fun i v hv=>?_⟩,h4⟩;obtain⟨ad,rfl,hB,hc⟩:=h3.2 i v hv;refine⟨ad,rfl,hB,?_⟩;by_cases hg:ad.block=g
 ·exfalso;obtain⟨b,hb,rfl⟩:∃b,b∈l/\Value.int .u8 b=v:=by
   have:=wM hv;simpa[zA]using this
  rcases ho.2 with⟨h',_⟩|⟨g',cap',cur,h',_,hh,_,_,hs,ht⟩
  ·simp at h'
  ·simp only[Value.slice.injEq,Option.some.injEq,Addr.mk.injEq,and_true,true_and]at h';obtain⟨rfl,rfl⟩:=h';have hcur:cur.toList=xs:=by rw[<- ht,List.take_of_length_le];simp[hs]
   have hspot:(ad.add i).spot=none:=World.cell?_spot hc;have had:ad.add i=⟨g,(ad.add i).off,none⟩:=by
    have hbl:=qh ad i;rw[hg]at hbl;rw[<- hbl,<- hspot]
   rw[had,wy w g _ cur 119 (0,0) hh]at hc;have hm:Value.int .u8 b∈xs:=by rw[<- hcur];exact wM (by rw[Array.getElem?_toList];exact hc)
   obtain⟨_,_,_,e⟩:=hx _ hm;cases e
 ·rw[yp (a:=ad.add i) (w:=w) (by rw[qh];exact(xl g o cs w).2.1 _ hg)];exact hc
def SBD.stored{base g n:Nat}(ho:w.ownsRow base 119 2 (.slice (some ⟨g,0,none⟩) n n) n xs)(hx:∀x∈xs,∃A m c,x=Value.slice A m c)
 {l:List Int} (h:SBD w D u l) (o:Nat) (cs:List Value):SBD (w.setCells g o cs) D u l:=by
 obtain⟨A,c,rfl,h1,h2,h3,h4⟩:=h;refine⟨A,c,rfl,h1,h2,⟨h3.1,fun i v hv=>?_⟩,h4⟩;obtain⟨ad,rfl,hD,hc⟩:=h3.2 i v hv;have hs:SB w (ad.block+1) (.slice (some ad) l.length c) l:=⟨_,_,rfl,h1,h2,⟨h3.1,fun i v hv=>by obtain⟨ad',e,_,hc'⟩:=h3.2 i v hv;injection e with e;subst e;exact⟨_,rfl,Nat.lt_succ_self _,hc'⟩⟩,h4⟩;obtain⟨A',c',e,_,_,hl,_⟩:=hs.stored ho hx o cs;injection e with e _ _
 subst e;obtain⟨ad',e',_,hc'⟩:=hl.2 i v hv;injection e' with e'
 subst e';exact⟨_,rfl,hD,hc'⟩
def Mk(w:World)(ls:List PR)(n k:Nat)(wr:World):Prop:=
 ∃vs,wr.ownsRow w.heap.size 119 2 (.slice (some ⟨w.heap.size,0,none⟩) n n) n vs/\(∀x∈vs,∃A m c,x=Value.slice A m c)/\PsCD wr (Fr w.heap.size wr.heap.size) (ls.take k) (vs.take (k*2))/\Below w.heap.size w wr
def Mk.start{ls:List PR}(ho:w1.ownsRow w.heap.size 119 2 (.slice (some ⟨w.heap.size,0,none⟩) n n) n (madeCells (Value.agg #[nilS,nilS]).cells (n*2)).toList)(hg:w.grownBy w1 none):Mk w ls n 0 w1:=
 ⟨_,ho,fun x hx=>⟨_,_,_,zmr n x hx⟩,by simp;exact .nil,(Below.refl _ _).grown hg (aR _) (fun k hk=>by cases hk)⟩
def Mk.bl{ls:List PR}(h:Mk w ls n k wr):Below w.heap.size w wr:=h.choose_spec.2.2.2
def Mk.lt{ls:List PR}(h:Mk w ls n k wr):w.heap.size<wr.heap.size:=(h.choose_spec.1.lt _ rfl).2
def xB{base:Nat}{size:Nat}{v:Value}(h:w.ownsRow base e size v n xs)(hb:Below w.heap.size w w'):w'.ownsRow base e size v n xs:=wB h hb (aR _)
def Mk.on{ls:List PR}(h:Mk w ls n k wr)(hb:Below wr.heap.size wr w2):Mk w ls n k w2:=by
 obtain⟨vs,ho,h1,h2,h3⟩:=h;exact⟨vs,xB ho hb,h1,h2.mono fun u l h=>h.fr hb,h3.trans (hb.mono h3.size)⟩
def Mk.there{ls:List PR}(h:Mk w ls n k wr)(hk:k<n):wr.there w.heap.size (k*2) 2:=by
 obtain⟨vs,ho,_⟩:=h;intro j hj;refine⟨?_,ho.frozenAt _⟩;have hl:=ho.1;rw[ho.cellAt (k*2+j) (by omega),vp (by omega)];rfl
def Mk.step{ls:List PR}{p:PR}{u v:Value}(h:Mk w ls n k wr)(hk:k<n)(hp:ls[k]? =some p)(h1:SBD wr (Fr w.heap.size wr.heap.size) u p.1)(h2:SBD wr (Fr w.heap.size wr.heap.size) v p.2):Mk w ls n (k+1) (wr.setCells w.heap.size (k*2) [u,v]):=by
 obtain⟨vs,ho,hs,hps,hb⟩:=h;have hz:(wr.setCells w.heap.size (k*2) [u,v]).heap.size=wr.heap.size:=(xl _ _ _ _).2.2;have hl:=ho.1;have s1:=ho.stored (k*2) u;have s2:=s1.1.stored (k*2+1) v;refine⟨(vs.set (k*2) u).set (k*2+1) v,s2.1,fun x hx=>?_,?_,hb.trans (xl _ _ _ _).1⟩
 ·rcases List.mem_or_eq_of_mem_set hx with e|e
  ·rcases List.mem_or_eq_of_mem_set e with e|e
   ·exact hs x e
   ·obtain⟨A,c,e',_⟩:=h1;exact⟨A,_,c,e.trans e'⟩
  ·obtain⟨A,c,e',_⟩:=h2;exact⟨A,_,c,e.trans e'⟩
 ·rw[hz,kj hp,show(k+1)*2=k*2+1+1 by omega];have e:((vs.set (k*2) u).set (k*2+1) v).take (k*2+1+1)=vs.take (k*2)++[u,v]:=by
   have g1:((vs.set (k*2) u).set (k*2+1) v)[k*2]? =some u:=by
    rw[List.getElem?_set_ne (by omega),List.getElem?_set_self (by omega)]
   have g2:((vs.set (k*2) u).set (k*2+1) v)[k*2+1]? =some v:=by
    rw[List.getElem?_set_self (by simp;omega)]
   rw[kj g2,kj g1,List.take_set_of_le (by omega),List.take_set_of_le (by omega)];simp
  rw[e];refine(hps.mono fun x l hx=>hx.stored ho hs _ _).append (.cons (h1.stored ho hs _ _) (h2.stored ho hs _ _) .nil)
def Mk.fin{ls:List PR}(h:Mk w ls n n wr)(hn:n=ls.length):PrsD wr (Fr w.heap.size wr.heap.size) (some ⟨w.heap.size,0,none⟩) n ls:=by
 obtain⟨vs,ho,hs,hps,hb⟩:=h;have hl:=ho.1;rw[hn,List.take_length,<- hn,<- hl,List.take_length]at hps;exact⟨vs,⟨(fun e=>by cases e),fun j u hu=>⟨_,rfl,ho.lt _ rfl,ho.cells rfl j u hu⟩⟩,hps⟩
def zui{b g o:Nat}{u v:Value}{cs:List Value}(h:w.cell? ⟨b,0,none⟩=some u/\w.cell? ⟨b,1,none⟩=some v)(hb:b≠g):(w.setCells g o cs).cell? ⟨b,0,none⟩=some u/\(w.setCells g o cs).cell? ⟨b,1,none⟩=some v:=
 ⟨by rw[yp (a:=⟨b,0,none⟩) (w:=w) ((xl g o cs w).2.1 _ hb)];exact h.1,by rw[yp (a:=⟨b,1,none⟩) (w:=w) ((xl g o cs w).2.1 _ hb)];exact h.2⟩
def Sml(ls:List PR):Prop:=ls.length<=200000/\∀p∈ls,p.1.length<=200000/\p.2.length<=200000
def zk8(w:World)(ls:List PR)(e:Ending)(w':World):Prop:=
 ∃A' c',e=.returned (.slice A' ls.length c')/\ls.length<=c'/\c'<=maxLen/\Prs w' w'.heap.size A' c' ls/\Below w.heap.size w w'
def zfo(A:Option Addr)(ls:List PR)(c:Nat)(w:World)(hp:Prs w w.heap.size A c ls)(hs:Sml ls):Calls prog 267 #[.slice A ls.length c] w (NewF w ls):=by
 have HP:=aQ hp;have HS:=aQ hs;have hn:=hs.1;clear hp hs;obtain⟨i0,hi,hz0,hz1,hz2⟩:=info_parts zkh;go_enter func267,ntmps267
 go_wp2_with(at_make;refine wpList_make_full _ rfl _ _ 33 rfl w.heap.size 119 i0 (.agg #[nilS,nilS]) 2 underlying33 hi hz0 hz1 _ _ _ _ ls.length rfl rfl rfl rfl (by rw[hz2];omega) (by unfold maxLen;omega) (aR _) ?_;intro w1 ho1 hg1)
 have hst:Hid (Mk w ls ls.length 0 w1):=Mk.start ho1 hg1;clear ho1 hg1;go_wp2
 go_loopw [4,5,11] (fun _ _ i wr=>∃k:Nat,k<=ls.length/\i=.int .i64 k/\Hid (Mk w ls ls.length k wr)) (fun _ _ i _=>ls.length-(intOf i).toNat)
 case atStart=>exact⟨0,aK _,rfl,hst⟩
 case round=>
  clear hst;obtain⟨k,hk,rfl,HMk⟩:=hrel;by_cases hlt:k<ls.length
  ·have hg:ls[k]? =some ls[k]:=vp hlt;generalize ls[k]=p at hg;have hP:=HP.out.on HMk.out.bl;obtain⟨b,o,Au,cu,Av,cv,rfl,c1,c2,s1,s2,q1,q2,q3,q4⟩:=hP.at hg;have hsm:=HS.out.2 p (wM hg);have HC:=aQ (zem c1 c2);have hbx:=za wr (.cells #[.slice Au p.1.length cu,.slice Av p.2.length cv] 119);have HY:Hid (Byt p.1/\Byt p.2):=⟨s1.byt,s2.byt⟩
   have HBX:Hid (∀w',Below (wr.alloc (.cells #[.slice Au p.1.length cu,.slice Av p.2.length cv] 119)).heap.size (wr.alloc (.cells #[.slice Au p.1.length cu,.slice Av p.2.length cv] 119)) w'->w'.cell? ⟨wr.heap.size,0,none⟩=some (.slice Au p.1.length cu)/\w'.cell? ⟨wr.heap.size,1,none⟩=some (.slice Av p.2.length cv)):=fun w' hb=>
    ⟨by rw[hb.cell (by simp),wy _ _ _ _ _ _ (ye wr _)];rfl,by rw[hb.cell (by simp),wy _ _ _ _ _ _ (ye wr _)];rfl⟩
   have HKc:Hid (∀w',Below (wr.alloc (.cells #[.slice Au p.1.length cu,.slice Av p.2.length cv] 119)).heap.size (wr.alloc (.cells #[.slice Au p.1.length cu,.slice Av p.2.length cv] 119)) w'->Calls prog 48 #[.slice Au p.1.length cu] w' (vK w' p.1)/\Calls prog 48 #[.slice Av p.2.length cv] w' (vK w' p.2)):=fun w' hb=>by
    obtain⟨_,_,e1,_,_,g1,_⟩:=(s1.on hbx).on hb;obtain⟨_,_,e2,_,_,g2,_⟩:=(s2.on hbx).on hb;injection e1 with e1 _ e1'
    injection e2 with e2 _ e2'
    subst e1 e1' e2 e2';exact⟨zka _ p.1 _ w' g1 (by omega),zka _ p.2 _ w' g2 (by omega)⟩
   have HMk0:=HMk;have HMk:Hid (Mk w ls ls.length k (wr.alloc (.cells #[.slice Au p.1.length cu,.slice Av p.2.length cv] 119))):=HMk.out.on hbx;have hgw:w.heap.size<wr.heap.size:=HMk0.out.lt;have HW:Hid (w.heap.size<=wr.heap.size):=Nat.le_of_lt hgw;clear c1 c2 s1 s2 hbx hP HMk0
   go_wp2_with(first|(refine wpList_load_mid rfl 119 (.tmp 14) rfl b (o+k*2) rfl [.slice Au p.1.length cu,.slice Av p.2.length cv] _ HC.out underlying119 rfl kC ?_;refine Hid.out ?_)|fail)
   refine aQ ?_
   (go_wp2_with fail);have HWx:Hid (w.heap.size<=(wr.alloc (.cells #[.slice Au p.1.length cu,.slice Av p.2.length cv] 119)).heap.size):=by
    have:=HW.out;show _<=_;rw[aE];omega
   generalize wr.alloc (.cells #[.slice Au p.1.length cu,.slice Av p.2.length cv] 119)=wx at *
   refine wp_region_held_drew (S:=fun w'=>w'.cell? ⟨wr.heap.size,0,none⟩=some (.slice Au p.1.length cu)/\w'.cell? ⟨wr.heap.size,1,none⟩=some (.slice Av p.2.length cv)) (by kernel_rfl) (HBX.out _ (Below.refl _ _).drew) (fun hHeld=>?_);refine aP 0 ?_
   try simp only[Act.put,zzs]
   refine aP 1 ?_
   try simp only[Act.put,zzs]
   refine aP 2 ?_
   try simp only[Act.put,zzs]
   refine aP 3 ?_
   try simp only[Act.put,zzs]
   refine aP 5 ?_
   try simp only[Act.put,zzs]
   refine aP 6 ?_
   try simp only[Act.put,zzs]
   refine aa 4 rfl fun K hK=>?_;go_simp
   (with_reducible refine(HKc.out _ (Below.refl _ _).drew).1.mono ?_)
   rintro e w4⟨A4,c4,rfl,n1,n2,n3,hb4⟩;replace hb4:Below wx.heap.size wx w4:=(Below.refl _ _).drew.trans hb4;have HA4:Hid (SBD w4 (Fr w.heap.size w4.heap.size) (.slice A4 p.1.length c4) p.1/\Below wx.heap.size wx w4):=⟨SBD.lo ⟨A4,c4,rfl,n1,n2,n3,HY.out.1⟩ HWx.out,hb4⟩;clear n1 n2 n3
   (go_wp2_with fail);refine hK.out _ _ (HBX.out _ hb4) (fun hHeld=>?_);clear hK K hb4;refine aa 7 rfl fun K hK=>?_
   go_simp
   (with_reducible refine(HKc.out _ HA4.out.2).2.mono ?_)
   rintro e w5⟨A5,c5,rfl,n1,n2,n3,hb5⟩;have HA5:Hid (SBD w5 (Fr w.heap.size w5.heap.size) (.slice A4 p.1.length c4) p.1/\SBD w5 (Fr w.heap.size w5.heap.size) (.slice A5 p.2.length c5) p.2/\Below wx.heap.size wx w5):=⟨HA4.out.1.fr hb5,SBD.lo ⟨A5,c5,rfl,n1,n2,n3,HY.out.2⟩ (aT HWx.out HA4.out.2.size),HA4.out.2.trans (hb5.mono HA4.out.2.size)⟩;clear n1 n2 n3 hb5
   (go_wp2_with fail);refine hK.out _ _ (HBX.out _ HA5.out.2.2) (fun hHeld=>?_);clear hK K;refine aP 8 ?_
   try simp only[Act.put,zzs]
   refine aP 9 ?_
   try simp only[Act.put,zzs]
   refine aa 10 rfl fun K hK=>?_;rw[if_pos (by rfl)];have HM5:=HMk.out.on HA5.out.2.2;refine wp_store_mid 119 (.tmp 25) (.tmp 24) rfl w.heap.size (k*2) #[.slice A4 p.1.length c4,.slice A5 p.2.length c5] rfl rfl (HM5.there hlt) kC (by simp[Value.oneCell']) ?_;have HM6:=aQ (HM5.step hlt hg HA5.out.1 HA5.out.2.1);clear HM5;refine hK.out _ _ (zui (HBX.out _ HA5.out.2.2) (by have:=HMk.out.lt;omega)) (fun hHeld=>?_);clear hK K hHeld;refine aJ (by kernel_rfl) ?_ _;clear HBX HKc HC HY;go_wp2
   go_roundw
   case rel=>exact⟨k+1,by omega,by go_num,HM6⟩
   case measure=>simp[intOf];omega
  ·obtain rfl:k=ls.length:=by omega
   go_wp2;go_ret;exact⟨_,_,rfl,aR _,by unfold maxLen;omega,HMk.out.fin rfl,zgu HMk.out.choose_spec.1,HMk.out.bl⟩
def jz{P:Program}(w:World)(t ty e:TypeId)(i:TypeInfo)(ht:P.underlying t=some (.slice e))(hi:P.info? e=some i)(A M:Option Addr)(n cap cm:Nat)(hn:n<=cap)(hA:A=none->n=0):(Builtin.append_ #[t,t] ty #[.slice A n cap,.slice M 0 cm]).run P w=.ok (.slice A n cap) w:=by
 cases A with
 | none=>
  obtain rfl:=hA rfl;cases M with
  | none=>simp[Builtin.append_,run_underlying ht,sizeOf,typeInfo,hi,Builtin.lenOf,Builtin.firstCells,loadCells,loadCellsFrom]
  | some ad=>simp[Builtin.append_,run_underlying ht,sizeOf,typeInfo,hi,Builtin.lenOf,Builtin.firstCells,loadCells,loadCellsFrom]
 | some a=>
  cases M with
  | none=>simp[Builtin.append_,run_underlying ht,sizeOf,typeInfo,hi,Builtin.lenOf,Builtin.firstCells,loadCells,loadCellsFrom,storeCells,hn]
  | some ad=>simp[Builtin.append_,run_underlying ht,sizeOf,typeInfo,hi,Builtin.lenOf,Builtin.firstCells,loadCells,loadCellsFrom,storeCells,hn]
def Dst(w:World)(base B:Nat)(v:Value)(ls:List PR):Prop:=
 ∃vs,PsC w B ls vs/\(w.ownsRow base 119 2 v ls.length vs\/∃A,v=.slice A ls.length ls.length/\Lies w B A ls.length vs)
def Src8(w:World)(B:Nat)(M:Option Addr)(cm:Nat)(ms:List PR):Prop:=∃B' us,Lies w B' M cm us/\PsC w B ms us
def Src8.of{M:Option Addr}{ms:List PR}(h:Prs w B M cm ms):Src8 w B M cm ms:=by
 obtain⟨us,h1,h2⟩:=h;exact⟨B,us,h1,h2⟩
def zrf:∃i,prog.info? 119=some i/\i.zero=some (.agg #[nilS,nilS])/\i.size=2/\i.bytes=48:=info_parts zkh
def Dst.app{base B:Nat}{v:Value}{ls:List PR}(h:Dst w base B v ls)(hB:B<=base)(hb:base<=w.heap.size)(ty:TypeId){M:Option Addr}{ms:List PR}(hM:Src8 w B M cm ms)(hs:ls.length+ms.length<=1000000):∃v' w',(Builtin.append_ #[33,33] ty #[v,.slice M ms.length cm]).run prog w=.ok v' w'/\Dst w' base B v' (ls++ms)/\Below base w w':=by
 obtain⟨i0,hi,hz0,hz1,hz2⟩:=zrf;obtain⟨vs,hp,hv⟩:=h;obtain⟨B',us,hl,hq⟩:=hM;by_cases hm:ms=[]
 ·subst hm;have hform:∃A c,v=.slice A ls.length c/\ls.length<=c/\(A=none->ls.length=0):=by
   rcases hv with ho|⟨A,e,hA⟩
   ·obtain⟨A,c,e1,e2,e3,e4⟩:=zxq ho;refine⟨A,c,e1,e2,fun e=>?_⟩;subst e;have:=e4.none_nil.2;omega
   ·exact⟨A,_,e,aR _,hA.1⟩
  obtain⟨A,c,rfl,h1,h2⟩:=hform;refine⟨_,_,jz w 33 ty 119 i0 underlying33 hi A M ls.length c cm h1 h2,?_,Below.refl _ _⟩;rw[List.append_nil];exact⟨vs,hp,hv⟩
 ·have hpos:0<ms.length:=List.length_pos_iff.2 hm;have hul:us.length=ms.length*2:=hq.len;cases M with
  | none=>
   have:=hl.none_nil.1;subst this;simp at hul;omega
  | some ad=>
   have hnews:∀j u,us[j]? =some u->w.cell? (ad.add j)=some u:=fun j u hu=>by
    obtain⟨ad',e',_,hc⟩:=hl.2 j u hu;injection e' with e'
    subst e';exact hc
   rcases hv with ho|⟨A,rfl,hA⟩
   ·obtain⟨v',w',hr,h2,h3,_⟩:=run_append_own (P:=prog) w base 33 ty 119 i0 _ 2 48 underlying33 hi hz0 hz1 hz2 rfl (by omega) v ls.length vs ho ad ms.length cm us hul hnews hq.one (by unfold maxLen;omega) (by omega) hb;have hbl:Below base w w':=(Below.refl _ _).grown h3 hb (fun k hk=>(ho.lt k hk).1);refine⟨v',w',hr,⟨vs++us,((hp.append hq).low (hbl.mono hB)),.inl ?_⟩,hbl⟩;rw[aA];exact h2
   ·cases A with
    | none=>
     have e0:=hA.none_nil;have e1:ls=[]:=List.eq_nil_of_length_eq_zero e0.2;subst e1;obtain⟨v',w',hr,h2,h3,_⟩:=run_append_own (P:=prog) w base 33 ty 119 i0 _ 2 48 underlying33 hi hz0 hz1 hz2 rfl (by omega) (.slice none 0 0) 0 [] (World.ownsRow_nil w _ 119 2) ad ms.length cm us hul hnews hq.one (by unfold maxLen;omega) (by omega) hb;have hbl:Below base w w':=(Below.refl _ _).grown h3 hb (fun k hk=>by cases hk);have e2:=e0.1;subst e2;refine⟨v',w',hr,⟨us,hq.low (hbl.mono hB),.inl ?_⟩,hbl⟩;simpa using h2
    | some b=>
     have holds:∀j u,vs[j]? =some u->w.cell? (b.add j)=some u:=fun j u hu=>by
      obtain⟨ad',e',_,hc⟩:=hA.2 j u hu;injection e' with e'
      subst e';exact hc
     obtain⟨v',w',hr,h2,h3⟩:=run_append_arg_grows (P:=prog) w 33 ty 119 i0 _ 2 48 underlying33 hi hz0 hz1 hz2 rfl (by omega) b ls.length ls.length vs hp.len holds ad ms.length cm us hul hnews (by omega) (by unfold maxLen;omega) (by omega);have hbl:Below base w w':=(Below.refl _ _).grown h3 hb (fun k hk=>by cases hk);refine⟨v',w',hr,⟨vs++us,((hp.append hq).low (hbl.mono hB)),.inl ?_⟩,hbl⟩;rw[aA];exact vz h2 hb
def Dst.wp{base B:Nat}{v:Value}{ls:List PR}(h:Dst w base B v ls)(hB:B<=base)(hb:base<=w.heap.size){o:Oper}{a:Act}{K:Act->World->Prop}{Q:Exit->Act->World->Prop}(s x:Operand)
  (ho:o.op=.call { callee:=.builtin .append,args:=#[s,x],argTypes:=#[33,33] }) (hs:a.eval s=v) {M:Option Addr} {ms:List PR} (hx:a.eval x=.slice M m cm) (hM:Src8 w B M cm ms) (hm:m=ms.length) (hsm:ls.length+ms.length<=1000000)
  (hK:∀v' w',Dst w' base B v' (ls++ms)->Below base w w'->K (a.put o.dst v') w'):o.wp prog a w K Q:=by
 subst hm;obtain⟨v',w',hr,h2,h3⟩:=h.app hB hb o.type hM hsm;unfold Oper.wp execOp;simp only[ho,resolve,invoke,builtin,Sem.run_bind,Sem.run_pure,Result.andThen_ok,List.map_toArray,List.map_cons,List.map_nil,hs,hx,hr];exact hK v' w' h2 h3
def Dst.prs{base B:Nat}{v:Value}{ls:List PR}(h:Dst w base B v ls)(hB:B<=w.heap.size)(hs:ls.length<=1000000):∃A c,v=.slice A ls.length c/\ls.length<=c/\c<=maxLen/\Prs w w.heap.size A c ls:=by
 obtain⟨vs,hp,ho|⟨A,e,hA⟩⟩:=h
 ·obtain⟨A,c,e1,e2,e3,e4⟩:=zxq ho;exact⟨A,c,e1,e2,e3,vs,e4,hp.more hB⟩
 ·exact⟨A,_,e,aR _,by unfold maxLen;omega,vs,hA.more hB,hp.more hB⟩
def Lies.part(h:Lies w B A c vs)(k:Nat)(hl:vs.length<=c*2):Lies w B (if c=k then A else A.map (fun x=>x.add (k*2))) (c-k) (vs.drop (k*2)):=by
 refine⟨fun e=>?_,fun j u hu=>?_⟩
 ·split at e
  ·omega
  ·have:A=none:=by simpa using e
   have:=h.1 this;omega
 ·rw[List.getElem?_drop]at hu;have hlt:=(vm.1 hu).1;obtain⟨ad,rfl,hB,hc⟩:=h.2 _ _ hu;rw[if_neg (by omega)];refine⟨ad.add (k*2),rfl,by rw[qh];exact hB,?_⟩;rw[Deep.add_add];exact hc
def Prs.part{ls:List PR}(h:Prs w B A c ls)(k:Nat)(hl:ls.length<=c):Prs w B (if c=k then A else A.map (fun x=>x.add (k*2))) (c-k) (ls.drop k):=by
 obtain⟨vs,h1,h2⟩:=h;exact⟨vs.drop (k*2),h1.part k (by rw[h2.len];omega),h2.drop k⟩
def Prs.head{ls:List PR}(h:Prs w B A c ls)(hk:k<=ls.length)(c':Nat)(hc:A=none->c'=0):Prs w B A c' (ls.take k):=by
 obtain⟨vs,h1,h2⟩:=h;refine⟨vs.take (k*2),⟨hc,fun j u hu=>h1.2 j u ?_⟩,h2.take k⟩;rw[List.getElem?_take]at hu
 split at hu
 ·exact hu
 ·cases hu
def Prs.full{B base:Nat}{ls:List PR}(h:Prs w B A c ls)(hk:k<=ls.length):Dst w base B (.slice A k k) (ls.take k):=by
 have hkl:(ls.take k).length=k:=by rw[aI];omega
 obtain⟨vs,h1,h2⟩:=h.head hk k (fun e=>by subst e;have:=h.none_nil.1;subst this;simpa using hk);exact⟨vs,h2,.inr ⟨A,by rw[hkl],by rw[hkl];exact h1⟩⟩
def Dst.on{base B:Nat}{v:Value}{ls:List PR}(h:Dst w base B v ls)(hb:Below w.heap.size w w')(hB:B<=w.heap.size):Dst w' base B v ls:=by
 obtain⟨vs,hp,hv⟩:=h;refine⟨vs,hp.low (hb.mono hB),?_⟩;rcases hv with ho|⟨A,e,hA⟩
 ·exact .inl (xB ho hb)
 ·exact .inr ⟨A,e,hA.below (hb.mono hB)⟩
def zlv(A M:Option Addr)(ls ms:List PR)(c a b m cm:Nat)(w:World)(hp:Prs w w.heap.size A c ls)(hq:Prs w w.heap.size M cm ms)(hm:m=ms.length)(h1:a<=b)(h2:b<=ls.length)(h3:ls.length<=c)(hcm:c<=maxLen)(hs:ls.length+ms.length<=400000)(rs:List PR)(hr:rs=ls.take a++ms++ls.drop b):Calls prog 266 #[.slice A ls.length c,.int .i64 a,.int .i64 b,.slice M m cm] w (zk8 w rs):=by
 have e1:a<=c:=by omega
 have e2:b<=c:=by omega
 have HD0:Hid (Dst w.drew w.heap.size w.heap.size (.slice A a a) (ls.take a)):=(hp.full (by omega)).on (Below.refl _ _).drew (aR _);have HM0:Hid (Src8 w.drew w.heap.size M cm ms):=.of (hq.below (Below.refl _ _).drew);have HX:Hid (∀w',Below w.heap.size w w'->Src8 w' w.heap.size (if c=b then A else A.map (fun x=>x.add (b*2))) (c-b) (ls.drop b)):=fun w' hb=>.of ((hp.part b h3).below hb);have hl1:(ls.take a).length=a:=by rw[aI];omega
 have hl2:(ls.drop b).length=ls.length-b:=by rw[aH]
 have HR:=aQ hr.symm;have HL:Hid (rs.length<=800000):=by show _<=_;rw[hr];simp only[aA,hl1,hl2];omega
 clear hp hq hl1 hl2 hr;subst hm;unfold maxLen at hcm;go_enter func266,ntmps266
 go_wp2_with fail
 refine wp_region_held_drew (S:=fun w'=>True) (by kernel_rfl) trivial (fun hHeld=>?_);refine aO 0 ?_
 try simp only[Act.put,zzs]
 refine aO 1 ?_
 try simp only[Act.put,zzs]
 refine aO 2 ?_
 try simp only[Act.put,zzs]
 refine aO 3 ?_
 try simp only[Act.put,zzs]
 refine aO 4 ?_
 try simp only[Act.put,zzs]
 refine aO 6 ?_
 try simp only[Act.put,zzs]
 refine aO 7 ?_
 try simp only[Act.put,zzs]
 refine aO 8 ?_
 try simp only[Act.put,zzs]
 refine aa 5 rfl fun K hK=>?_;rw[if_pos (by rfl)];refine HD0.out.wp (aR _) (aR _) (.tmp 12) (.tmp 13) rfl rfl rfl HM0.out rfl (by simp;omega) ?_;intro v4 w4 hD4 hb4;have HD4:=aQ hD4;replace hb4:Below w.heap.size w w4:=(Below.refl _ _).drew.trans hb4;have HB4:=aQ hb4;clear hD4 hb4;refine hK.out _ _ trivial (fun hHeld=>?_);clear hK K
 try simp only[Act.put,zzs]
 refine aa 9 rfl fun K hK=>?_;rw[if_pos (by rfl)];refine HD4.out.wp (aR _) HB4.out.size (.tmp 14) (.tmp 17) rfl rfl rfl (HX.out w4 HB4.out) (by simp) (by simp;omega) ?_;intro v5 w5 hD5 hb5;rw[HR.out]at hD5;have HD5:=aQ hD5;have HB5:=aQ (HB4.out.trans hb5);clear hD5 hb5;refine hK.out _ _ trivial (fun hHeld=>?_);clear hK K hHeld
 try simp only[Act.put,zzs]
 have hHeld:True:=trivial;refine aO 10 ?_
 try simp only[Act.put,zzs]
 refine aJ (by kernel_rfl) ?_ _;go_wp2
 all_goals
  obtain⟨A',c',e',g1,g2,g3⟩:=HD5.out.prs HB5.out.size (by have:=HL.out;omega);go_ret;exact⟨A',c',by rw[<- e'];rfl,g1,g2,g3,HB5.out⟩
def zl2:∀ {l:List PR},(∀p∈l,p.1.length<=200000/\p.2.length<=200000)->szM l<=400008*l.length
 | [],_=>aR _
 | p::l,h=>by
  have h1:=h p (List.mem_cons_self ..);have h2:=zl2 (l:=l) fun q hq=>h q (List.mem_cons_of_mem _ hq);rw[kY,aB];omega
def Sml.sz{l:List PR}(h:Sml l):szM l<=4611686018427387904:=by
 have:=zl2 h.2;have:=h.1;omega
def zs9(k:List Int)(l:List PR):spA k l<=spB k l/\spB k l<=l.length:=by
 unfold spA spB;have:=zjv k l
 split<;>omega
def znk{l:List PR}(h:Sml l)(hl:l.length<=100000){k v:List Int}(hk:k.length<=64)(hv:v.length<=256):Sml (putM l k v):=by
 unfold putM;refine⟨?_,fun p hp=>?_⟩
 ·simp only[aA,aB,aI,aH];have:=zs9 k l;omega
 ·rcases List.mem_append.1 hp with e|e
  ·exact h.2 p (List.mem_of_mem_take e)
  ·rcases aC.1 e with e|e
   ·subst e;exact⟨by simp;omega,by simp;omega⟩
   ·exact h.2 p (List.mem_of_mem_drop e)
def zn3{l:List PR}(h:Sml l)(k:List Int):Sml (delM l k):=
 ⟨aT (kS l k).length_le h.1,fun p hp=>h.2 p ((kS l k).subset hp)⟩
def zqz(l:List PR)(k v:List Int):putM l k v=l.take (spA k l)++[(k,v)]++l.drop (spB k l):=by simp[putM]
def zu3(A:Option Addr)(ls:List PR)(c:Nat)(Ak:Option Addr)(key:List Int)(ck:Nat)(w:World)(hp:Prs w w.heap.size A c ls)(hc:ls.length<=c)(hm:c<=maxLen)(hk:SB w w.heap.size (.slice Ak key.length ck) key):Calls prog 265 #[.slice A ls.length c,.slice Ak key.length ck] w fun e w'=>e=.returned (.tuple #[.int .i64 (spA key ls),.int .i64 (spB key ls)])/\Below w.heap.size w w':=by
 have hb1:=za w (.cells #[.slice Ak key.length ck] 22);have K1:=aQ (zgt 295 w.heap.size (fun p=>p.1==key) zp7 A ls c _ (hp.on hb1) hc hm (zam Ak key ck w hk));have HP:=aQ hp;have HK:=aQ hk;have hm':=hm;clear hp hk;unfold maxLen at hm;by_cases hf:fnd key ls<ls.length
 ·have h0:idxV (fun p=>p.1==key) ls=(fnd key ls:Nat):=if_pos hf;have hA:spA key ls=fnd key ls:=if_pos hf;have hB:spB key ls=fnd key ls+1:=if_pos hf;rw[hA,hB];rw[h0]at K1;have HB1:=aQ hb1;clear hA hB h0 hb1
  generalize fnd key ls=q at *
  go_enter func265,ntmps265
  go_wp2_with(first|(go_at_call 270;refine(zf6 _ _ _ _).mono ?_;rintro e w1 ⟨rfl,rfl⟩)|(go_at_call 269;(with_reducible refine K1.out.mono ?_);rintro e w2 ⟨rfl,hb2⟩))
  go_ret2
  exact⟨by go_num,HB1.out.trans (hb2.mono HB1.out.size)⟩
 ·have h0:idxV (fun p=>p.1==key) ls=-1:=if_neg hf;rw[h0]at K1
  have K2:Hid (∀w2,Below w.heap.size w w2->Calls prog 269 #[.slice A ls.length c,znr 320 w2.heap.size] (w2.alloc (.cells #[.slice Ak key.length ck] 22)) fun e w'=>e=.returned (.int .i64 (idxV (fun p=>decide (0<cmpB p.1 key)) ls))/\Below (w2.alloc (.cells #[.slice Ak key.length ck] 22)).heap.size (w2.alloc (.cells #[.slice Ak key.length ck] 22)) w'):=fun w2 hb=>
   zgt 320 w2.heap.size _ zse A ls c _ ((HP.out.on hb).on (za w2 _)) hc hm' (zfz Ak key ck w2 (HK.out.on hb))
  have HB1:=aQ hb1;have HB2:Hid (∀w2,Below w.heap.size w w2->Below w.heap.size w (w2.alloc (.cells #[.slice Ak key.length ck] 22))):=fun w2 hb=>hb.trans ((za w2 _).mono hb.size);by_cases hg:bey key ls<ls.length
  ·have h1:idxV (fun p=>decide (0<cmpB p.1 key)) ls=(bey key ls:Nat):=if_pos hg;have hA:spA key ls=bey key ls:=if_neg hf;have hB:spB key ls=bey key ls:=if_neg hf;rw[hA,hB];rw[h1]at K2;clear hA hB h0 h1 hb1 hf
   generalize bey key ls=q at *
   go_enter func265,ntmps265
   go_wp2_with(first|(go_at_call 270;refine(zf6 _ _ _ _).mono ?_;rintro e w1 ⟨rfl,rfl⟩)|fail)
   (with_reducible refine K1.out.mono ?_)
   rintro e w2⟨rfl,hb2⟩;have HB3:=aQ (HB1.out.trans (hb2.mono HB1.out.size));clear hb2
   go_wp2_with(first|(go_at_call 294;refine(zmj _ _ _ _).mono ?_;rintro e w1 ⟨rfl,rfl⟩)|fail)
   (with_reducible refine(K2.out _ HB3.out).mono ?_)
   rintro e w3⟨rfl,hb3⟩;have HB4:=aQ ((HB2.out _ HB3.out).trans (hb3.mono (HB2.out _ HB3.out).size));clear hb3;go_wp2
   go_ret2
   exact⟨by go_num,HB4.out⟩
  ·have h1:idxV (fun p=>decide (0<cmpB p.1 key)) ls=-1:=if_neg hg;have hl:bey key ls=ls.length:=by have:=zjv key ls;omega
   have hA:spA key ls=ls.length:=(if_neg hf).trans hl;have hB:spB key ls=ls.length:=(if_neg hf).trans hl;rw[hA,hB];rw[h1]at K2;clear hA hB h0 h1 hb1 hf hg hl;go_enter func265,ntmps265
   go_wp2_with(first|(go_at_call 270;refine(zf6 _ _ _ _).mono ?_;rintro e w1 ⟨rfl,rfl⟩)|fail)
   (with_reducible refine K1.out.mono ?_)
   rintro e w2⟨rfl,hb2⟩;have HB3:=aQ (HB1.out.trans (hb2.mono HB1.out.size));clear hb2
   go_wp2_with(first|(go_at_call 294;refine(zmj _ _ _ _).mono ?_;rintro e w1 ⟨rfl,rfl⟩)|fail)
   (with_reducible refine(K2.out _ HB3.out).mono ?_)
   rintro e w3⟨rfl,hb3⟩;have HB4:=aQ ((HB2.out _ HB3.out).trans (hb3.mono (HB2.out _ HB3.out).size));clear hb3;go_wp2
   go_ret2
   exact⟨rfl,HB4.out⟩
def GotO(w:World)(v:List Int)(is:Bool)(e:Ending)(w':World):Prop:=
 ∃V,e=.returned (.tuple #[V,.bool is])/\w'.ownsRow w.heap.size 5 1 V v.length (zA v)/\Byt v/\Below w.heap.size w w'
def zd4{base:Nat}{V:Value}{v:List Int}(h:w.ownsRow base 5 1 V v.length (zA v))(hb:Byt v):SB w w.heap.size V v:=by
 obtain⟨A,c,e,h1,h2,h3⟩:=xG h;exact⟨A,c,e,h1,h2,h3,hb⟩
def getC(A:Option Addr)(ls:List PR)(c:Nat)(Ak:Option Addr)(key:List Int)(ck:Nat)(w:World)(hp:Prs w w.heap.size A c ls)(hc:ls.length<=c)(hm:c<=maxLen)(hk:SB w w.heap.size (.slice Ak key.length ck) key)(hs:Sml ls):Calls prog 234 #[.slice A ls.length c,.slice Ak key.length ck] w (GotO w (getM ls key) (hasM ls key)):=by
 have hb1:=za w (.cells #[.slice Ak key.length ck] 22);have K1:=aQ (zgt 295 w.heap.size (fun p=>p.1==key) zp7 A ls c _ (hp.on hb1) hc hm (zam Ak key ck w hk));have HP:=aQ hp;have HB1:=aQ hb1;clear hp hk;unfold maxLen at hm;by_cases hf:fnd key ls<ls.length
 ·have h0:idxV (fun p=>p.1==key) ls=(fnd key ls:Nat):=if_pos hf;obtain⟨v,hv⟩:=zen hf;have hg:getM ls key=v:=by unfold getM;rw[List.getD,hv];rfl
  have hh:hasM ls key=true:=by unfold hasM;simpa using hf
  have hsm:=hs.2 _ (wM hv);rw[hg,hh];rw[h0]at K1;clear h0 hb1 hg hh hs
  generalize fnd key ls=q at *
  go_enter func234,ntmps234
  go_wp2_with(first|(go_at_call 270;refine(zf6 _ _ _ _).mono ?_;rintro e w1 ⟨rfl,rfl⟩)|fail)
  (with_reducible refine K1.out.mono ?_)
  rintro e w2⟨rfl,hb2⟩;have HB2:=aQ (HB1.out.trans (hb2.mono HB1.out.size));obtain⟨b,o,Au,cu,Av,cv,rfl,c1,c2,s1,s2,_⟩:=(HP.out.on HB2.out).at hv;have HV:=aQ s2.byt;have K27:Hid (Calls prog 48 #[.slice Av v.length cv] w2 (jG w2 v)):=by
   obtain⟨_,_,e2,_,_,g2,_⟩:=s2;injection e2 with e2 _ e2'
   subst e2 e2';exact zbq _ v _ w2 g2 (by have h:=hsm.2;omega)
  clear hb2 hv s1 s2 c1 hsm
  go_wp2_with(first|(go_at_call 48;(with_reducible refine K27.out.mono ?_);rintro e w3 ⟨V,rfl,ho3,hb3⟩)|fail)
  go_ret2
  exact⟨V,rfl,vz ho3 HB2.out.size,HV.out,HB2.out.trans (hb3.mono HB2.out.size)⟩
 ·have h0:idxV (fun p=>p.1==key) ls=-1:=if_neg hf;have hg:getM ls key=[]:=by unfold getM;rw[List.getD,List.getElem?_eq_none (by omega)];rfl
  have hh:hasM ls key=false:=by unfold hasM;simpa using hf
  rw[hg,hh];rw[h0]at K1;clear h0 hb1 hg hh hs hf;go_enter func234,ntmps234
  go_wp2_with(first|(go_at_call 270;refine(zf6 _ _ _ _).mono ?_;rintro e w1 ⟨rfl,rfl⟩)|fail)
  (with_reducible refine K1.out.mono ?_)
  rintro e w2⟨rfl,hb2⟩;have HB2:=aQ (HB1.out.trans (hb2.mono HB1.out.size));clear hb2;go_wp2
  go_ret2
  exact⟨_,rfl,World.ownsRow_nil _ _ _ _,Byt.nil,HB2.out⟩
def delC(A:Option Addr)(ls:List PR)(c:Nat)(Ak:Option Addr)(key:List Int)(ck:Nat)(w:World)(hp:Prs w w.heap.size A c ls)(hc:ls.length<=c)(hm:c<=maxLen)(hk:SB w w.heap.size (.slice Ak key.length ck) key)(hs:Sml ls):Calls prog 238 #[.slice A ls.length c,.slice Ak key.length ck] w (NewF w (delM ls key)):=by
 have hb1:=za w (.cells #[.slice Ak key.length ck] 22);have K1:=aQ (zgt 295 w.heap.size (fun p=>p.1==key) zp7 A ls c _ (hp.on hb1) hc hm (zam Ak key ck w hk));have HP:=aQ hp;have HB1:=aQ hb1;have HSd:=aQ (zn3 hs key);have hm':=hm;have hsl:=hs.1;have HS:=aQ hs;clear hp hk hs;unfold maxLen at hm;by_cases hf:fnd key ls<ls.length
 ·have h0:idxV (fun p=>p.1==key) ls=(fnd key ls:Nat):=if_pos hf
  have K2:Hid (∀w2,Below w.heap.size w w2->Calls prog 266 #[.slice A ls.length c,.int .i64 (fnd key ls:Nat),.int .i64 ((fnd key ls+1:Nat):Int),.slice none 0 0] w2 (zk8 w2 (delM ls key))):=fun w2 hb=>
   zlv A none ls [] c (fnd key ls) (fnd key ls+1) 0 0 w2 (HP.out.on hb) (Prs.nothing _ _) rfl (by omega) (by omega) hc hm' (by simp;omega) _ (by unfold delM;simp)
  have HCp:Hid (∀A' c' w3,Prs w3 w3.heap.size A' c' (delM ls key)->Calls prog 267 #[.slice A' (delM ls key).length c'] w3 (NewF w3 (delM ls key))):=fun A' c' w3 h=>zfo A' _ c' w3 h HSd.out;rw[h0]at K1;clear h0 hb1
  generalize delM ls key=ds at *
  generalize fnd key ls=q at *
  go_enter func238,ntmps238
  go_wp2_with(first|(go_at_call 270;refine(zf6 _ _ _ _).mono ?_;rintro e w1 ⟨rfl,rfl⟩)|fail)
  (with_reducible refine K1.out.mono ?_)
  rintro e w2⟨rfl,hb2⟩;have HB2:=aQ (HB1.out.trans (hb2.mono HB1.out.size));clear hb2;have K2:=aQ (K2.out _ HB2.out);rw[show(((q+1:Nat):Int))=(q:Int)+1 by omega]at K2
  go_wp2_with fail
  (with_reducible refine K2.out.mono ?_)
  rintro e w3⟨A3,c3,rfl,g1,g2,g3,hb3⟩;have HB3:=aQ (HB2.out.trans (hb3.mono HB2.out.size));have K3:=aQ (HCp.out A3 c3 w3 g3);clear hb3 g1 g2 g3
  go_wp2_with fail
  (with_reducible refine K3.out.mono ?_)
  rintro e w4⟨A4,c4,rfl,g1,g2,g3,g4,hb4⟩;have HB4:Hid (ds.length<=c4/\c4<=maxLen/\PrsD w4 (Fr w.heap.size w4.heap.size) A4 c4 ds/\vW w4 A4/\Below w.heap.size w w4):=⟨g1,g2,g3.lo HB3.out.size,g4,HB3.out.trans (hb4.mono HB3.out.size)⟩;clear hb4 g1 g2 g3 g4;go_wp2;go_ret;exact⟨A4,c4,rfl,HB4.out⟩
 ·have h0:idxV (fun p=>p.1==key) ls=-1:=if_neg hf;have hd:delM ls key=ls:=by
   unfold delM;rw[List.take_of_length_le (by omega),List.drop_eq_nil_of_le (by omega),List.append_nil]
  rw[hd];rw[h0]at K1;have HCp:Hid (∀w3,Below w.heap.size w w3->Calls prog 267 #[.slice A ls.length c] w3 (NewF w3 ls)):=fun w3 h=>zfo A _ c w3 (HP.out.on h) HS.out;clear h0 hb1 hf hd;go_enter func238,ntmps238
  go_wp2_with(first|(go_at_call 270;refine(zf6 _ _ _ _).mono ?_;rintro e w1 ⟨rfl,rfl⟩)|fail)
  (with_reducible refine K1.out.mono ?_)
  rintro e w2⟨rfl,hb2⟩;have HB2:=aQ (HB1.out.trans (hb2.mono HB1.out.size));have K3:=aQ (HCp.out _ HB2.out);clear hb2
  go_wp2_with fail
  (with_reducible refine K3.out.mono ?_)
  rintro e w4⟨A4,c4,rfl,g1,g2,g3,g4,hb4⟩;have HB4:Hid (ls.length<=c4/\c4<=maxLen/\PrsD w4 (Fr w.heap.size w4.heap.size) A4 c4 ls/\vW w4 A4/\Below w.heap.size w w4):=⟨g1,g2,g3.lo HB2.out.size,g4,HB2.out.trans (hb4.mono HB2.out.size)⟩;clear hb4 g1 g2 g3 g4;go_wp2;go_ret;exact⟨A4,c4,rfl,HB4.out⟩
def zqu{ku vu:Value}{k v:List Int}(h1:SB w w.heap.size ku k)(h2:SB w w.heap.size vu v):Prs (w.alloc (.cells #[ku,vu] 119)) (w.alloc (.cells #[ku,vu] 119)).heap.size (some ⟨w.heap.size,0,none⟩) 1 [(k,v)]:=
 ⟨[ku,vu],⟨(fun e=>by cases e),fun j u hu=>⟨_,rfl,by simp,by rw[Addr.add_mid,Nat.zero_add,wy _ _ _ _ _ _ (ye w _)];simpa using hu⟩⟩,.cons (h1.on (za w _)) (h2.on (za w _)) .nil⟩
def putC(A:Option Addr)(ls:List PR)(c:Nat)(Ak:Option Addr)(key:List Int)(ck:Nat)(Av:Option Addr)(val:List Int)(cv:Nat)(w:World)(hp:Prs w w.heap.size A c ls)(hc:ls.length<=c)(hm:c<=maxLen)(hk:SB w w.heap.size (.slice Ak key.length ck) key)(hv:SB w w.heap.size (.slice Av val.length cv) val)(hs:Sml ls)(hl:ls.length<=100000):Calls prog 232 #[.slice A ls.length c,.slice Ak key.length ck,.slice Av val.length cv] w (PutF w (putR ls key val) (putE ls key val)):=by
 have hkl:key.length<=maxLen:=by obtain⟨_,_,e,h1,h2,_⟩:=hk;omega
 have hvl:val.length<=maxLen:=by obtain⟨_,_,e,h1,h2,_⟩:=hv;omega
 have HP:=aQ hp;have HK:=aQ hk;have HV:=aQ hv;have HS:=aQ hs;have hm':=hm;unfold maxLen at hm hkl hvl;by_cases h1:64<key.length
 ·have hE:putE ls key val=1:=if_pos (.inl h1);have hR:putR ls key val=[]:=if_neg (by rw[hE];decide);rw[hE,hR];clear hE hR hp hk hv hs;go_enter func232,ntmps232;go_wp2
  go_ret2
  exact .none _ _ _ (Below.refl _ _)
 ·by_cases h2:256<val.length
  ·have hE:putE ls key val=1:=if_pos (.inr h2);have hR:putR ls key val=[]:=if_neg (by rw[hE];decide);rw[hE,hR];clear hE hR hp hk hv hs;go_enter func232,ntmps232;go_wp2
   go_ret2
   exact .none _ _ _ (Below.refl _ _)
  ·have K1:=aQ (zu3 A ls c Ak key ck w hp hc hm' hk);have hsl:=zs9 key ls
   have K2:Hid (∀w1,Below w.heap.size w w1->Calls prog 266 #[.slice A ls.length c,.int .i64 (spA key ls),.int .i64 (spB key ls),.slice (some ⟨w1.heap.size,0,none⟩) 1 1] (w1.alloc (.cells #[.slice Ak key.length ck,.slice Av val.length cv] 119)) (zk8 (w1.alloc (.cells #[.slice Ak key.length ck,.slice Av val.length cv] 119)) (putM ls key val))):=fun w1 hb=>
    zlv A _ ls [(key,val)] c (spA key ls) (spB key ls) 1 1 _ ((HP.out.on hb).on (za w1 _)) (zqu (HK.out.on hb) (HV.out.on hb)) rfl hsl.1 hsl.2 hc hm' (by simp;omega) _ (zqz ls key val)
   have hSP:=znk hs hl (k:=key) (v:=val) (by omega) (by omega);have HSP:=aQ hSP;have HSz:Hid (∀A' c' w3,Prs w3 w3.heap.size A' c' (putM ls key val)->(putM ls key val).length<=c'->c'<=maxLen->Calls prog 77 #[.slice A' (putM ls key val).length c'] w3 fun e w'=>e=.returned (.int .i64 (szM (putM ls key val)))/\Below w3.heap.size w3 w'):=fun A' c' w3 h g1 g2=>zts A' _ c' w3 h g1 g2 HSP.out.sz;have HCp:Hid (∀A' c' w3,Prs w3 w3.heap.size A' c' (putM ls key val)->Calls prog 267 #[.slice A' (putM ls key val).length c'] w3 (NewF w3 (putM ls key val))):=fun A' c' w3 h=>zfo A' _ c' w3 h HSP.out;have HB2:Hid (∀w1,Below w.heap.size w w1->Below w.heap.size w (w1.alloc (.cells #[.slice Ak key.length ck,.slice Av val.length cv] 119))):=fun w1 hb=>hb.trans ((za w1 _).mono hb.size);have h3:¬(64<key.length\/256<val.length):=by omega
   by_cases hz:2048<szM (putM ls key val)
   ·have hE:putE ls key val=71:=by unfold putE;rw[if_neg h3,if_pos hz]
    have hR:putR ls key val=[]:=if_neg (by rw[hE];decide);rw[hE,hR];have hzz:=HSP.out.sz;clear hE hR hp hk hv hs hSP hsl h3
    generalize putM ls key val=ms at *
    generalize spA key ls=qa at *
    generalize spB key ls=qb at *
    generalize szM ms=z at *
    go_enter func232,ntmps232
    go_wp2_with fail
    (with_reducible refine K1.out.mono ?_)
    rintro e w1⟨rfl,hb1⟩;have HB1:=aQ hb1;have K3:=aQ (K2.out _ hb1);have HB3:=aQ (HB2.out _ hb1);clear hb1
    go_wp2_with fail
    (with_reducible refine K3.out.mono ?_)
    rintro e w3⟨A3,c3,rfl,g1,g2,g3,hb3⟩;have HB4:=aQ (HB3.out.trans (hb3.mono HB3.out.size));have K4:=aQ (HSz.out A3 c3 w3 g3 g1 g2);clear hb3 g1 g2 g3
    go_wp2_with fail
    (with_reducible refine K4.out.mono ?_)
    rintro e w4⟨rfl,hb4⟩;have HB5:=aQ (HB4.out.trans (hb4.mono HB4.out.size));clear hb4;go_wp2
    go_ret2
    exact .none _ _ _ HB5.out
   ·have hE:putE ls key val=0:=by unfold putE;rw[if_neg h3,if_neg hz]
    have hR:putR ls key val=putM ls key val:=if_pos hE;rw[hE,hR];clear hE hR hp hk hv hs hSP hsl h3
    generalize putM ls key val=ms at *
    generalize spA key ls=qa at *
    generalize spB key ls=qb at *
    generalize szM ms=z at *
    go_enter func232,ntmps232
    go_wp2_with fail
    (with_reducible refine K1.out.mono ?_)
    rintro e w1⟨rfl,hb1⟩;have HB1:=aQ hb1;have K3:=aQ (K2.out _ hb1);have HB3:=aQ (HB2.out _ hb1);clear hb1
    go_wp2_with fail
    (with_reducible refine K3.out.mono ?_)
    rintro e w3⟨A3,c3,rfl,g1,g2,g3,hb3⟩;have HB4:=aQ (HB3.out.trans (hb3.mono HB3.out.size));have HG:=aQ g3;have K4:=aQ (HSz.out A3 c3 w3 g3 g1 g2);clear hb3 g1 g2 g3
    go_wp2_with fail
    (with_reducible refine K4.out.mono ?_)
    rintro e w4⟨rfl,hb4⟩;have HB5:=aQ (HB4.out.trans (hb4.mono HB4.out.size));have K5:=aQ (HCp.out A3 c3 w4 (HG.out.on hb4));clear hb4
    go_wp2_with fail
    (with_reducible refine K5.out.mono ?_)
    rintro e w5⟨A5,c5,rfl,g1,g2,g3,g4,hb5⟩;have HB6:Hid (ms.length<=c5/\c5<=maxLen/\PrsD w5 (Fr w.heap.size w5.heap.size) A5 c5 ms/\vW w5 A5/\Below w.heap.size w w5):=⟨g1,g2,g3.lo HB5.out.size,g4,HB5.out.trans (hb5.mono HB5.out.size)⟩;clear hb5 g1 g2 g3 g4;go_wp2
    go_ret2
    exact⟨A5,c5,rfl,HB6.out⟩
def jo{l:List PR}(h:qJ l):Sml l/\l.length<=256:=by
 have h1:=zmc l;have h2:=h.2.2;refine⟨⟨by omega,fun p hp=>?_⟩,by omega⟩;have:=h.1 p hp;omega
end
end
end Go.Proofs.YtcilgkdnjgmogaaGreatDoor
