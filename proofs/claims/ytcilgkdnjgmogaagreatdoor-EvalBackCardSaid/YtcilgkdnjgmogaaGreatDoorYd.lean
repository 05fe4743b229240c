/- A part of the proof. -/
import Derived.Test.YtcilgkdnjgmogaaGreatDoorYc
namespace Go.Proofs.YtcilgkdnjgmogaaGreatDoor
open Go.Proofs.Tryz
set_option maxRecDepth 100000
set_option maxHeartbeats 12800000
set_option linter.all false
variable {D D':Nat->Prop} {g k n n0 p z:Nat} {s:List Nat} {w:World}
section
section
open Go.RowKit
mutual
def toXe:Ex->Xe
 | .mk op num aZ aX aW=>.mk op num aZ (yD aX) aW
def yD:List Ex->List Xe
 | []=>[]
 | e::l=>toXe e::yD l
end
mutual
def toXs:St->Xs
 | .mk op aZ aY body els aW=>.mk op aZ (yD aY) (vT body) (vT els) aW
def vT:List St->List Xs
 | []=>[]
 | s::l=>toXs s::vT l
end
def toXf(f:Fu):Xf:=⟨f.name,f.params.map fun p=>(p.1,(p.2:Int)),f.result,vT f.body,f.aW⟩
def vN:∀l,yD l=l.map toXe
 | []=>by simp[yD]
 | e::l=>by simp[yD,vN l]
def vA:∀l,vT l=l.map toXs
 | []=>by simp[vT]
 | e::l=>by simp[vT,vA l]
def bynB(s:List Nat):Bool:=s.all fun b=>decide (b<256)
def yQ:bynB s=true ↔ Byn s:=by simp[bynB,Byn]
mutual
def okE:Ex->Bool
 | .mk _ _ aZ aX _=>bynB aZ&&okEs aX
def okEs:List Ex->Bool
 | []=>true
 | e::l=>okE e&&okEs l
end
mutual
def okS:St->Bool
 | .mk _ aZ aY body els _=>bynB aZ&&okEs aY&&okSs body&&okSs els
def okSs:List St->Bool
 | []=>true
 | e::l=>okS e&&okSs l
end
def okF(f:Fu):Bool:=bynB f.name&&f.params.all (fun p=>bynB p.1)&&okSs f.body
def zc5:∀ {l:List Ex},okEs l=true->∀e∈l,okE e=true
 | [],_,e,h=>by simp at h
 | x::r,hl,e,h=>by
  simp[okEs]at hl;rcases aC.1 h with rfl|h
  ·exact hl.1
  ·exact zc5 hl.2 e h
def zce:∀ {l:List St},okSs l=true->∀e∈l,okS e=true
 | [],_,e,h=>by simp at h
 | x::r,hl,e,h=>by
  simp[okSs]at hl;rcases aC.1 h with rfl|h
  ·exact hl.1
  ·exact zce hl.2 e h
def zho:∀(l:List Ex) (ks:List Value),xesC (yD l) ks=exsC l ks
 | [],_=>by simp[xesC,exsC,yD]
 | _::_,[]=>by simp[xesC,exsC,yD]
 | .mk op num aZ aX aW::l,k::ks=>by
  have:=zho l ks
  unfold xesC exsC at *
  simp only[yD,List.zipWith_cons_cons,List.flatten_cons,this];simp[xeC,exC,toXe,Xe.op,Xe.num,Xe.aZ,Xe.aW,Ex.op,Ex.num,Ex.aZ,Ex.aW]
def ze0(l:List Ex):(yD l).length=l.length:=by rw[vN];simp
def zep(l:List St):(vT l).length=l.length:=by rw[vA];simp
def ExsC.toX{l:List Ex}{V:Value}(h:ExsC w D l V):okEs l=true->XesC w D (yD l) V:=by
 induction h with
 | mk l ks V hk h1 _ ih=>
  intro ho;refine .mk _ ks V (by rw[ze0];exact hk) (by rw[ze0,zho];exact h1) ?_ ?_
  ·intro e he;rw[vN]at he;obtain⟨x,hx,rfl⟩:=List.mem_map.1 he;have:=zc5 ho x hx;obtain⟨op,num,aZ,aX,aW⟩:=x;simp[okE]at this;exact yQ.1 this.1
  ·intro i e k he hk';rw[vN,List.getElem?_map]at he;cases hx:l[i]? with
   | none=>rw[hx]at he;cases he
   | some x=>
    rw[hx]at he;injection he with he
    subst he;have h3:=ih i x k hx hk';have:=zc5 ho x (wM hx);obtain⟨op,num,aZ,aX,aW⟩:=x;simp[okE]at this;exact h3 this.2
def zhc:∀(l:List St) (ks:List qM),xssC (vT l) ks=stsC l ks
 | [],_=>by simp[xssC,stsC,vT]
 | _::_,[]=>by simp[xssC,stsC,vT]
 | .mk op aZ aY body els aW::l,k::ks=>by
  have:=zhc l ks
  unfold xssC stsC at *
  simp only[vT,List.zipWith_cons_cons,List.flatten_cons,this];simp[xsC,stC,toXs,Xs.op,Xs.aZ,Xs.aW,St.op,St.aZ,St.aW]
def StsC.toX{l:List St}{V:Value}(h:StsC w D l V):okSs l=true->XssC w D (vT l) V:=by
 induction h with
 | mk l ks V hk h1 he _ _ ib iF=>
  intro ho;refine .mk _ ks V (by rw[zep];exact hk) (by rw[zep,zhc];exact h1) ?_ ?_ ?_ ?_
  ·intro e he;rw[vA]at he;obtain⟨x,hx,rfl⟩:=List.mem_map.1 he;have:=zce ho x hx;obtain⟨op,aZ,aY,body,els,aW⟩:=x;simp[okS]at this;exact yQ.1 this.1.1.1
  all_goals
   intro i e k hq hk';rw[vA,List.getElem?_map]at hq;cases hx:l[i]? with
   | none=>rw[hx]at hq;cases hq
   | some x=>
    rw[hx]at hq;injection hq with hq
    subst hq;have h3:=ib i x k hx hk';have h4:=iF i x k hx hk';have h5:=he i x k hx hk';have:=zce ho x (wM hx);obtain⟨op,aZ,aY,body,els,aW⟩:=x;simp[okS]at this
    first|exact ExsC.toX h5 this.1.1.2|exact h3 this.1.2|exact h4 this.2
def znb(l:List (List Nat×Nat)):xpsC (l.map fun p=>(p.1,(p.2:Int)))=pasC l:=by
 simp[xpsC,pasC,List.flatMap_map,xpC];rfl
def zgj:∀(l:List Fu) (ks:List Two),xfsC (l.map toXf) ks=fusC l ks
 | [],_=>by simp[xfsC,fusC]
 | _::_,[]=>by simp[xfsC,fusC]
 | f::l,k::ks=>by
  have:=zgj l ks
  unfold xfsC fusC at *
  simp only[List.map_cons,List.zipWith_cons_cons,List.flatten_cons,this];simp[xfC,fuC,toXf]
def FusC.toX{l:List Fu}{V:Value}(h:FusC w D l V)(ho:∀f∈l,okF f=true):∃ks,XfsC w D (l.map toXf) ks V:=by
 obtain⟨ks,h1,h2,h3⟩:=h;refine⟨ks,by simpa using h1,by rw[zgj];simpa using h2,fun i f k hf hk=>?_⟩;rw[List.getElem?_map]at hf;cases hx:l[i]? with
 | none=>rw[hx]at hf;cases hf
 | some x=>
  rw[hx]at hf;injection hf with hf
  subst hf;obtain⟨g1,g2⟩:=h3 i x k hx hk;have:=ho x (wM hx);simp only[okF,aM]at this;refine⟨yQ.1 this.1.1,?_,?_,g2.toX this.2⟩
  ·show RowF w D (x.params.map _).length (xpsC (x.params.map _)) k.p;rw[znb];simpa using g1
  ·intro p hp;simp only[toXf]at hp;obtain⟨q,hq,rfl⟩:=List.mem_map.1 hp;exact yQ.1 (by have h9:=List.all_eq_true.1 this.1.2 q hq;exact h9)
def XfsC.more{l:List Xf}{ks:List Two}{V:Value}(h:XfsC w D l ks V)(g1:∀k,D k->D' k):XfsC w D' l ks V:=by
 have hX:∀ {l:List Xe} {V:Value},XesC w D l V->XesC w D' l V:=by
  intro l V h
  induction h with
  | mk l ks V hk h1 ht _ ih=>exact .mk l ks V hk (h1.more g1) ht ih
 have hS:∀ {l:List Xs} {V:Value},XssC w D l V->XssC w D' l V:=by
  intro l V h
  induction h with
  | mk l ks V hk h1 ht he _ _ ib iF=>exact .mk l ks V hk (h1.more g1) ht (fun i s k a b=>hX (he i s k a b)) ib iF
 exact⟨h.1,h.2.1.more g1,fun i f k a b=>⟨(h.2.2 i f k a b).name,(h.2.2 i f k a b).params.more g1,(h.2.2 i f k a b).names,hS (h.2.2 i f k a b).body⟩⟩
structure zo1 where
 funcs:List Fu
 err:Int
 aW:Int
def yB(err:Nat)(fs:List Fu)(aW:Nat):zo1:=
 if err=0 then(if(je (fs.map toXf)).1=0 then⟨fs,0,0⟩else⟨[],(je (fs.map toXf)).1,(je (fs.map toXf)).2⟩)else⟨[],err,aW⟩
def zr7(w:World)(r:zo1)(e:Ending)(w':World):Prop:=∃V,e=.returned (.tuple #[.agg #[V],.int .i64 r.err,.int .i64 r.aW])/\FusC w' (Rng w.heap.size w'.heap.size) r.funcs V/\Below w.heap.size w w'
def vR{fn:Func}{s T u v:Nat}{d:TypeDesc}{cs:List Value}(h:fn.results=#[.cell s T,.tmp u,.tmp v])(hu:prog.underlying T=some d)(hd:d.isRow=true)(hi:(prog.info? T).map (·.size)=some cs.length)(tmps:Array Value)(w:World)(g:Nat)(hp:tmps.getD s undef=.pointer (some ⟨g,0,none⟩))(hr:w.rangeAt g 0 cs):(results fn tmps).run prog w=.ok (.tuple #[.agg cs.toArray,tmps.getD u undef,tmps.getD v undef]) w:=by
 have hp':tmps[s]?.getD undef=.pointer (some ⟨g,0,none⟩):=by simpa using hp
 have h1:=run_loadVar_mid (P:=prog) w g 0 T cs _ hr hu hd hi;simp[results,h,hp',asAddr,h1]
def yk:(prog.info? 26).map (·.size)=some 1:=by kernel_rfl
def zal{l:List Fu}{V:Value}(h:FusC w D l V):∃A c,V=.slice A l.length c:=by
 obtain⟨ks,_,h2,_⟩:=h;exact h2.slice5
def zr5(A:Option Addr)(l:List Nat)(n c:Nat)(w:World)(hn:l.length=n)(hc:n<=c)(hcm:c<=maxLen)(hl:Lies w w.heap.size A c (bts l))(hy:Byn l)(ht:Tab w)(err aW:Nat)(fs:List Fu)(hp:jS l=⟨err,fs,aW⟩)(hok:∀f∈fs,okF f=true):Calls prog 25 #[.slice A n c] w (zr7 w (yB err fs aW)):=by
 have BA:=za w (.cells #[.slice none 0 0] 26);have HB0:=aQ BA;have K:=aQ (zrx A l n c (w.alloc (.cells #[.slice none 0 0] 26)) hn hc hcm ((hl.below BA).more (by simp)) hy (ht.below BA ht.1) err aW fs hp err aW rfl rfl);have HT2:Hid ((w.alloc (.cells #[.slice none 0 0] 26)).there w.heap.size 0 1):=zD (cs:=[_]) (ye w _) rfl;have HL0:Hid (w.heap.size+1<=(w.alloc (.cells #[.slice none 0 0] 26)).heap.size):=by show _<=_;simp
 have HOk:=aQ hok;clear hl hy ht hp BA hok;go_enter func25,ntmps25
 go_wp2_with fail
 generalize w.alloc (.cells #[.slice none 0 0] 26)=w0 at *
 with_reducible refine K.out.mono ?_
 rintro e w1⟨V,rfl,hF,b1⟩;obtain⟨AV,cV,rfl⟩:=zal hF;have T1:=aQ (zw HT2.out b1 (by have:=HL0.out;omega));have HB1:=aQ (zd HB0.out b1 HB0.out.size);have HF:=aQ hF;have HL1:Hid (w.heap.size+1<=w1.heap.size):=aT HL0.out b1.size;clear hF b1 K HT2;by_cases he:err=0
 ·have q:((err:Int)==0)=true:=by rw[he];rfl
  have q2:((err:Int)=0):=by omega
  have b2:=za w1 (.cells #[.slice AV fs.length cV] 26);obtain⟨ks,hX⟩:=FusC.toX HF.out HOk.out;have hX1:XfsC w1 (Lo w1.heap.size) (fs.map toXf) ks (.slice AV fs.length cV):=hX.more fun k hk=>hk.2;have KC:=zpj (fs.map toXf) ks AV cV _ w1.heap.size b2.size (by rw[aD];exact hX1.same (zk b2 (aR _)));rw[aD]at KC;have HKC:=aQ KC;have T2:=aQ (zw T1.out b2 (by have:=HL1.out;omega));have HB2:=aQ (zd HB1.out b2 HB1.out.size);have HF2:Hid (FusC (w1.alloc (.cells #[.slice AV fs.length cV] 26)) (Rng w0.heap.size w1.heap.size) fs (.slice AV fs.length cV)):=HF.out.same fun k hk=>b2.block k hk.2;have x0:(w1.alloc (.cells #[.slice AV fs.length cV] 26)).cell? ⟨w1.heap.size,0,none⟩=some (.slice AV fs.length cV):=by rw[wy _ _ _ _ _ _ (ye w1 _)];rfl
  have HS1:Hid (w1.heap.size<(w1.alloc (.cells #[.slice AV fs.length cV] 26)).heap.size):=by show _<_;simp
  have HR:Hid (yB err fs aW=if(je (fs.map toXf)).1=0 then⟨fs,0,0⟩else⟨[],(je (fs.map toXf)).1,(je (fs.map toXf)).2⟩):=by show _=_;unfold yB;rw[if_pos he]
  clear hX hX1 KC b2 T1 HB1 he q2;go_upto_region 2 with fail
  generalize w1.alloc (.cells #[.slice AV fs.length cV] 26)=w2 at *
  generalize je (fs.map toXf)=cm at *
  go_wp2_with fail
  with_reducible refine HKC.out.mono ?_
  rintro e w3⟨rfl,b3⟩;have T3:=aQ (zw T2.out b3 (by have:=HL1.out;have:=HS1.out;omega));have y0:=zb x0 b3;have HB3:=aQ (zd HB2.out b3 HB2.out.size);have HF3:Hid (FusC w3 (Rng w0.heap.size w1.heap.size) fs (.slice AV fs.length cV)):=HF2.out.same fun k hk=>b3.block k (by have:=hk.2;have:=HS1.out;omega);have HS3:Hid (w1.heap.size<w3.heap.size):=aS HS1.out b3.size;clear x0 b3 HKC T2 HB2 HF2;obtain⟨c1,c2⟩:=cm
  simp only at *
  by_cases h1:c1=0
  ·have q3:(c1 != 0)=false:=by rw[h1];rfl
   have HR2:Hid (yB err fs aW=⟨fs,0,0⟩):=HR.out.trans (if_pos h1);clear h1
   go_wp2_with(refine zc yk rfl (.tmp 2) (.tmp 26) rfl rfl w.heap.size rfl [_] rfl rfl T3.out (by simp[Value.oneCell']) ?_;intro w4 g1 g2 g3 g4 g5)
   refine vS (vR (cs:=[_]) results25 underlying26 rfl yk _ _ w.heap.size rfl g1) rfl ?_;refine⟨.slice AV fs.length cV,by rw[HR2.out];rfl,?_,HB3.out.trans g3⟩;rw[HR2.out];exact(HF3.out.same fun k hk=>g4 k (by have:=hk.1;have:=HL0.out;omega)).more fun k hk=>⟨by have:=hk.1;have:=HL0.out;omega,by rw[g5];have:=hk.2;have:=HS3.out;omega⟩
  ·have q3:(c1 != 0)=true:=by rw[bne_iff_ne];exact h1
   have HR2:Hid (yB err fs aW=⟨[],c1,c2⟩):=HR.out.trans (if_neg h1);clear h1
   go_wp2_with(refine zc yk rfl (.tmp 2) (.tmp 23) rfl rfl w.heap.size rfl [_] rfl rfl T3.out (by simp[Value.oneCell']) ?_;intro w4 g1 g2 g3 g4 g5)
   refine vS (vR (cs:=[_]) results25 underlying26 rfl yk _ _ w.heap.size rfl g1) rfl ?_;refine⟨.slice none 0 0,by rw[HR2.out];rfl,?_,HB3.out.trans g3⟩;rw[HR2.out];exact FusC.nothing _ _
 ·have q:((err:Int)==0)=false:=by rw[yI];omega
  have q3:((err:Int)!=0)=true:=by rw[bne_iff_ne];omega
  have HR2:Hid (yB err fs aW=⟨[],err,aW⟩):=by show _=_;unfold yB;rw[if_neg he]
  have b2:=za w1 (.cells #[.slice AV fs.length cV] 26);have T2:=aQ (zw T1.out b2 (by have:=HL1.out;omega));have HB2:=aQ (zd HB1.out b2 HB1.out.size);clear b2 T1 HB1 he;go_upto_region 2 with fail
  generalize w1.alloc (.cells #[.slice AV fs.length cV] 26)=w2 at *
  go_wp2_with(refine zc yk rfl (.tmp 2) (.tmp 23) rfl rfl w.heap.size rfl [_] rfl rfl T2.out (by simp[Value.oneCell']) ?_;intro w4 g1 g2 g3 g4 g5)
  refine vS (vR (cs:=[_]) results25 underlying26 rfl yk _ _ w.heap.size rfl g1) rfl ?_;refine⟨.slice none 0 0,by rw[HR2.out];rfl,?_,HB2.out.trans g3⟩;rw[HR2.out];exact FusC.nothing _ _
end
end
section
section
def zFp(s:List Nat):Prop:=(∀b∈s,kE b=true)/\s.length<=16/\yz s=false/\∃b r,s=b::r/\xO b=true
def zB0(s:List Nat):Prop:=(∀b∈s,xZ b=true)/\s.length<=64
def zAc(t:Tok):Prop:=(t.kind=1->zFp t.aZ)/\(t.kind=2->t.num<=9223372036854775807)/\(t.kind=3->zB0 t.aZ)
def zBh:∀(ds:List Nat) (n v:Nat),(∀d∈ds,d<=57)->n<=9223372036854775807->kG ds n=some v->v<=9223372036854775807
 | [],n,v,_,hn,h=>by simp[kG]at h;omega
 | d::r,n,v,hd,hn,h=>by
  have h1:=hd d (by simp);unfold kG at h
  split at h
  ·cases h
  ·exact zBh r _ v (fun x hx=>hd x (by simp[hx])) (by omega) h
def zBw{r:List Nat}(h:(qC r).err=0)(p:Nat):zAc ⟨(qC r).kind,(qC r).aZ,(qC r).num,p⟩:=by
 cases r with
 | nil=>simp[qC,bad]at h
 | cons b r=>
  rw[vV]at h⊢;by_cases h1:xO b=true
  ·simp only[h1,if_true]at h⊢;unfold zer at h⊢
   split at h
   ·simp[bad]at h
   ·rename_i hn
    rw[if_neg hn];have hr:run kE (b::r)=run kE r+1:=by simp[run,kE,h1]
    refine⟨fun hk=>?_,fun hk=>?_,fun hk=>?_⟩
    ·dsimp only at hk⊢;cases hw:yz ((b::r).take (run kE (b::r)))with
     | true=>rw[hw]at hk;simp at hk
     | false=>
      refine⟨zln kE _,?_,hw,b,r.take (run kE r),?_,h1⟩
      ·have:=List.length_take_le (run kE (b::r)) (b::r);omega
      ·rw[hr,List.take_succ_cons]
    ·dsimp only at hk;cases hw:yz ((b::r).take (run kE (b::r)))<;>rw[hw]at hk<;>simp at hk
    ·dsimp only at hk;cases hw:yz ((b::r).take (run kE (b::r)))<;>rw[hw]at hk<;>simp at hk
  ·rw[if_neg h1]at h⊢;by_cases h2:qu b=true
   ·simp only[h2,if_true]at h⊢;unfold numT at h⊢;cases hv:kG ((b::r).take (run qu (b::r))) 0 with
    | none=>rw[hv]at h;simp[bad]at h
    | some v=>
     refine⟨fun hk=>by simp at hk,fun hk=>?_,fun hk=>by simp at hk⟩;exact zBh _ 0 v (fun d hd=>by have:=zln qu _ d hd;simp[qu]at this;omega) (by omega) hv
   ·rw[if_neg h2]at h⊢;by_cases h3:b=34
    ·simp only[h3,if_true]at h⊢;unfold jN at h⊢
     split at h
     ·rename_i hq
      rw[if_pos hq]
      split at h
      ·simp[bad]at h
      ·rename_i hn
       rw[if_neg hn];refine⟨fun hk=>by simp at hk,fun hk=>by simp at hk,fun hk=>⟨zln xZ _,?_⟩⟩;have:=List.length_take_le (run xZ (List.drop 1 (34::r))) (List.drop 1 (34::r));dsimp only;omega
     ·simp[bad]at h
    ·rw[if_neg h3]at h⊢;unfold yu at h⊢
     split at h
     ·simp[bad]at h
     ·rename_i hn
      rw[if_neg hn];exact⟨fun hk=>by simp at hk,fun hk=>by simp at hk,fun hk=>by simp at hk⟩
def zBm(l:List Nat):∀t∈(xx l).toks,zAc t:=zkf fun p hp he=>zBw he p
def binS:List (List Nat):=sOr++sAnd++sCmp++sSum++zkq
inductive WE:Ex->Prop
 | num (n p:Nat) (h:n<=9223372036854775807):WE (.mk 1 n [] [] p)
 | bool (n p:Nat) (h:n=0\/n=1):WE (.mk 2 n [] [] p)
 | aZ (s:List Nat) (p:Nat) (h:zB0 s):WE (.mk 3 0 s [] p)
 | name (s:List Nat) (p:Nat) (h:zFp s):WE (.mk 4 0 s [] p)
 | call (s:List Nat) (l:List Ex) (p:Nat) (h:zFp s) (hl:∀x∈l,WE x):WE (.mk 5 0 s l p)
 | two (s:List Nat) (x y:Ex) (p:Nat) (h:s∈binS) (hx:WE x) (hy:WE y):WE (.mk 6 0 s [x,y] p)
 | one (s:List Nat) (x:Ex) (p:Nat) (h:s∈sOne) (hx:WE x):WE (.mk 7 0 s [x] p)
 | word (k:Nat) (x:Ex) (p:Nat) (h:k=8\/k=9\/k=10) (hx:WE x):WE (.mk k 0 [] [x] p)
inductive WS:St->Prop
 | bind (s:List Nat) (x:Ex) (p:Nat) (h:zFp s) (hx:WE x):WS (.mk 1 s [x] [] [] p)
 | set (s:List Nat) (x:Ex) (p:Nat) (h:zFp s) (hx:WE x):WS (.mk 2 s [x] [] [] p)
 | choice (x:Ex) (l m:List St) (p:Nat) (hx:WE x) (hl:∀y∈l,WS y) (hm:∀y∈m,WS y):WS (.mk 3 [] [x] l m p)
 | loop (s:List Nat) (x y:Ex) (l:List St) (p:Nat) (h:zFp s) (hx:WE x) (hy:WE y) (hl:∀y∈l,WS y):WS (.mk 4 s [x,y] l [] p)
 | ret0 (p:Nat):WS (.mk 5 [] [] [] [] p)
 | ret (x:Ex) (p:Nat) (hx:WE x):WS (.mk 5 [] [x] [] [] p)
 | put (x y:Ex) (p:Nat) (hx:WE x) (hy:WE y):WS (.mk 6 [] [x,y] [] [] p)
 | del (x:Ex) (p:Nat) (hx:WE x):WS (.mk 7 [] [x] [] [] p)
 | expr (x:Ex) (p:Nat) (hx:WE x):WS (.mk 8 [] [x] [] [] p)
def WF(f:Fu):Prop:=zFp f.name/\(∀p∈f.params,zFp p.1/\1<=p.2/\p.2<=3)/\f.result<=3/\∀s∈f.body,WS s
def Yd{α:Type}(Q:α->Prop)(p:Par α):Prop:=∀ts v r,(∀t∈ts,zAc t)->p ts=.ok v r->Q v/\∀t∈r,zAc t
def zy6{ts:List Tok}(h:∀t∈ts,zAc t):∀t∈ts.tail,zAc t:=fun t ht=>h t (List.mem_of_mem_tail ht)
def zAs{ts:List Tok}(h:∀t∈ts,zAc t):zAc (qE z ts):=by
 cases ts with
 | nil=>exact⟨fun h=>by simp[qE,zov]at h,fun h=>by simp[qE,zov]at h,fun h=>by simp[qE,zov]at h⟩
 | cons t r=>exact h t (by simp)
def zAk{ss:List (List Nat)}{ts:List Tok}(h:zC z ss ts=true):(qE z ts).aZ∈ss:=by
 unfold zC zcf at h;simp at h;exact h.2
section
variable {α β:Type} {Q:α->Prop} {R:β->Prop}
def Yd.pure{v:α}(h:Q v):Yd Q (fun ts=>.ok v ts):=fun ts v r hg hr=>by
 injection hr with h1 h2
 subst h1 h2;exact⟨h,hg⟩
def Yd.bind{p:Par α}{f:α->Par β}(hp:Yd Q p)(hf:∀v,Q v->Yd R (f v)):Yd R (fun ts=>(p ts).bind f):=fun ts v r hg hr=>by
 obtain⟨a,s,h1,h2⟩:=zn hr;obtain⟨q,hg2⟩:=hp ts a s hg h1;exact hf a q s v r hg2 h2
def Yd.look{ss:List (List Nat)}{p q:Par α}(hp:Yd Q p)(hq:Yd Q q):Yd Q (fun ts=>if zC z ss ts then p ts.tail else q ts):=fun ts v r hg hr=>by
 dsimp only at hr
 split at hr
 ·exact hp _ v r (zy6 hg) hr
 ·exact hq ts v r hg hr
def Yd.weak{p:Par α}{Q':α->Prop}(h:Yd Q p)(hw:∀v,Q v->Q' v):Yd Q' p:=fun ts v r hg hr=>⟨hw v (h ts v r hg hr).1,(h ts v r hg hr).2⟩
end
def zy5(z:Nat)(s:List Nat):Yd (fun _=>True) (qt z s):=fun ts v r hg hr=>by
 unfold qt at hr
 split at hr
 ·injection hr with _ h2
  subst h2;exact⟨trivial,zy6 hg⟩
 ·cases hr
def zA8(z k:Nat):Yd (fun t=>t.kind=k/\zAc t) (ju z k):=fun ts v r hg hr=>by
 unfold ju at hr
 split at hr
 ·rename_i hk
  injection hr with h1 h2
  subst h1 h2;exact⟨⟨hk,zAs hg⟩,zy6 hg⟩
 ·cases hr
def zA6(z:Nat):Yd zFp (yE z):=Yd.bind (zA8 z 1) fun t ht=>Yd.pure (ht.2.1 ht.1)
def zBe(z:Nat)(ss:List (List Nat))(hs:∀s∈ss,s∈binS)(p:Par Ex)(hp:Yd WE p):∀f x,WE x->Yd WE (ym z ss p f x)
 | 0,x,hx=>Yd.pure hx
 | f+1,x,hx=>fun ts v r hg hr=>by
  unfold ym at hr
  split at hr
  ·rename_i hse
   obtain⟨y,s,h1,h2⟩:=zn hr;obtain⟨hy,hg2⟩:=hp _ _ _ (zy6 hg) h1;exact zBe z ss hs p hp f _ (.two _ x y _ (hs _ (zAk hse)) hx hy) s v r hg2 h2
  ·exact Yd.pure hx ts v r hg hr
def zFt(z:Nat)(ss:List (List Nat))(hs:∀s∈ss,s∈binS)(p:Par Ex)(hp:Yd WE p):Yd WE (xb z ss p):=fun ts v r hg hr=>by
 unfold xb at hr;obtain⟨x,s,h1,h2⟩:=zn hr;obtain⟨hx,hg2⟩:=hp _ _ _ hg h1;exact zBe z ss hs p hp _ x hx s v r hg2 h2
def inOr:∀s∈sOr,s∈binS:=by intro s h;simp[binS,h]
def zEj:∀s∈sAnd,s∈binS:=by intro s h;simp[binS,h]
def zEk:∀s∈sCmp,s∈binS:=by intro s h;simp[binS,h]
def zEi:∀s∈sSum,s∈binS:=by intro s h;simp[binS,h]
def zEc:∀s∈zkq,s∈binS:=by intro s h;simp[binS,h]
def zDf(z:Nat)(one:Par Ex)(h:Yd WE one):Yd WE (sumP z one):=zFt z _ zEi _ (zFt z _ zEc _ h)
def zBs(z:Nat)(one:Par Ex)(h:Yd WE one):Yd WE (kz z one):=fun ts v r hg hr=>by
 unfold kz at hr;obtain⟨x,s,h1,h2⟩:=zn hr;obtain⟨hx,hg2⟩:=zDf z one h _ _ _ hg h1
 split at h2
 ·rename_i hse
  unfold xN at h2;obtain⟨t,s2,h3,h4⟩:=zn h2;obtain⟨y,s3,h5,h6⟩:=zn h4;obtain⟨_,hg3⟩:=zA8 z 4 _ _ _ hg2 h3;obtain⟨hy,hg4⟩:=zDf z one h _ _ _ hg3 h5;have ht:t=qE z s:=by
   unfold ju at h3
   split at h3
   ·injection h3 with h3;exact h3.symm
   ·cases h3
  injection h6 with h6 h7
  subst h6 h7;exact⟨.two _ x y _ (zEk _ (by rw[ht];exact zAk hse)) hx hy,hg4⟩
 ·injection h2 with h6 h7
  subst h6 h7;exact⟨hx,hg2⟩
def zB2(z:Nat)(one:Par Ex)(h:Yd WE one):Yd WE (wT z one):=zFt z _ inOr _ (zFt z _ zEj _ (zBs z one h))
def All{α:Type}(Q:α->Prop)(l:List α):Prop:=∀x∈l,Q x
def All.snoc{α:Type}{Q:α->Prop}{l:List α}{x:α}(h:All Q l)(hx:Q x):All Q (l++[x]):=fun y hy=>by
 rcases List.mem_append.1 hy with h1|h1
 ·exact h y h1
 ·rw[List.mem_singleton.1 h1];exact hx
def zBj{α:Type}{Q:α->Prop}(z:Nat)(p:Par α)(hp:Yd Q p):∀f l,All Q l->Yd (All Q) (vH z p f l)
 | 0,l,hl=>Yd.bind (zy5 z _) fun _ _=>Yd.pure hl
 | f+1,l,hl=>fun ts v r hg hr=>by
  unfold vH at hr
  split at hr
  ·obtain⟨y,s,h1,h2⟩:=zn hr;obtain⟨hy,hg2⟩:=hp _ _ _ (zy6 hg) h1;exact zBj z p hp f _ (hl.snoc hy) s v r hg2 h2
  ·exact Yd.bind (R:=All Q) (zy5 z _) (fun _ _=>Yd.pure hl) ts v r hg hr
def zBy{α:Type}{Q:α->Prop}(z:Nat)(p:Par α)(hp:Yd Q p):Yd (All Q) (wq z p):=by
 refine Yd.bind (zy5 z [40]) fun _ _=>?_;refine Yd.look (Yd.pure (fun x hx=>by cases hx)) fun ts v r hg hr=>?_;obtain⟨x,s,h1,h2⟩:=zn hr;obtain⟨hx,hg2⟩:=hp _ _ _ hg h1;exact zBj z p hp _ [x] (fun y hy=>by rw[List.mem_singleton.1 hy];exact hx) s v r hg2 h2
def zFz(z:Nat)(e:Par Ex)(he:Yd WE e):Yd (fun l=>∃x,l=[x]/\WE x) (qc z e):=
 Yd.bind (zy5 z _) fun _ _=>Yd.bind he fun x hx=>Yd.bind (zy5 z _) fun _ _=>Yd.pure ⟨x,rfl,hx⟩
def zDu(z:Nat)(e:Par Ex)(he:Yd WE e):Yd (fun l=>∃x y,l=[x,y]/\WE x/\WE y) (ze6 z e):=
 Yd.bind (zy5 z _) fun _ _=>Yd.bind he fun x hx=>Yd.bind (zy5 z _) fun _ _=>Yd.bind he fun y hy=>Yd.bind (zy5 z _) fun _ _=>Yd.pure ⟨x,y,rfl,hx,hy⟩
def zCt(z:Nat)(e:Par Ex)(he:Yd WE e):Yd WE (zai z e):=by
 refine Yd.bind (zA8 z 1) fun t ht=>fun ts v r hg hr=>?_
 split at hr
 ·exact Yd.bind (R:=WE) (zBy z e he) (fun l hl=>Yd.pure (.call t.aZ l t.aW (ht.2.1 ht.1) hl)) ts v r hg hr
 ·exact Yd.pure (.name t.aZ t.aW (ht.2.1 ht.1)) ts v r hg hr
def WE.at'{e:Ex}(h:WE e)(q:Nat):WE (e.at q):=by
 cases h with
 | num n p h=>exact .num n q h
 | bool n p h=>exact .bool n q h
 | aZ s p h=>exact .aZ s q h
 | name s p h=>exact .name s q h
 | call s l p h hl=>exact .call s l q h hl
 | two s x y p h hx hy=>exact .two s x y q h hx hy
 | one s x p h hx=>exact .one s x q h hx
 | word k x p h hx=>exact .word k x q h hx
def zCf(z:Nat)(e:Par Ex)(he:Yd WE e):Yd WE (jy z e):=by
 have hE:∀k,(k=8\/k=9\/k=10)->Yd WE (fun ts=>(qc z e ts).bind fun l r=>.ok (.mk k 0 [] l 0) r):=fun k hk=>Yd.bind (zFz z e he) fun l hl=>by
  obtain⟨x,rfl,hx⟩:=hl;exact Yd.pure (.word k x 0 hk hx)
 exact Yd.look (Yd.pure (.bool 1 0 (.inr rfl))) (Yd.look (Yd.pure (.bool 0 0 (.inl rfl))) (Yd.look (hE 8 (.inl rfl)) (Yd.look (hE 9 (.inr (.inl rfl))) (Yd.bind (zy5 z _) fun _ _=>hE 10 (.inr (.inr rfl))))))
def zBn(z:Nat)(e:Par Ex)(he:Yd WE e):Yd WE (kv z e):=fun ts v r hg hr=>by
 have hp:=zAs (z:=z) hg;unfold kv at hr
 split at hr
 ·rename_i hk
  injection hr with h1 h2
  subst h1 h2;exact⟨.num _ _ (hp.2.1 hk),zy6 hg⟩
 ·split at hr
  ·rename_i hk
   injection hr with h1 h2
   subst h1 h2;exact⟨.aZ _ _ (hp.2.2 hk),zy6 hg⟩
  ·split at hr
   ·exact zCt z e he ts v r hg hr
   ·split at hr
    ·exact Yd.bind (R:=WE) (zFz z e he) (fun l hl=>by obtain⟨x,rfl,hx⟩:=hl;exact Yd.pure hx) ts v r hg hr
    ·exact Yd.bind (R:=WE) (zCf z e he) (fun x hx=>Yd.pure (hx.at' _)) ts v r hg hr
def zD3(z:Nat)(e o:Par Ex)(he:Yd WE e)(ho:Yd WE o):Yd WE (oneS z e o):=fun ts v r hg hr=>by
 unfold oneS at hr
 split at hr
 ·rename_i hs
  obtain⟨x,s,h1,h2⟩:=zn hr;obtain⟨hx,hg2⟩:=ho _ _ _ (zy6 hg) h1;injection h2 with h3 h4
  subst h3 h4;exact⟨.one _ x _ (zAk hs) hx,hg2⟩
 ·exact zBn z e he ts v r hg hr
def zB3(z:Nat):∀g,Yd WE (both z g).1/\Yd WE (both z g).2
 | 0=>⟨fun ts v r _ hr=>by simp[both,yG]at hr,fun ts v r _ hr=>by simp[both,yG]at hr⟩
 | g+1=>by
  have ih:=zB3 z g;have h:=zD3 z _ _ ih.1 ih.2;exact⟨zB2 z _ h,h⟩
def zDp(z g:Nat):Yd WE (zin z g):=(zB3 z g).1
def zCn(z:Nat):Yd (fun t=>1<=t/\t<=3) (j7 z):=
 Yd.look (Yd.pure (by omega)) (Yd.look (Yd.pure (by omega)) (Yd.bind (zy5 z _) fun _ _=>Yd.pure (by omega)))
def zCq(z:Nat)(e:Par Ex)(he:Yd WE e):Yd (fun x=>zFp x.1/\WE x.2) (setP z e):=
 Yd.bind (zA6 z) fun s hs=>Yd.bind (zy5 z _) fun _ _=>Yd.bind he fun x hx=>Yd.pure ⟨hs,hx⟩
def WS.at'{s:St}(h:WS s)(q:Nat):WS (s.at q):=by
 cases h with
 | bind s x p h hx=>exact .bind s x q h hx
 | set s x p h hx=>exact .set s x q h hx
 | choice x l m p hx hl hm=>exact .choice x l m q hx hl hm
 | loop s x y l p h hx hy hl=>exact .loop s x y l q h hx hy hl
 | ret0 p=>exact .ret0 q
 | ret x p hx=>exact .ret x q hx
 | put x y p hx hy=>exact .put x y q hx hy
 | del x p hx=>exact .del x q hx
 | expr x p hx=>exact .expr x q hx
def zCc(z:Nat)(e:Par Ex)(he:Yd WE e):Yd WS (jn z e):=by
 refine Yd.look (Yd.bind (zCq z e he) fun x hx=>Yd.pure (.bind _ _ 0 hx.1 hx.2)) ?_;refine Yd.look (p:=fun ts=>if zC z [[59]] ts then Res.ok (St.mk 5 [] [] [] [] 0) ts else(e ts).bind fun x r=>Res.ok (St.mk 5 [] [x] [] [] 0) r) (fun ts v r hg hr=>?_) ?_
 ·dsimp only at hr
  split at hr
  ·injection hr with h1 h2
   subst h1 h2;exact⟨.ret0 0,hg⟩
  ·exact Yd.bind (R:=WS) he (fun x hx=>Yd.pure (.ret x 0 hx)) ts v r hg hr
 refine Yd.look (Yd.bind (zDu z e he) fun l hl=>?_) ?_
 ·obtain⟨x,y,rfl,hx,hy⟩:=hl;exact Yd.pure (.put x y 0 hx hy)
 refine Yd.look (Yd.bind (zFz z e he) fun l hl=>?_) ?_
 ·obtain⟨x,rfl,hx⟩:=hl;exact Yd.pure (.del x 0 hx)
 intro ts v r hg hr;dsimp only at hr
 split at hr
 ·exact Yd.bind (R:=WS) (zCq z e he) (fun x hx=>Yd.pure (.set _ _ 0 hx.1 hx.2)) ts v r hg hr
 ·exact Yd.bind (R:=WS) he (fun x hx=>Yd.pure (.expr x 0 hx)) ts v r hg hr
def zCi(z:Nat)(e:Par Ex)(b:Par (List St))(he:Yd WE e)(hb:Yd (All WS) b):Yd WS (j5 z e b):=
 Yd.bind he fun x hx=>Yd.bind hb fun l hl=>Yd.look (Yd.bind hb fun m hm=>Yd.pure (.choice x l m 0 hx hl hm)) (Yd.pure (.choice x l [] 0 hx hl (fun y hy=>by cases hy)))
def zDr(z:Nat)(e:Par Ex)(b:Par (List St))(he:Yd WE e)(hb:Yd (All WS) b):Yd WS (zid z e b):=
 Yd.bind (zCq z e he) fun x hx=>Yd.bind (zy5 z _) fun _ _=>Yd.bind he fun y hy=>Yd.bind hb fun l hl=>Yd.pure (.loop _ _ y l 0 hx.1 hx.2 hy hl)
def zD2(z:Nat)(e:Par Ex)(b:Par (List St))(he:Yd WE e)(hb:Yd (All WS) b):Yd WS (za5 z e b):=fun ts v r hg hr=>by
 unfold za5 at hr;obtain⟨s,q,h1,h2⟩:=zn hr;have h3:WS s/\∀t∈q,zAc t:=by
  refine(Yd.look (Q:=WS) (zCi z e b he hb) (Yd.look (zDr z e b he hb) (Yd.bind (zCc z e he) fun s hs=>Yd.bind (zy5 z _) fun _ _=>Yd.pure hs))) ts s q hg h1
 injection h2 with h4 h5
 subst h4 h5;exact⟨h3.1.at' _,h3.2⟩
def zBa(z:Nat)(p:Par St)(hp:Yd WS p):∀f l,All WS l->Yd (All WS) (kU z p f l)
 | 0,l,hl=>fun ts v r hg hr=>by
  unfold kU at hr
  split at hr
  ·exact Yd.pure hl _ v r (zy6 hg) hr
  ·obtain⟨_,_,_,h2⟩:=zn hr;simp[yG]at h2
 | f+1,l,hl=>fun ts v r hg hr=>by
  unfold kU at hr
  split at hr
  ·exact Yd.pure hl _ v r (zy6 hg) hr
  ·obtain⟨y,s,h1,h2⟩:=zn hr;obtain⟨hy,hg2⟩:=hp _ _ _ hg h1;exact zBa z p hp f _ (hl.snoc hy) s v r hg2 h2
def zBb(z:Nat):∀g,Yd (All WS) (jf z g)
 | 0=>fun ts v r _ hr=>by simp[jf,yG]at hr
 | g+1=>Yd.bind (zy5 z _) fun _ _=>fun ts v r hg hr=>zBa z _ (zD2 z _ _ (zDp z g) (zBb z g)) _ [] (fun x hx=>by cases hx) ts v r hg hr
def zC6(z:Nat):Yd (fun p:List Nat×Nat=>zFp p.1/\1<=p.2/\p.2<=3) (jU z):=
 Yd.bind (zA6 z) fun s hs=>Yd.bind (zy5 z _) fun _ _=>Yd.bind (zCn z) fun t ht=>Yd.pure ⟨hs,ht⟩
def zDn(z:Nat):Yd WF (zh5 z):=fun ts v r hg hr=>by
 unfold zh5 at hr;obtain⟨_,q0,h0,hr⟩:=zn hr;obtain⟨_,g0⟩:=zy5 z _ _ _ _ hg h0;obtain⟨s,q1,h1,hr⟩:=zn hr;obtain⟨hs,g1⟩:=zA6 z _ _ _ g0 h1;obtain⟨l,q2,h2,hr⟩:=zn hr;obtain⟨hl,g2⟩:=zBy z _ (zC6 z) _ _ _ g1 h2;obtain⟨t,q3,h3,hr⟩:=zn hr;obtain⟨ht,g3⟩:=(Yd.look (Q:=fun t=>t<=3) (p:=j7 z) (q:=fun ts=>.ok 0 ts) ((zCn z).weak fun t h=>h.2) (Yd.pure (by omega))) _ _ _ g2 h3;obtain⟨b,q4,h4,hr⟩:=zn hr;obtain⟨hb,g4⟩:=zBb z 32 _ _ _ g3 h4;injection hr with e1 e2
 subst e1 e2;exact⟨⟨hs,hl,ht,hb⟩,g4⟩
def zA9(z:Nat):∀f l,All WF l->Yd (All WF) (za1 z f l)
 | 0,l,hl=>Yd.pure hl
 | f+1,l,hl=>fun ts v r hg hr=>by
  unfold za1 at hr
  split at hr
  ·injection hr with h1 h2
   subst h1 h2;exact⟨hl,fun t ht=>by cases ht⟩
  ·obtain⟨y,s,h1,h2⟩:=zn hr;obtain⟨hy,hg2⟩:=zDn z _ _ _ hg h1;exact zA9 z f _ (hl.snoc hy) s v r hg2 h2
def zF8(l:List Nat):All WF (jS l).funcs:=by
 unfold jS
 split
 ·rename_i he
  cases hp:ja l.length (xx l).toks with
  | ok fs r=>exact(zA9 l.length _ [] (fun x hx=>by cases hx) _ fs r (zBm l) hp).1
  | bad c p=>exact fun x hx=>by cases hx
 ·exact fun x hx=>by cases hx
end
section
def zFn(h:zFp s):bynB s=true:=by
 rw[yQ];intro b hb;have:=h.1 b hb;simp[kE,xO,qu]at this;omega
def zC1(h:zB0 s):bynB s=true:=by
 rw[yQ];intro b hb;have:=h.1 b hb;simp[xZ]at this;omega
def zB7:∀l:List Ex,(∀x∈l,okE x=true)->okEs l=true
 | [],_=>rfl
 | e::l,h=>by
  unfold okEs;rw[h e (by simp),zB7 l fun x hx=>h x (by simp[hx])];rfl
def zGb:∀l:List St,(∀x∈l,okS x=true)->okSs l=true
 | [],_=>rfl
 | e::l,h=>by
  unfold okSs;rw[h e (by simp),zGb l fun x hx=>h x (by simp[hx])];rfl
def zFx{e:Ex}(h:WE e):okE e=true:=by
 induction h with
 | num=>rfl
 | bool=>rfl
 | aZ s p h=>simp[okE,zC1 h,okEs]
 | name s p h=>simp[okE,zFn h,okEs]
 | call s l p h hl ih=>simp[okE,zFn h,zB7 l ih]
 | two s x y p h hx hy ihx ihy=>
  have:bynB s=true:=by
   revert s;unfold binS;decide
  simp[okE,this,okEs,ihx,ihy]
 | one s x p h hx ih=>
  have:bynB s=true:=by
   revert s;decide
  simp[okE,this,okEs,ih]
 | word k x p h hx ih=>simp[okE,okEs,ih,bynB]
def zD7{s:St}(h:WS s):okS s=true:=by
 induction h with
 | bind s x p h hx=>simp[okS,zFn h,okEs,okSs,zFx hx]
 | set s x p h hx=>simp[okS,zFn h,okEs,okSs,zFx hx]
 | choice x l m p hx hl hm ihl ihm=>simp[okS,okEs,zFx hx,zGb l ihl,zGb m ihm,bynB]
 | loop s x y l p h hx hy hl ih=>simp[okS,zFn h,okEs,zFx hx,zFx hy,zGb l ih,okSs]
 | ret0=>rfl
 | ret x p hx=>simp[okS,okEs,zFx hx,okSs,bynB]
 | put x y p hx hy=>simp[okS,okEs,zFx hx,zFx hy,okSs,bynB]
 | del x p hx=>simp[okS,okEs,zFx hx,okSs,bynB]
 | expr x p hx=>simp[okS,okEs,zFx hx,okSs,bynB]
def zD9{f:Fu}(h:WF f):okF f=true:=by
 unfold okF;rw[zFn h.1,zGb _ fun s hs=>zD7 (h.2.2.2 s hs)];simp only[Bool.and_true,Bool.true_and,List.all_eq_true];exact fun p hp=>zFn (h.2.1 p hp).1
def zB1(l:List Nat):∀f∈(jS l).funcs,okF f=true:=fun f hf=>zD9 (zF8 l f hf)
def zCe:∀s∈binS,s.length<=1000000:=by unfold binS;decide
def zB8:∀s∈sOne,s.length<=1000000:=by decide
def zAg:∀l:List Ex,(∀x∈l,shE (toXe x)=true)->shL (yD l)=true
 | [],_=>rfl
 | e::l,h=>by
  unfold yD shL;rw[h e (by simp),zAg l fun x hx=>h x (by simp[hx])];rfl
def zAr:∀l:List St,(∀x∈l,shS (toXs x)=true)->shB (vT l)=true
 | [],_=>rfl
 | e::l,h=>by
  unfold vT shB;rw[h e (by simp),zAr l fun x hx=>h x (by simp[hx])];rfl
def zF5{l:List Ex}(hn:n<=9223372036854775807)(hs:s.length<=1000000)(hl:shL (yD l)=true):shE (toXe (.mk k n s l p))=true:=by
 unfold toXe shE;rw[hl,Bool.and_true,aM];exact⟨decide_eq_true hs,decide_eq_true ⟨by omega,by omega⟩⟩
def zEe{e:Ex}(h:WE e):shE (toXe e)=true:=by
 induction h with
 | num n p h=>exact zF5 h (by simp) rfl
 | bool n p h=>exact zF5 (by omega) (by simp) rfl
 | aZ s p h=>exact zF5 (by omega) (by have:=h.2;omega) rfl
 | name s p h=>exact zF5 (by omega) (by have:=h.2.1;omega) rfl
 | call s l p h hl ih=>exact zF5 (by omega) (by have:=h.2.1;omega) (zAg l ih)
 | two s x y p h hx hy ihx ihy=>exact zF5 (by omega) (zCe s h) (zAg _ (by intro z hz;simp at hz;rcases hz with rfl|rfl<;>assumption))
 | one s x p h hx ih=>exact zF5 (by omega) (zB8 s h) (zAg _ (by intro z hz;simp at hz;subst hz;exact ih))
 | word k x p h hx ih=>exact zF5 (by omega) (by simp) (zAg _ (by intro z hz;simp at hz;subst hz;exact ih))
def zF4{es:List Ex}{b f:List St}(he:∀x∈es,WE x)(hb:shB (vT b)=true)(hf:shB (vT f)=true):shS (toXs (.mk k s es b f p))=true:=by
 unfold toXs shS;rw[zAg es fun x hx=>zEe (he x hx),hb,hf];rfl
def zEa{s:St}(h:WS s):shS (toXs s)=true:=by
 induction h with
 | bind s x p h hx=>exact zF4 (by intro z hz;simp at hz;subst hz;exact hx) rfl rfl
 | set s x p h hx=>exact zF4 (by intro z hz;simp at hz;subst hz;exact hx) rfl rfl
 | choice x l m p hx hl hm ihl ihm=>exact zF4 (by intro z hz;simp at hz;subst hz;exact hx) (zAr l ihl) (zAr m ihm)
 | loop s x y l p h hx hy hl ih=>exact zF4 (by intro z hz;simp at hz;rcases hz with rfl|rfl<;>assumption) (zAr l ih) rfl
 | ret0=>rfl
 | ret x p hx=>exact zF4 (by intro z hz;simp at hz;subst hz;exact hx) rfl rfl
 | put x y p hx hy=>exact zF4 (by intro z hz;simp at hz;rcases hz with rfl|rfl<;>assumption) rfl rfl
 | del x p hx=>exact zF4 (by intro z hz;simp at hz;subst hz;exact hx) rfl rfl
 | expr x p hx=>exact zF4 (by intro z hz;simp at hz;subst hz;exact hx) rfl rfl
def zAw(l:List Nat):∀f∈(jS l).funcs.map toXf,shB f.body=true:=fun f hf=>by
 obtain⟨g,hg,rfl⟩:=List.mem_map.1 hf;exact zAr _ fun s hs=>zEa ((zF8 l g hg).2.2.2 s hs)
end
end
section
open Go.RowKit
def RtOk:Rt->Prop
 | .ok _=>True
 | .bad c _=>c≠0
def ErOk(e:Er):Prop:=∀x,e=some x->x.1≠0
def ErOk.none:ErOk none:=fun x h=>by cases h
def ErOk.some{c p:Int}(h:c≠0):ErOk (some (c,p)):=fun x e=>by cases e;exact h
def qw(fits:Int->Bool)(p:Int×Rt)(h:RtOk p.2):RtOk (zM fits p):=by
 unfold zM;rcases p with⟨a,t|⟨c,b⟩⟩
 ·simp only
  split
  ·trivial
  ·show(51:Int)≠0;decide
 ·exact h
def zFq(fits:Int->Bool):∀l:List (Int×Rt),(∀p∈l,RtOk p.2)->ErOk (allR fits l)
 | [],_=>ErOk.none
 | p::l,h=>by
  have h1:=qw fits p (h p (by simp));unfold allR;cases e:zM fits p with
  | bad c a=>rw[e]at h1;exact ErOk.some h1
  | ok t=>exact zFq fits l fun q hq=>h q (by simp[hq])
def zBc:∀(l:List (Int×Rt)) (ts:List Int),(∀p∈l,RtOk p.2)->ErOk (vX l ts)
 | [],_,_=>by unfold vX;exact ErOk.none
 | p::l,[],_=>by unfold vX;exact ErOk.none
 | p::l,t::ts,h=>by
  have h1:=qw (fun x=>x==t) p (h p (by simp));unfold vX;cases e:zM (fun x=>x==t) p with
  | bad c a=>rw[e]at h1;exact ErOk.some h1
  | ok t=>exact zBc l ts fun q hq=>h q (by simp[hq])
def zDj(g:Sg)(aW:Int)(ks:List (Int×Rt))(h:∀p∈ks,RtOk p.2):RtOk (twoR g aW ks):=by
 unfold twoR
 match ks,h with
 | [],_=>trivial
 | [_],_=>trivial
 | a::b::_,h=>
  have h1:=qw g.takes a (h a (by simp));have h2:=qw g.takes b (h b (by simp));simp only;cases e:zM g.takes a with
  | bad c p=>rw[e]at h1;exact h1
  | ok x=>
   cases e2:zM g.takes b with
   | bad c p=>rw[e2]at h2;exact h2
   | ok y=>
    simp only
    split
    ·trivial
    ·show(51:Int)≠0;decide
def zDq(u:Int×Int)(ks:List (Int×Rt))(h:∀p∈ks,RtOk p.2):RtOk (oneR u ks):=by
 unfold oneR;have:=zFq (fun x=>x==u.1) ks h;cases e:allR (fun x=>x==u.1) ks with
 | none=>trivial
 | some x=>exact this x e
def zD1{a:Int}:RtOk (.bad 51 a):=by show(51:Int)≠0;decide
def zD5{a:Int}:RtOk (.bad 52 a):=by show(52:Int)≠0;decide
def zDc(T:Tab5)(aZ:List Nat)(aW:Int)(ks:List (Int×Rt))(h:∀p∈ks,RtOk p.2):RtOk (yC T aZ aW ks):=by
 unfold yC;cases T aZ with
 | none=>exact zD5
 | some d=>
  simp only
  split
  ·exact zD1
  ·have:=zBc ks d.1 h;cases e:vX ks d.1 with
   | none=>trivial
   | some x=>exact this x e
def zDb(T:Tab5)(sc:zX)(op:Int)(aZ:List Nat)(aW:Int)(ks:List (Int×Rt))(h:∀p∈ks,RtOk p.2):RtOk (jq T sc op aZ aW ks):=by
 unfold jq
 split
 ·exact zD1
 split
 ·trivial
 split
 ·trivial
 split
 ·trivial
 split
 ·unfold zfj;cases seek sc aZ with
  | none=>exact zD5
  | some d=>trivial
 split
 ·exact zDc T aZ aW ks h
 split
 ·cases qN aZ with
  | none=>exact zD1
  | some g=>exact zDj g aW ks h
 ·exact zDq _ ks h
mutual
def zCw(T:Tab5)(sc:zX):∀e:Xe,RtOk (qk T sc e)
 | .mk op num aZ aX aW=>by
  unfold qk;exact zDb T sc op aZ aW _ (zAn T sc aX)
def zAn(T:Tab5)(sc:zX):∀l:List Xe,∀p∈zE T sc l,RtOk p.2
 | [],p,h=>by simp[zE]at h
 | e::l,p,h=>by
  unfold zE at h;rcases aC.1 h with rfl|h
  ·exact zCw T sc e
  ·exact zAn T sc l p h
end
def zF0(sc:zX)(s:List Nat)(d:Int×Bool)(aW:Int):ErOk (zY sc s d aW).1:=by
 unfold zY;cases seek sc s with
 | none=>exact ErOk.none
 | some _=>exact ErOk.some (by decide)
def zDw(sc:zX)(s:List Nat)(aW:Int)(x:Int×Rt)(h:RtOk x.2):ErOk (letR sc s aW x).1:=by
 unfold letR;have h1:=qw (fun t=>t != 0) x h;cases e:zM (fun t=>t != 0) x with
 | bad c a=>rw[e]at h1;exact ErOk.some h1
 | ok t=>exact zF0 _ _ _ _
def zDk(sc:zX)(s:List Nat)(aW:Int)(xs:List (Int×Rt))(h:∀p∈xs,RtOk p.2):ErOk (setR sc s aW xs):=by
 unfold setR;cases seek sc s with
 | none=>exact ErOk.some (by decide)
 | some d=>
  simp only
  split
  ·exact ErOk.some (by decide)
  ·exact zFq _ xs h
def zDs(res:Int)(aW:Int)(xs:List (Int×Rt))(h:∀p∈xs,RtOk p.2):ErOk (endR res aW xs):=by
 unfold endR
 split
 ·exact ErOk.some (by decide)
 ·exact zFq _ xs h
mutual
def zDl(T:Tab5)(res:Int):∀(s:Xs) (sc:zX),ErOk (stmM T res s sc).1
 | .mk op aZ aY body els aW,sc=>by
  have hk:=zAn T sc aY;unfold stmM
  split
  ·exact ErOk.some (by decide)
  split
  ·cases e:zE T sc aY with
   | nil=>exact ErOk.none
   | cons x r=>exact zDw sc aZ aW x (hk x (by rw[e];simp))
  split
  ·exact zDk sc aZ aW _ hk
  split
  ·show ErOk (match allR (fun x=>x==2) (zE T sc aY)with|some e=>some e|none=>match (z7 T res body sc).1 with|some e=>some e|none=>(z7 T res els sc).1);have h1:=zFq (fun x=>x==2) _ hk;have h2:=zFr T res body sc;have h3:=zFr T res els sc;cases e:allR (fun x=>x==2) (zE T sc aY)with
   | some x=>rw[e]at h1;exact h1
   | none=>
    cases e2:(z7 T res body sc).1 with
    | some x=>rw[e2]at h2;exact h2
    | none=>exact h3
  split
  ·show ErOk (match allR (fun x=>x==1) (zE T sc aY)with|some e=>some e|none=>match zY sc aZ (1,true) aW with|(some e,_)=>some e|(none,inner)=>(z7 T res body inner).1);have h1:=zFq (fun x=>x==1) _ hk;have h2:=zF0 sc aZ (1,true) aW;cases e:allR (fun x=>x==1) (zE T sc aY)with
   | some x=>rw[e]at h1;exact h1
   | none=>
    rcases e2:zY sc aZ (1,true) aW with⟨_|x,inner⟩
    ·exact zFr T res body inner
    ·rw[e2]at h2;exact h2
  split
  ·exact zDs res aW _ hk
  split
  ·exact zFq _ _ hk
  ·exact zFq _ _ hk
def zFr(T:Tab5)(res:Int):∀(l:List Xs) (sc:zX),ErOk (z7 T res l sc).1
 | [],sc=>by unfold z7;exact ErOk.none
 | s::l,sc=>by
  have h1:=zDl T res s sc;unfold z7;rcases e:stmM T res s sc with⟨_|x,sc'⟩
  ·exact zFr T res l sc'
  ·rw[e]at h1;exact h1
end
def zAj{σ α:Type}(step:σ->α->Er×σ)(h:∀s a,ErOk (step s a).1):∀(l:List α) (s:σ),ErOk (runL step s l).1
 | [],s=>by unfold runL;exact ErOk.none
 | a::l,s=>by
  have h1:=h s a;unfold runL;rcases e:step s a with⟨_|x,s'⟩
  ·exact zAj step h l s'
  ·rw[e]at h1;exact h1
def zBx(aW:Int)(sc:zX)(p:List Nat×Int):ErOk (xm aW sc p).1:=by
 unfold xm;have h1:=zF0 sc p.1 (p.2,false) aW;rcases e:zY sc p.1 (p.2,false) aW with⟨_|x,sc'⟩
 ·simp only
  split
  ·exact ErOk.some (by decide)
  ·exact ErOk.none
 ·rw[e]at h1;exact h1
def zDy(T:Tab5)(f:Xf):ErOk (funM T f):=by
 unfold funM;have h1:ErOk (k6 f).1:=zAj _ (fun s a=>zBx _ s a) _ _;rcases e:k6 f with⟨_|x,sc⟩
 ·simp only
  split
  ·exact ErOk.some (by decide)
  split
  ·exact ErOk.some (by decide)
  have h2:=zFr T f.result f.body sc;cases e2:(z7 T f.result f.body sc).1 with
  | some x=>rw[e2]at h2;exact h2
  | none=>
   simp only
   split
   ·exact ErOk.some (by decide)
   ·exact ErOk.none
 ·rw[e]at h1;exact h1
def zDa(fs:List Xf):ErOk (kD fs):=by
 unfold kD
 split
 ·exact ErOk.some (by decide)
 have h1:ErOk (runL wX [] fs).1:=zAj _ (fun s a=>by
  unfold wX
  split
  ·exact ErOk.some (by decide)
  ·exact ErOk.none) _ _
 cases e:(runL wX [] fs).1 with
 | some x=>rw[e]at h1;exact h1
 | none=>exact zAj _ (fun s a=>zDy _ a) _ _
end
section
def zhq{lim:Int}{F:List Nat->Option Xf}{f:Xf}{vs:List Va}{σ:Stt}{r:Ou Va}(h:∀m,xo lim F (m+40) 0 f vs σ=some r):vg lim F f vs σ r:=⟨40,fun n hn=>by
 obtain⟨m,rfl⟩:=Nat.exists_eq_add_of_le' hn
 exact h m⟩
def hdF0:Xf:=⟨[102],[([97],1)],1,[.mk 5 [] [.mk 6 0 [47] [.mk 4 0 [97] [] 27,.mk 1 0 [] [] 31] 29] [] [] 20],0⟩
def hdF1:Xf:=⟨[103],[([97],1)],1,[.mk 5 [] [.mk 6 0 [43] [.mk 4 0 [97] [] 63,.mk 1 1 [] [] 67] 65] [] [] 56],36⟩
def hdFX:List Xf:=[hdF0,hdF1]
def hd_f:vg 100 (xT hdFX) hdF0 [intV 0] ⟨0,[],[]⟩ (.trap 2 ⟨4,[],[]⟩):=zhq fun m=>by simp[xo,hdF0,jd,qS,ji,qK,qD,useE,qv,Ev.bind,kQ,seek,List.find?,updF,intV,twoE,divI,endE,qe]
def hd_g:vg 100 (xT hdFX) hdF1 [intV 4] ⟨0,[],[]⟩ (.ok (intV 5) ⟨4,[],[]⟩):=zhq fun m=>by simp[xo,hdF1,jd,qS,ji,qK,qD,useE,qv,Ev.bind,kQ,seek,List.find?,updF,intV,twoE,fitI,endE,qe,zay]
structure LitP(T:List Nat)(P:List Fu):Prop where
 p:jS T=⟨0,P,0⟩
 f:yB 0 P 0=⟨P,0,0⟩
 o:∀f∈P,okF f=true
 m:kD (P.map toXf)=none
 s:∀f∈P.map toXf,shB f.body=true
 y:Byn T
def hdFT:List Nat:=[102,110,32,102,40,97,58,32,105,110,116,41,58,32,105,110,116,32,123,32,114,101,116,117,114,110,32,97,32,47,32,48,59,32,125,32,102,110,32,103,40,97,58,32,105,110,116,41,58,32,105,110,116,32,123,32,114,101,116,117,114,110,32,97,32,43,32,49,59,32,125]
def hdFP:List Fu:=[⟨[102],[([97],1)],1,[.mk 5 [] [.mk 6 0 [47] [.mk 4 0 [97] [] 27,.mk 1 0 [] [] 31] 29] [] [] 20],0⟩,⟨[103],[([97],1)],1,[.mk 5 [] [.mk 6 0 [43] [.mk 4 0 [97] [] 63,.mk 1 1 [] [] 67] 65] [] [] 56],36⟩]
def zfn:LitP hdFT hdFP:=by
 refine⟨by kernel_rfl,by kernel_rfl,?_,by kernel_rfl,?_,by unfold Byn hdFT;decide⟩
 ·have:hdFP.all okF=true:=by kernel_rfl
  exact fun f hf=>List.all_eq_true.1 this f hf
 ·have:(hdFP.map toXf).all (fun f=>shB f.body)=true:=by kernel_rfl
  exact fun f hf=>List.all_eq_true.1 this f hf
def zfu:hdFP.map toXf=hdFX:=by kernel_rfl
end
section
open Go.RowKit Go.MapKept
def LitO(P:List Fu)(w:World)(e:Ending)(w':World):Prop:=
 ∃A c ks,e=.returned (.tuple #[.agg #[.slice A (P.map toXf).length c],.int .i64 0,.int .i64 0])/\XfsC w' (Lo w'.heap.size) (P.map toXf) ks (.slice A (P.map toXf).length c)/\Below w.heap.size w w'
def wU{T:List Nat}{P:List Fu}(hP:LitP T P)(A:Option Addr)(n c:Nat)(w:World)(hn:T.length=n)(hc:n<=c)(hcm:c<=maxLen)(hl:Lies w w.heap.size A c (bts T))(ht:Tab w):Calls prog 25 #[.slice A n c] w (LitO P w):=by
 refine(zr5 A T n c w hn hc hcm hl hP.y ht 0 0 P hP.p hP.o).mono fun e w' h=>?_;rw[hP.f]at h;obtain⟨V,rfl,hF,hb⟩:=h;obtain⟨AV,cV,rfl⟩:=zal hF;obtain⟨ks,hX⟩:=hF.toX hP.o;have hX':XfsC w' (Lo w'.heap.size) (P.map toXf) ks (.slice AV P.length cV):=hX.more fun k hk=>hk.2;exact⟨AV,cV,ks,by simp,(by rw[aD];exact hX'),hb⟩
def zdh:qJ []:=by decide
def zge(n0:Nat)(w:World)(hn:n0<=w.heap.size):Calls prog 17 #[.slice none 0 0] w fun e w'=>∃J,e=.returned (.pointer (some ⟨J,0,none⟩))/\w.heap.size<=J/\Jr n0 w' J [] []/\Below w.heap.size w w':=
 (newC none [] 0 w (Prs.nothing _ _) (aR _) (by unfold maxLen;omega) (by simp) zdh).mono fun e w' h=>h.jr zdh hn
def zwi(w:World)(C:Array Value)(T:List Nat)(n:Nat)(hC:C=(bts T).toArray):∃O,(convert 22 22 (.slice (some ⟨w.heap.size,0,none⟩) n n)).run prog (w.alloc (.cells C 5))=.ok (.slice (some ⟨w.heap.size,0,none⟩) n n) (w.alloc O)/\Lies (w.alloc O) (w.alloc O).heap.size (some ⟨w.heap.size,0,none⟩) n (bts T):=by
 refine⟨.cells C 5 (C.size,C.size+1),yj w C n n,?_⟩;subst hC;exact(zcv w T n 5 _).more (by simp)
def AnyO(T:List Nat)(w:World)(e:Ending)(w':World):Prop:=
 (∃(A:Option Addr) (c:Nat) (err aW:Int),e=.returned (.tuple #[.agg #[.slice A 0 c],.int .i64 err,.int .i64 aW])/\err≠0/\Below w.heap.size w w') \/
 ∃(fs:List Xf) (ks:List Two) (A:Option Addr) (c:Nat),kD fs=none/\(∀f∈fs,shB f.body=true)/\e=.returned (.tuple #[.agg #[.slice A fs.length c],.int .i64 0,.int .i64 0])/\XfsC w' (Lo w'.heap.size) fs ks (.slice A fs.length c)/\Below w.heap.size w w'
def zCs(T:List Nat)(A:Option Addr)(n c:Nat)(w:World)(hn:T.length=n)(hc:n<=c)(hcm:c<=maxLen)(hl:Lies w w.heap.size A c (bts T))(hy:Byn T)(ht:Tab w):Calls prog 25 #[.slice A n c] w (AnyO T w):=by
 obtain⟨err,fs,aW,hp⟩:∃err fs aW,jS T=⟨err,fs,aW⟩:=⟨_,_,_,rfl⟩;have hok:∀f∈fs,okF f=true:=by
  have:=zB1 T;rw[hp]at this;exact this
 have hsh:∀f∈fs.map toXf,shB f.body=true:=by
  have:=zAw T;rw[hp]at this;exact this
 refine(zr5 A T n c w hn hc hcm hl hy ht err aW fs hp hok).mono fun e w' h=>?_;obtain⟨V,rfl,hF,hb⟩:=h;unfold yB at hF⊢;by_cases h0:err=0
 ·by_cases h1:(je (fs.map toXf)).1=0
  ·rw[if_pos h0,if_pos h1]at hF⊢;obtain⟨AV,cV,rfl⟩:=zal hF;obtain⟨ks,hX⟩:=hF.toX hok;have hX':XfsC w' (Lo w'.heap.size) (fs.map toXf) ks (.slice AV fs.length cV):=hX.more fun k hk=>hk.2;refine .inr ⟨fs.map toXf,ks,AV,cV,?_,hsh,by simp,by rw[aD];exact hX',hb⟩;cases hq:kD (fs.map toXf)with
   | none=>rfl
   | some r=>
    exfalso;exact zDa _ r hq (by simpa[je,hq]using h1)
  ·rw[if_pos h0,if_neg h1]at hF⊢;obtain⟨AV,cV,rfl⟩:=zal hF;exact .inl ⟨AV,cV,_,_,rfl,by simpa using h1,hb⟩
 ·rw[if_neg h0]at hF⊢;obtain⟨AV,cV,rfl⟩:=zal hF;exact .inl ⟨AV,cV,_,_,rfl,by simpa using h0,hb⟩
def NewQ(n0:Nat)(ls:List PR)(w:World)(e:Ending)(w':World):Prop:=
 Below w.heap.size w w'/\((¬qJ ls/\e=.returned (.pointer none))\/qJ ls/\∃J,e=.returned (.pointer (some ⟨J,0,none⟩))/\w.heap.size<=J/\Jr n0 w' J [] ls/\∀b,Jb w' J b->b=J)
def zCg(n0:Nat)(A:Option Addr)(ls:List PR)(c:Nat)(w:World)(hn:n0<=w.heap.size)(hp:Prs w w.heap.size A c ls)(hc:ls.length<=c)(hm:c<=maxLen)(hl:ls.length<=2932031007402):Calls prog 17 #[.slice A ls.length c] w (NewQ n0 ls w):=by
 by_cases hr:qJ ls
 ·refine(newC A ls c w hp hc hm hl hr).mono fun e w' h=>?_;obtain⟨J,A',c',g1,g2,g3,_⟩:=id h;obtain⟨J2,e1,h1,h2,h3⟩:=h.jr hr hn;have:J2=J:=by
   rw[g1]at e1;injection e1 with e1
   injection e1 with e1
   injection e1 with e1
   injection e1 with e1
   exact e1.symm
  subst this;refine⟨h3,.inr ⟨hr,_,g1,h1,h2,fun b hb=>?_⟩⟩;rcases hb with e|⟨v,R,q1,q2,_⟩
  ·exact e
  ·rw[wy _ _ _ _ _ _ g3]at q1;have:v=.slice none 0 0:=by simpa using q1.symm
   subst this;cases q2
 ·exact(zC7 A ls c w hp hc hm hl hr).mono fun e w' h=>⟨h.2,.inl ⟨hr,h.1⟩⟩
instance noPrt:Prt:=⟨fun _=>False⟩
def wF{P:Nat->Prop}:∀b,P b->¬Prt.no b:=fun _ _ h=>h
def wo{P:Nat->Prop}:∀b,Prt.no b->P b:=fun _ h=>h.elim
def al1{α β:Type}{P:α->β->Prop}{x:α}{k:β}(h:P x k):∀(i:Nat) (s:α) (k':β),[x][i]? =some s->[k][i]? =some k'->P s k':=by
 intro i s k' h1 h2
 match i,h1,h2 with
 | 0,h1,h2=>simp at h1 h2;subst h1 h2;exact h
def zcu{t n:Int}{k:Value}{s:List Int}(h:w.heap[g]? =some (.cells #[.int .i64 t,.int .i64 n,k] 41 (0,0)))(hs:SB w w.heap.size k s)(hv:Vok ⟨t,n,s⟩):ArgX n0 w (.slice (some ⟨g,0,none⟩) 1 1) [⟨t,n,s⟩]:=
 zgn (vs:=[⟨t,n,s⟩]) (ks:=[k]) h rfl (by simp) (al1 (P:=fun(v:Va) k=>SB w w.heap.size k v.s/\Vok v) ⟨hs,hv⟩)
def hd_p:kD hdFX=none:=zfu▸zfn.m
def hd_s:∀f∈hdFX,shB f.body=true:=zfu▸zfn.s
def wP(w:World)(ht:Tab w):Calls prog 15 #[] w fun e w'=>e=.returned (.bool true)/\Below w.heap.size w w':=by
 have HT:=aQ ht;have hpos:=ht.1;clear ht;obtain⟨O,hm,LF⟩:=zwi w #[.int .u8 102,.int .u8 110,.int .u8 32,.int .u8 102,.int .u8 40,.int .u8 97,.int .u8 58,.int .u8 32,.int .u8 105,.int .u8 110,.int .u8 116,.int .u8 41,.int .u8 58,.int .u8 32,.int .u8 105,.int .u8 110,.int .u8 116,.int .u8 32,.int .u8 123,.int .u8 32,.int .u8 114,.int .u8 101,.int .u8 116,.int .u8 117,.int .u8 114,.int .u8 110,.int .u8 32,.int .u8 97,.int .u8 32,.int .u8 47,.int .u8 32,.int .u8 48,.int .u8 59,.int .u8 32,.int .u8 125,.int .u8 32,.int .u8 102,.int .u8 110,.int .u8 32,.int .u8 103,.int .u8 40,.int .u8 97,.int .u8 58,.int .u8 32,.int .u8 105,.int .u8 110,.int .u8 116,.int .u8 41,.int .u8 58,.int .u8 32,.int .u8 105,.int .u8 110,.int .u8 116,.int .u8 32,.int .u8 123,.int .u8 32,.int .u8 114,.int .u8 101,.int .u8 116,.int .u8 117,.int .u8 114,.int .u8 110,.int .u8 32,.int .u8 97,.int .u8 32,.int .u8 43,.int .u8 32,.int .u8 49,.int .u8 59,.int .u8 32,.int .u8 125] hdFT 71 (by kernel_rfl);have B0:=aQ (za w O);have K:=aQ (wU zfn (some ⟨w.heap.size,0,none⟩) 71 71 (w.alloc O) rfl (by omega) (by unfold maxLen;omega) LF (HT.out.below B0.out hpos));clear LF;go_enter func15,ntmps15
 go_wp2_with fail
 clear hm
 generalize w.alloc O=w0 at *
 with_reducible refine K.out.mono ?_
 clear K;rintro e w1 ⟨A,c,ks,rfl,hX,b1⟩;rw[zfu,show hdFX.length=2 from rfl]at hX⊢;have HB1:=zd B0.out b1 B0.out.size;have c1:=za w1 (.cells #[.slice A 2 c] 26);have X0:Hid ((w1.alloc (.cells #[.slice A 2 c] 26)).cell? ⟨w1.heap.size,0,none⟩=some (.slice A 2 c)):=by show _=_;rw[wy _ _ _ _ _ _ (ye w1 _)];rfl
 have HB2:=aQ (zd HB1 c1 HB1.size);have HX2:Hid (XfsC (w1.alloc (.cells #[.slice A 2 c] 26)) (Lo (w1.alloc (.cells #[.slice A 2 c] 26)).heap.size) hdFX ks (.slice A 2 c)):=(hX.same (xj c1 (aR _))).more fun k hk=>aS hk c1.size;clear hX b1 c1 HB1;go_upto_region 2 with fail
 generalize w1.alloc (.cells #[.slice A 2 c] 26)=w2 at *
 generalize w1.heap.size=gp at *
 have hgp:gp<w2.heap.size:=wW w2 _ X0.out;have HW:Hid (w.heap.size<=w2.heap.size):=HB2.out.size;have K:=aQ (zge w2.heap.size w2 (aR _))
 go_wp2_with fail
 with_reducible refine K.out.mono ?_
 clear K;rintro e w3 ⟨J,rfl,hJ,hj,b3⟩;have HL:Hid (Lw w2.heap.size hdFX ks A c J [] [] w3):=⟨b3.size,hj,HX2.out.same (xj b3 (aR _))⟩;have x3:=zb X0.out b3;have HB3:=aQ (zd HB2.out b3 HB2.out.size);have Ba:=za w3 (.cells #[.int .i64 1,.int .i64 0,.slice none 0 0] 41);have HL3:=aQ (HL.out.on Ba)
 have K:Hid (Calls prog 19 #[.agg #[.slice A 2 c],.string ⟨#[102]⟩,.slice (some ⟨w3.heap.size,0,none⟩) 1 1,.pointer (some ⟨J,0,none⟩),.int .i64 100] (w3.alloc (.cells #[.int .i64 1,.int .i64 0,.slice none 0 0] 41)) fun e w'=>∃A' c',e=.returned (.agg #[.int .i64 0,.int .i64 0,.slice A' 0 c',.int .i64 2,.int .i64 4])/\Mv w2.heap.size NoM (w3.alloc (.cells #[.int .i64 1,.int .i64 0,.slice none 0 0] 41)) w'/\Jr w2.heap.size w' J [] []):=
  yy HL3.out wF wo (by simp) hd_p hd_s [102] (by unfold Byn;decide) _ [intV 0] (zcu (ye w3 _) (SB.nil _ _) (yr (by decide))) hdF0 (by kernel_rfl) (by kernel_rfl) 100 2 4 [] [] hd_f
 have HBa:=aQ (zd HB3.out Ba HB3.out.size);have x3a:=aQ (zb x3 Ba);clear Ba HL hj hJ b3 HX2 X0 HB2 B0
 go_wp2_with fail
 with_reducible refine K.out.mono ?_
 clear K;rintro e w4 ⟨A4,c4,rfl,hm4,hj4⟩;have hlow:=hm4.low HL3.out.hn;have x4:w4.cell? ⟨gp,0,none⟩=some (.slice A 2 c):=by rw[hlow.cell (p:=⟨gp,0,none⟩) hgp];exact x3a.out
 have HB4:=HBa.out.trans (hlow.mono HW.out);have c5:=za w4 (.cells #[.int .i64 0,.int .i64 0,.slice A4 0 c4,.int .i64 2,.int .i64 4] 44);have HL5:=aQ ((HL3.out.mv hm4 hj4).on c5);have HB5:=aQ (zd HB4 c5 HB4.size);have XB5:=aQ (ye w4 (.cells #[.int .i64 0,.int .i64 0,.slice A4 0 c4,.int .i64 2,.int .i64 4] 44));have x5:=zb x4 c5;clear hlow hm4 hj4 c5 HB4 x4 x3a HL3 HBa;go_upto_region 6 with fail
 generalize w4.alloc (.cells #[.int .i64 0,.int .i64 0,.slice A4 0 c4,.int .i64 2,.int .i64 4] 44)=w5 at *
 generalize w4.heap.size=gx at *
 have Ba:=za w5 (.cells #[.int .i64 1,.int .i64 4,.slice none 0 0] 41);have HL5a:=aQ (HL5.out.on Ba)
 have K:Hid (Calls prog 19 #[.agg #[.slice A 2 c],.string ⟨#[103]⟩,.slice (some ⟨w5.heap.size,0,none⟩) 1 1,.pointer (some ⟨J,0,none⟩),.int .i64 100] (w5.alloc (.cells #[.int .i64 1,.int .i64 4,.slice none 0 0] 41)) fun e w'=>∃A' c',e=.returned (.agg #[.int .i64 1,.int .i64 5,.slice A' 0 c',.int .i64 0,.int .i64 4])/\Mv w2.heap.size NoM (w5.alloc (.cells #[.int .i64 1,.int .i64 4,.slice none 0 0] 41)) w'/\Jr w2.heap.size w' J [] []/\SB w' w'.heap.size (.slice A' 0 c') []):=
  vU HL5a.out wF wo (by simp) hd_p hd_s [103] (by unfold Byn;decide) _ [intV 4] (zcu (ye w5 _) (SB.nil _ _) (yr (by decide))) hdF1 (by kernel_rfl) (by kernel_rfl) 100 4 (intV 5) 1 5 [] 0 rfl rfl [] [] hd_g
 have HB5a:=aQ (zd HB5.out Ba HB5.out.size);have XB5a:=aQ (zg Ba XB5.out (aU.1 XB5.out).1);clear Ba HL5 HB5 XB5 HB3
 go_wp2_with fail
 with_reducible refine K.out.mono ?_
 clear K;rintro e w6 ⟨A6,c6,rfl,hm6,hj6,hb6⟩;have HB6:=HB5a.out.trans ((hm6.low HL5a.out.hn).mono HW.out);have c7:=za w6 (.cells #[.int .i64 1,.int .i64 5,.slice A6 0 c6,.int .i64 0,.int .i64 4] 44);have HB7:=aQ (zd HB6 c7 HB6.size);have XB7:=zg c7 (hm6.kept XB5a.out (by decide)) (aU.1 (hm6.kept XB5a.out (by decide))).1;obtain⟨⟨y0,y1,y2,y3,y4⟩,_⟩:=xi XB7;obtain⟨⟨z0,z1,z2,z3,z4⟩,_⟩:=xi (ye w6 (.cells #[.int .i64 1,.int .i64 5,.slice A6 0 c6,.int .i64 0,.int .i64 4] 44));clear hm6 hj6 hb6 HB6 c7 XB7 XB5a HB5a HL5a x5 x3;go_upto_region 7 with fail
 generalize w6.alloc (.cells #[.int .i64 1,.int .i64 5,.slice A6 0 c6,.int .i64 0,.int .i64 4] 44)=w7 at *
 go_wp2;go_ret;exact⟨rfl,HB7.out⟩
end
end Go.Proofs.YtcilgkdnjgmogaaGreatDoor
