/- A part of the proof. -/
import Derived.Test.YtcilgkdnjgmogaaGreatDoorYC
namespace Go.Proofs.YtcilgkdnjgmogaaGreatDoor
open Go.Proofs.Tryz
set_option maxRecDepth 100000
set_option maxHeartbeats 12800000
set_option linter.all false
variable {U:Value} {w w':World} {xs ys:List Value}
section
open Go.RowKit
structure Nm where
 R:Nat
 S:Src
 w0:World
 be:Nat
 br:Nat
 bd:Nat
 lo:Nat
 t:Tok
 d:Nat
structure Nm.Ok(c:Nm):Prop where
 hR:c.R<c.w0.heap.size
 e0:c.w0.heap.size<=c.be
 r0:c.br≠c.R
 d0:c.bd≠c.R
 el:c.be<c.lo
 rl:c.br<c.lo
 dl:c.bd<c.lo
 er:c.be≠c.br
 ed:c.be≠c.bd
 sm:c.S.all.length<=4096
def Nm.E(c:Nm)(U:Value)(w:World):Prop:=w.rangeAt c.be 0 [.int .i64 5,.int .i64 0,.string (strN c.t.aZ),U,.int .i64 c.t.aW]/\w.there c.be 0 5
def Nm.V(c:Nm)(w:World):Prop:=w.cell? ⟨c.br,0,none⟩=some (.pointer (some ⟨c.R,0,none⟩))/\w.cell? ⟨c.bd,0,none⟩=some (.int .i64 c.d)
def Nm.I(c:Nm)(l:List Ex)(w:World):Prop:=c.lo<=w.heap.size/\zr c.R c.w0 w/\c.V w/\∃U,c.E U w/\OwnE c.lo w l U
structure Nm.T(c:Nm)(l:List Ex)(ks:List Value)(y:Ex)(k U V:Value)(xs:List Value)(r:List Tok)(w:World):Prop where
 hlo:c.lo<=w.heap.size
 mv:zr c.R c.w0 w
 v:c.V w
 e:c.E U w
 own:w.ownsRow c.lo 202 5 V (l.length+1) xs
 aX:∀(i:Nat) (e:Ex) (k:Value),l[i]? =some e->ks[i]? =some k->ExsC w (fun b=>(c.lo<=b/\some b≠V.ownBlock)/\b<w.heap.size) e.aX k
 kid:ExsC w (fun b=>(c.lo<=b/\some b≠V.ownBlock)/\b<w.heap.size) y.aX k
 at':At w c.R c.S r
def Nm.E.of{c:Nm}(h:c.E U w)(hb:w'.heap[c.be]? =w.heap[c.be]?):c.E U w':=
 ⟨fun j v hv=>by rw[yp (a:=⟨c.be,0+j,none⟩) hb];exact h.1 j v hv,zl h.2 hb⟩
def Nm.V.of{c:Nm}(h:c.V w)(h1:w'.heap[c.br]? =w.heap[c.br]?)(h2:w'.heap[c.bd]? =w.heap[c.bd]?):c.V w':=
 ⟨by rw[yp (a:=⟨c.br,0,none⟩) h1];exact h.1,by rw[yp (a:=⟨c.bd,0,none⟩) h2];exact h.2⟩
def Nm.E.cells{c:Nm}(h:c.E U w):w.cell? ⟨c.be,3,none⟩=some U/\w.frozen? ⟨c.be,3,none⟩=false:=⟨h.1 3 _ rfl,(h.2 3 (by omega)).2⟩
def Nm.E.store{c:Nm}(h:c.E U w)(V:Value):c.E V (w.setCell ⟨c.be,3,none⟩ V):=by
 constructor
 ·intro j v hv;by_cases hj:j=3
  ·subst hj;have hv':V=v:=by simpa using hv
   subst hv';exact World.cell?_setCell_same _ _ _ (by rw[h.cells.1])
  ·rw[World.cell?_setCell_other _ _ _ _ (by intro e;injection e with e1 e2;omega)];refine h.1 j v ?_;rcases j with _|_|_|_|_|j
   ·exact hv
   ·exact hv
   ·exact hv
   ·exact absurd rfl hj
   ·exact hv
   ·simp at hv
 ·intro j hj;have h1:=h.2 j hj;constructor
  ·by_cases hj:j=3
   ·subst hj;rw[show(⟨c.be,0+3,none⟩:Addr)=⟨c.be,3,none⟩ from rfl,World.cell?_setCell_same _ _ _ (by rw[h.cells.1])];rfl
   ·rw[World.cell?_setCell_other _ _ _ _ (by intro e;injection e with e1 e2;omega)];exact h1.1
  ·rw[World.frozen?_setCell];exact h1.2
def Nm.T.store11{c:Nm}(hc:c.Ok){l:List Ex}{ks:List Value}{y:Ex}{k U V:Value}{r:List Tok}(h:c.T l ks y k U V xs r w):c.T l ks y k V V xs r (w.setCell ⟨c.be,3,none⟩ V):=by
 have ho:∀q,q≠c.be->(w.setCell ⟨c.be,3,none⟩ V).heap[q]? =w.heap[q]?:=fun q hq=>Below.heap_setCell _ _ _ _ hq;have hs:(w.setCell ⟨c.be,3,none⟩ V).heap.size=w.heap.size:=by simp[World.setCell]
 have hkid:∀ {l':List Ex} {q:Value},ExsC w (fun b=>(c.lo<=b/\some b≠V.ownBlock)/\b<w.heap.size) l' q->ExsC (w.setCell ⟨c.be,3,none⟩ V) (fun b=>(c.lo<=b/\some b≠V.ownBlock)/\b<(w.setCell ⟨c.be,3,none⟩ V).heap.size) l' q:=fun h=>
  (h.same fun b hb=>ho b (by have:=hc.el;omega)).more fun b hb=>⟨hb.1,by rw[hs];exact hb.2⟩
 have hb:Below c.be w (w.setCell ⟨c.be,3,none⟩ V):=(Below.refl c.be w).setCell (p:=⟨c.be,3,none⟩) (aR _) V;refine⟨by rw[hs];exact h.hlo,h.mv.low hb hc.e0,h.v.of (ho _ (Ne.symm hc.er)) (ho _ (Ne.symm hc.ed)),h.e.store V,?_,fun i e k a b=>hkid (h.aX i e k a b),hkid h.kid,h.at'.under hb (aS hc.hR hc.e0)⟩;have:=h.own;refine⟨this.1,?_⟩;rcases this.2 with h'|⟨g,cap,cur,rfl,h1,hg,rest⟩
 ·exact .inl h'
 ·exact .inr ⟨g,cap,cur,rfl,h1,by rw[ho g (by have:=hc.el;omega)];exact hg,rest⟩
def Nm.T.store9{c:Nm}(hc:c.Ok){l:List Ex}{ks:List Value}{y:Ex}{k U:Value}{g cap:Nat}{r:List Tok}(h:c.T l ks y k U (.slice (some ⟨g,0,none⟩) (l.length+1) cap) (xs++ys) r w)(hx:xs.length=l.length*5)(zs:List Value)(hz:zs.length=5):w.there g (l.length*5) 5/\c.T l ks y k U (.slice (some ⟨g,0,none⟩) (l.length+1) cap) (xs++zs) r (w.setCells g (l.length*5) zs):=by
 obtain⟨g',cap',e,hg,hgw,hth,_,_,hown⟩:=kV h.own hx hz (by omega);injection e with e1 e2 e3
 injection e1 with e1
 injection e1 with e1
 subst e1 e3;refine⟨hth,?_⟩;obtain⟨hb,ho,hs⟩:=kl g (l.length*5) zs w
 have hkid:∀ {l':List Ex} {q:Value},ExsC w (fun b=>(c.lo<=b/\some b≠some g)/\b<w.heap.size) l' q->ExsC (w.setCells g (l.length*5) zs) (fun b=>(c.lo<=b/\some b≠some g)/\b<(w.setCells g (l.length*5) zs).heap.size) l' q:=fun h=>
  (h.same fun b hb=>ho b (fun e=>hb.1.2 (by rw[e]))).more fun b hb=>⟨hb.1,by rw[hs];exact hb.2⟩
 exact⟨by rw[hs];exact h.hlo,h.mv.low hb (by have:=hc.e0;have:=hc.el;omega),h.v.of (ho _ (by have:=hc.rl;omega)) (ho _ (by have:=hc.dl;omega)),h.e.of (ho _ (by have:=hc.el;omega)),hown,fun i e k a b=>hkid (h.aX i e k a b),hkid h.kid,h.at'.under hb (by have:=hc.hR;have:=hc.e0;have:=hc.el;omega)⟩
def Nm.T.done{c:Nm}{l:List Ex}{ks:List Value}{y:Ex}{k V:Value}{r:List Tok}(hk:ks.length=l.length)(h:c.T l ks y k V V (exsC l ks++exC y k) r w):c.I (l++[y]) w:=by
 refine⟨h.hlo,h.mv,h.v,V,h.e,ks++[k],by simp[hk],by rw[zef l ks hk];simpa using h.own,fun i e q he hq=>?_⟩;rcases xH he with he|⟨e1,rfl⟩<;>rcases xH hq with hq|⟨e2,rfl⟩
 ·exact h.aX i e q he hq
 ·have:=(vm.1 he).1;omega
 ·have:=(vm.1 hq).1;omega
 ·exact h.kid
def Nm.I.moves{c:Nm}(hc:c.Ok){l:List Ex}(h:c.I l w)(hm:zr c.R w w'):c.I l w':=by
 obtain⟨h1,h2,h3,U,h4,h5⟩:=h;have hk:∀b,b<c.lo->b≠c.R->w'.heap[b]? =w.heap[b]?:=fun b hb h0=>hm.block' (by omega) h0;have he:c.be≠c.R:=by have:=hc.hR;have:=hc.e0;omega
 exact⟨aT h1 hm.size,h2.trans hm,h3.of (hk _ hc.rl hc.r0) (hk _ hc.dl hc.d0),U,h4.of (hk _ hc.el he),h5.moves hm (by have:=hc.hR;have:=hc.e0;have:=hc.el;omega)⟩
def xW:List Value:=[.int .i64 0,.int .i64 0,.string ⟨#[]⟩,.slice none 0 0,.int .i64 0]
structure Nm.J(c:Nm)(l:List Ex)(U:Value)(w:World):Prop where
 hlo:c.lo<=w.heap.size
 mv:zr c.R c.w0 w
 v:c.V w
 e:c.E U w
 own:OwnE c.lo w l U
def Nm.J.moves{c:Nm}(hc:c.Ok){l:List Ex}(h:c.J l U w)(hm:zr c.R w w'):c.J l U w':=by
 obtain⟨h1,h2,h3,h4,h5⟩:=h;have hk:∀b,b<c.lo->b≠c.R->w'.heap[b]? =w.heap[b]?:=fun b hb h0=>hm.block' (by omega) h0;have he:c.be≠c.R:=by have:=hc.hR;have:=hc.e0;omega
 exact⟨aT h1 hm.size,h2.trans hm,h3.of (hk _ hc.rl hc.r0) (hk _ hc.dl hc.d0),h4.of (hk _ hc.el he),h5.moves hm (by have:=hc.hR;have:=hc.e0;have:=hc.el;omega)⟩
def zma(lo:Nat)(U:Value)(w:World)(l:List Ex)(k:Value):Prop:=ExsC w (fun b=>(lo<=b/\some b≠U.ownBlock)/\b<w.heap.size) l k
def zma.moves{R lo:Nat}{l:List Ex}{k:Value}(h:zma lo U w l k)(hm:zr R w w')(hR:R<lo):zma lo U w' l k:=
 (ExsC.same h (hm.same fun q hq=>⟨hq.2,by omega⟩)).more fun q hq=>⟨hq.1,aS hq.2 hm.size⟩
def Nm.J.apart{c:Nm}{l l':List Ex}{U k:Value}(h:c.J l U w)(hk:ExsC w' (Rng w.heap.size w'.heap.size) l' k):zma c.lo U w' l' k:=by
 obtain⟨ks,_,ho,_⟩:=h.own;exact zbf hk (fun g hg=>(ho.lt g hg).2) h.hlo
def Nm.T.start{c:Nm}(hc:c.Ok){l:List Ex}{ks:List Value}{y:Ex}{k U V:Value}{r:List Tok}(hJ:c.J l U w)(hkid:∀(i:Nat) (e:Ex) (k:Value),l[i]? =some e->ks[i]? =some k->ExsC w (fun b=>(c.lo<=b/\some b≠U.ownBlock)/\b<w.heap.size) e.aX k)(hown:w.ownsRow c.lo 202 5 U l.length (exsC l ks))
  (hy:zma c.lo U w y.aX k) (ho:w'.ownsRow c.lo 202 5 V (l.length+1) xs) (hg:w.grownBy w' U.ownBlock) (hv:V.ownBlock=U.ownBlock\/∃g,V.ownBlock=some g/\w.heap.size<=g) (ha:At w c.R c.S r):c.T l ks y k U V xs r w':=by
 have hsame:∀ {l':List Ex} {q:Value},ExsC w (fun b=>(c.lo<=b/\some b≠U.ownBlock)/\b<w.heap.size) l' q->ExsC w' (fun b=>(c.lo<=b/\some b≠V.ownBlock)/\b<w'.heap.size) l' q:=fun h=>
  (h.same (fun b hb=>hg.block b hb.2 hb.1.2)).more fun b hb=>⟨⟨hb.1.1,by
   rcases hv with e|⟨g,e,hge⟩
   ·rw[e];exact hb.1.2
   ·rw[e];intro h2;injection h2;omega⟩,aS hb.2 hg.size⟩
 have hlo:=hJ.hlo;have hb:Below c.lo w w':=⟨hg.os,hg.tape,hg.output,hg.size,fun q hq=>hg.block q (by omega) fun e=>by have:=(hown.lt q e.symm).1;omega⟩;have h1:=hc.el;have h2:=hc.e0;have h3:=hc.hR;exact⟨aT hlo hg.size,hJ.mv.low hb (by omega),hJ.v.of (hb.block _ hc.rl) (hb.block _ hc.dl),hJ.e.of (hb.block _ hc.el),ho,fun i e k a b=>hsame (hkid i e k a b),hsame hy,ha.under hb (by omega)⟩
def zr.alloc(R:Nat)(w:World)(o:Obj):zr R w (w.alloc o):=zr.of_below (za w o) (aR _)
def zt6(c:Nm)(hc:c.Ok)(e:Par Ex)(he:xz c.R c.S c.d e)(l:List Ex)(ts:List Tok)(w:World)(hI:c.I l w)(ha:At w c.R c.S ts)(hl:l.length+ts.length<=c.S.all.length):Calls prog 344 #[.pointer (some ⟨c.be,0,none⟩),.pointer (some ⟨c.br,0,none⟩),.pointer (some ⟨c.bd,0,none⟩)] w (GotI c.R c.S (fun v w'=>c.I (l++[v]) w') (fun w'=>zr c.R c.w0 w') (e ts)):=by
 obtain⟨g1,g2,g3,U,g4,g5⟩:=hI;have hU:∃A cp,U=.slice A l.length cp:=by
  obtain⟨ks,_,ho,_⟩:=g5;exact qm ho
 obtain⟨A,cp,rfl⟩:=hU;have hn:l.length<=4096:=by have:=hc.sm;omega
 have hdd:zr c.R w w.drew:=⟨rfl,rfl,rfl,aR _,fun _ _ _=>rfl⟩;have HJ:=aQ ((⟨g1,g2,g3,g4,g5⟩:c.J l (.slice A l.length cp) w).moves hc hdd);have HA:=aQ (ha.below ((Below.refl w.heap.size w).drew) (aR _));have HE:=aQ he;have HC:=aQ hc;have hRlo:c.R<c.lo:=by have:=hc.hR;have:=hc.e0;have:=hc.el;omega
 obtain⟨i0,hi,hz0,hz1,hz2⟩:=info_parts zk7;clear ha hl g1 g2 g3 g4 g5 he hc hdd;go_enter func344,ntmps344
 go_wp2_with fail
 refine wp_region_held_drew (S:=c.V) (by kernel_rfl) HJ.out.v (fun hHeld=>?_);refine aO 0 ?_
 try simp only[Act.put,zzs]
 refine zz8 2 ?v2 rfl (fun _ _ _ h=>h) ?y2 ?r2
 case y2=>(intro w hSw;obtain⟨q1,q2⟩:=hSw;(try dsimp only at hSw);go_simp;(try with_reducible rfl))
 try simp only[Act.put,zzs]
 refine zz8 3 ?v3 rfl (fun _ _ _ h=>h) ?y3 ?r3
 case y3=>(intro w hSw;obtain⟨q1,q2⟩:=hSw;(try dsimp only at hSw);go_simp;(try with_reducible rfl))
 try simp only[Act.put,zzs]
 have K0:=aQ (fun w1 (h:At w1 c.R c.S ts)=>HE.out w1 ts h)
 generalize w.drew=wd at *
 have hR0:c.R<wd.heap.size:=HA.out.lt;refine wpAnyH_ready (rs:=[1,4,6]) (by kernel_rfl) (by simp) ?_;refine zz rfl (fun K hK=>?_) (zz rfl (fun K hK=>?_) (zz rfl (fun K hK=>?_) jO))
 ·have hce:=HJ.out.e.cells.1;go_simp;clear hce;refine hK.out _ _ HJ.out.v (fun hHeld=>?_);clear hK K;refine aO 5 ?_
  try simp only[Act.put,zzs]
  refine ab 4 6 rfl rfl (fun K hK=>?_) fun K hK=>?_
  ·go_simp;refine(K0.out wd HA.out).mono ?_;rintro e' wc2 ⟨hm,⟨y,r,yv,hr,rfl,hq,ha⟩|⟨cc,q,hr,rfl⟩⟩
   ·obtain⟨k,rfl,hk,hk1⟩:=zR hq;obtain⟨Ak,ck,rfl⟩:=zq hk;have J2:=aQ (HJ.out.moves HC.out hm);have A2:=aQ ha;have Y2:=aQ (HJ.out.apart hk);have HR:=aQ hr;clear hm ha hk hq hk1 hr;refine hK.out _ _ J2.out.v (fun hHeld=>?_);clear hK K;refine aa 6 rfl fun K hK=>?_;go_simp;have mz:=zr.alloc c.R wc2 (.cells #[.int .i64 0,.int .i64 0,.string ⟨#[]⟩,.slice none 0 0,.int .i64 0] 202);have J3:=aQ (J2.out.moves HC.out mz);have A3:=aQ (A2.out.below (za wc2 (.cells #[.int .i64 0,.int .i64 0,.string ⟨#[]⟩,.slice none 0 0,.int .i64 0] 202)) (aR _));have Z3:=aQ (ye wc2 (.cells #[.int .i64 0,.int .i64 0,.string ⟨#[]⟩,.slice none 0 0,.int .i64 0] 202));have sz3:wc2.heap.size<(wc2.alloc (.cells #[.int .i64 0,.int .i64 0,.string ⟨#[]⟩,.slice none 0 0,.int .i64 0] 202)).heap.size:=by simp
    have Y3:=aQ (Y2.out.moves mz hRlo);clear mz
    generalize wc2.alloc (.cells #[.int .i64 0,.int .i64 0,.string ⟨#[]⟩,.slice none 0 0,.int .i64 0] 202)=wb3 at *
    refine hK.out _ _ J3.out.v (fun hHeld=>?_);clear hK K;obtain⟨ks,hks,hown,hkid⟩:=J3.out.own;have HO:=aQ hown;have HKd:=aQ hkid;have hxs:(exsC l ks).length=l.length*5:=hown.1;clear hown hkid;have HN:Hid (∀(j:Nat) (u:Value),xW[j]? =some u->wb3.cell? ((Addr.mk (wc2.heap.size) 0 none).add j)=some u):=fun j u hu=>by
     rw[Addr.add_mid];exact zZ (cs:=xW) Z3.out j u hu
    refine aa 7 rfl fun K hK=>?_;rw[if_pos (by rfl)];refine zK _ (.tmp 4) (.tmp 9) 143 rfl c.lo 202 i0 _ 5 64 underlying143 hi hz0 hz1 hz2 rfl (by omega) _ _ _ rfl HO.out ⟨wc2.heap.size,0,none⟩ 1 xW rfl rfl HN.out one5 (by omega) (by unfold maxLen;omega) J3.out.hlo ?_;intro v' w' ho hg hv;have T0:=Nm.T.start HC.out J3.out HKd.out HO.out Y3.out ho hg hv A3.out;obtain⟨g,cap,rfl,_,_,_,hcap,hcapm,_⟩:=kV (zs:=xW) T0.own hxs rfl (by omega);have HT:=aQ T0;clear T0 ho hg hv HO HKd HN;refine hK.out _ _ HT.out.v (fun hHeld=>?_);clear hK K;simp only[Act.put,zz4,zz5,zz6];have hidx:(l.length:Int)<(l.length:Int)+1:=by omega
    refine aO 8 ?_
    try simp only[Act.put,zzs]
    refine aO 10 ?_
    try simp only[Act.put,zzs]
    refine ab 9 11 rfl rfl (fun K hK=>?_) fun K hK=>?_
    ·rw[if_pos (by rfl)];obtain⟨hth,T9⟩:=HT.out.store9 HC.out hxs (exC y (.slice Ak y.aX.length ck)) rfl;refine wp_store_mid 202 (.tmp 11) (.tmp 7) rfl g (l.length*5) (exC y (.slice Ak y.aX.length ck)).toArray rfl rfl hth zv (by simpa[exC]using one5) ?_;refine hK.out _ _ T9.v (fun hHeld=>?_);clear hK K hth;have HT9:=aQ T9;clear T9;refine aa 11 rfl fun K hK=>?_;obtain⟨hce,hcf⟩:=HT9.out.e.cells;have T11:=HT9.out.store11 HC.out;go_simp;refine hK.out _ _ T11.v (fun hHeld=>?_);clear hK K hce hcf;have HT91:=aQ T11;clear T11;refine aJ (by kernel_rfl) ?_ _;go_wp2
     first|go_end0|refine vS (results_none rfl _ _ _) rfl ?_
     exact .inl ⟨y,r,HR.out,rfl,HT91.out.done hks,HT91.out.at'⟩
    ·obtain⟨hce,hcf⟩:=HT.out.e.cells;have T11:=HT.out.store11 HC.out;go_simp;refine hK.out _ _ T11.v (fun hHeld=>?_);clear hK K hce hcf;have HT1:=aQ T11;clear T11;refine aa 9 rfl fun K hK=>?_;rw[if_pos (by rfl)];obtain⟨hth,T9⟩:=HT1.out.store9 HC.out hxs (exC y (.slice Ak y.aX.length ck)) rfl;refine wp_store_mid 202 (.tmp 11) (.tmp 7) rfl g (l.length*5) (exC y (.slice Ak y.aX.length ck)).toArray rfl rfl hth zv (by simpa[exC]using one5) ?_;refine hK.out _ _ T9.v (fun hHeld=>?_);clear hK K hth;have HT19:=aQ T9;clear T9;refine aJ (by kernel_rfl) ?_ _;go_wp2
     first|go_end0|refine vS (results_none rfl _ _ _) rfl ?_
     exact .inl ⟨y,r,HR.out,rfl,HT19.out.done hks,HT19.out.at'⟩
   ·exact⟨rfl,.inr ⟨cc,q,hr,rfl,HJ.out.mv.trans hm⟩⟩
  ·go_simp;have mz:=zr.alloc c.R wd (.cells #[.int .i64 0,.int .i64 0,.string ⟨#[]⟩,.slice none 0 0,.int .i64 0] 202);have J5:=aQ (HJ.out.moves HC.out mz);have A5:=aQ (HA.out.below (za wd (.cells #[.int .i64 0,.int .i64 0,.string ⟨#[]⟩,.slice none 0 0,.int .i64 0] 202)) (aR _));have Z5:=aQ (ye wd (.cells #[.int .i64 0,.int .i64 0,.string ⟨#[]⟩,.slice none 0 0,.int .i64 0] 202));have sz5:wd.heap.size<(wd.alloc (.cells #[.int .i64 0,.int .i64 0,.string ⟨#[]⟩,.slice none 0 0,.int .i64 0] 202)).heap.size:=by simp
   clear mz
   generalize wd.alloc (.cells #[.int .i64 0,.int .i64 0,.string ⟨#[]⟩,.slice none 0 0,.int .i64 0] 202)=wb5 at *
   refine hK.out _ _ J5.out.v (fun hHeld=>?_);clear hK K;refine aa 4 rfl fun K hK=>?_;go_simp;refine(K0.out wb5 A5.out).mono ?_;rintro e' wc6 ⟨hm,⟨y,r,yv,hr,rfl,hq,ha⟩|⟨cc,q,hr,rfl⟩⟩
   ·obtain⟨k,rfl,hk,hk1⟩:=zR hq;obtain⟨Ak,ck,rfl⟩:=zq hk;have J6:=aQ (J5.out.moves HC.out hm);have A6:=aQ ha;have Y6:=aQ (J5.out.apart hk);have HR:=aQ hr;have Z6:=aQ ((hm.block' (k:=wd.heap.size) sz5 (by have:=hR0;omega)).trans Z5.out);have zs6:wd.heap.size<wc6.heap.size:=aS sz5 hm.size;clear hm ha hk hq hk1 hr;refine hK.out _ _ J6.out.v (fun hHeld=>?_);clear hK K;obtain⟨ks,hks,hown,hkid⟩:=J6.out.own;have HO:=aQ hown;have HKd:=aQ hkid;have hxs:(exsC l ks).length=l.length*5:=hown.1;clear hown hkid;have HN:Hid (∀(j:Nat) (u:Value),xW[j]? =some u->wc6.cell? ((Addr.mk (wd.heap.size) 0 none).add j)=some u):=fun j u hu=>by
     rw[Addr.add_mid];exact zZ (cs:=xW) Z6.out j u hu
    refine aa 7 rfl fun K hK=>?_;rw[if_pos (by rfl)];refine zK _ (.tmp 4) (.tmp 9) 143 rfl c.lo 202 i0 _ 5 64 underlying143 hi hz0 hz1 hz2 rfl (by omega) _ _ _ rfl HO.out ⟨wd.heap.size,0,none⟩ 1 xW rfl rfl HN.out one5 (by omega) (by unfold maxLen;omega) J6.out.hlo ?_;intro v' w' ho hg hv;have T0:=Nm.T.start HC.out J6.out HKd.out HO.out Y6.out ho hg hv A6.out;obtain⟨g,cap,rfl,_,_,_,hcap,hcapm,_⟩:=kV (zs:=xW) T0.own hxs rfl (by omega);have HT:=aQ T0;clear T0 ho hg hv HO HKd HN;refine hK.out _ _ HT.out.v (fun hHeld=>?_);clear hK K;simp only[Act.put,zz4,zz5,zz6];have hidx:(l.length:Int)<(l.length:Int)+1:=by omega
    refine aO 8 ?_
    try simp only[Act.put,zzs]
    refine aO 10 ?_
    try simp only[Act.put,zzs]
    refine ab 9 11 rfl rfl (fun K hK=>?_) fun K hK=>?_
    ·rw[if_pos (by rfl)];obtain⟨hth,T9⟩:=HT.out.store9 HC.out hxs (exC y (.slice Ak y.aX.length ck)) rfl;refine wp_store_mid 202 (.tmp 11) (.tmp 7) rfl g (l.length*5) (exC y (.slice Ak y.aX.length ck)).toArray rfl rfl hth zv (by simpa[exC]using one5) ?_;refine hK.out _ _ T9.v (fun hHeld=>?_);clear hK K hth;have HT9:=aQ T9;clear T9;refine aa 11 rfl fun K hK=>?_;obtain⟨hce,hcf⟩:=HT9.out.e.cells;have T11:=HT9.out.store11 HC.out;go_simp;refine hK.out _ _ T11.v (fun hHeld=>?_);clear hK K hce hcf;have HT91:=aQ T11;clear T11;refine aJ (by kernel_rfl) ?_ _;go_wp2
     first|go_end0|refine vS (results_none rfl _ _ _) rfl ?_
     exact .inl ⟨y,r,HR.out,rfl,HT91.out.done hks,HT91.out.at'⟩
    ·obtain⟨hce,hcf⟩:=HT.out.e.cells;have T11:=HT.out.store11 HC.out;go_simp;refine hK.out _ _ T11.v (fun hHeld=>?_);clear hK K hce hcf;have HT1:=aQ T11;clear T11;refine aa 9 rfl fun K hK=>?_;rw[if_pos (by rfl)];obtain⟨hth,T9⟩:=HT1.out.store9 HC.out hxs (exC y (.slice Ak y.aX.length ck)) rfl;refine wp_store_mid 202 (.tmp 11) (.tmp 7) rfl g (l.length*5) (exC y (.slice Ak y.aX.length ck)).toArray rfl rfl hth zv (by simpa[exC]using one5) ?_;refine hK.out _ _ T9.v (fun hHeld=>?_);clear hK K hth;have HT19:=aQ T9;clear T9;refine aJ (by kernel_rfl) ?_ _;go_wp2
     first|go_end0|refine vS (results_none rfl _ _ _) rfl ?_
     exact .inl ⟨y,r,HR.out,rfl,HT19.out.done hks,HT19.out.at'⟩
   ·exact⟨rfl,.inr ⟨cc,q,hr,rfl,J5.out.mv.trans hm⟩⟩
 ·go_simp;refine(K0.out wd HA.out).mono ?_;rintro e' wc8 ⟨hm,⟨y,r,yv,hr,rfl,hq,ha⟩|⟨cc,q,hr,rfl⟩⟩
  ·obtain⟨k,rfl,hk,hk1⟩:=zR hq;obtain⟨Ak,ck,rfl⟩:=zq hk;have J8:=aQ (HJ.out.moves HC.out hm);have A8:=aQ ha;have Y8:=aQ (HJ.out.apart hk);have HR:=aQ hr;clear hm ha hk hq hk1 hr;refine hK.out _ _ J8.out.v (fun hHeld=>?_);clear hK K;refine ab 1 6 rfl rfl (fun K hK=>?_) fun K hK=>?_
   ·have hce:=J8.out.e.cells.1;go_simp;clear hce;refine hK.out _ _ J8.out.v (fun hHeld=>?_);clear hK K;refine aO 5 ?_
    try simp only[Act.put,zzs]
    refine aa 6 rfl fun K hK=>?_;go_simp;have mz:=zr.alloc c.R wc8 (.cells #[.int .i64 0,.int .i64 0,.string ⟨#[]⟩,.slice none 0 0,.int .i64 0] 202);have J10:=aQ (J8.out.moves HC.out mz);have A10:=aQ (A8.out.below (za wc8 (.cells #[.int .i64 0,.int .i64 0,.string ⟨#[]⟩,.slice none 0 0,.int .i64 0] 202)) (aR _));have Z10:=aQ (ye wc8 (.cells #[.int .i64 0,.int .i64 0,.string ⟨#[]⟩,.slice none 0 0,.int .i64 0] 202));have sz10:wc8.heap.size<(wc8.alloc (.cells #[.int .i64 0,.int .i64 0,.string ⟨#[]⟩,.slice none 0 0,.int .i64 0] 202)).heap.size:=by simp
    have Y10:=aQ (Y8.out.moves mz hRlo);clear mz
    generalize wc8.alloc (.cells #[.int .i64 0,.int .i64 0,.string ⟨#[]⟩,.slice none 0 0,.int .i64 0] 202)=wb10 at *
    refine hK.out _ _ J10.out.v (fun hHeld=>?_);clear hK K;obtain⟨ks,hks,hown,hkid⟩:=J10.out.own;have HO:=aQ hown;have HKd:=aQ hkid;have hxs:(exsC l ks).length=l.length*5:=hown.1;clear hown hkid;have HN:Hid (∀(j:Nat) (u:Value),xW[j]? =some u->wb10.cell? ((Addr.mk (wc8.heap.size) 0 none).add j)=some u):=fun j u hu=>by
     rw[Addr.add_mid];exact zZ (cs:=xW) Z10.out j u hu
    refine aa 7 rfl fun K hK=>?_;rw[if_pos (by rfl)];refine zK _ (.tmp 4) (.tmp 9) 143 rfl c.lo 202 i0 _ 5 64 underlying143 hi hz0 hz1 hz2 rfl (by omega) _ _ _ rfl HO.out ⟨wc8.heap.size,0,none⟩ 1 xW rfl rfl HN.out one5 (by omega) (by unfold maxLen;omega) J10.out.hlo ?_;intro v' w' ho hg hv;have T0:=Nm.T.start HC.out J10.out HKd.out HO.out Y10.out ho hg hv A10.out;obtain⟨g,cap,rfl,_,_,_,hcap,hcapm,_⟩:=kV (zs:=xW) T0.own hxs rfl (by omega);have HT:=aQ T0;clear T0 ho hg hv HO HKd HN;refine hK.out _ _ HT.out.v (fun hHeld=>?_);clear hK K;simp only[Act.put,zz4,zz5,zz6];have hidx:(l.length:Int)<(l.length:Int)+1:=by omega
    refine aO 8 ?_
    try simp only[Act.put,zzs]
    refine aO 10 ?_
    try simp only[Act.put,zzs]
    refine ab 9 11 rfl rfl (fun K hK=>?_) fun K hK=>?_
    ·rw[if_pos (by rfl)];obtain⟨hth,T9⟩:=HT.out.store9 HC.out hxs (exC y (.slice Ak y.aX.length ck)) rfl;refine wp_store_mid 202 (.tmp 11) (.tmp 7) rfl g (l.length*5) (exC y (.slice Ak y.aX.length ck)).toArray rfl rfl hth zv (by simpa[exC]using one5) ?_;refine hK.out _ _ T9.v (fun hHeld=>?_);clear hK K hth;have HT9:=aQ T9;clear T9;refine aa 11 rfl fun K hK=>?_;obtain⟨hce,hcf⟩:=HT9.out.e.cells;have T11:=HT9.out.store11 HC.out;go_simp;refine hK.out _ _ T11.v (fun hHeld=>?_);clear hK K hce hcf;have HT91:=aQ T11;clear T11;refine aJ (by kernel_rfl) ?_ _;go_wp2
     first|go_end0|refine vS (results_none rfl _ _ _) rfl ?_
     exact .inl ⟨y,r,HR.out,rfl,HT91.out.done hks,HT91.out.at'⟩
    ·obtain⟨hce,hcf⟩:=HT.out.e.cells;have T11:=HT.out.store11 HC.out;go_simp;refine hK.out _ _ T11.v (fun hHeld=>?_);clear hK K hce hcf;have HT1:=aQ T11;clear T11;refine aa 9 rfl fun K hK=>?_;rw[if_pos (by rfl)];obtain⟨hth,T9⟩:=HT1.out.store9 HC.out hxs (exC y (.slice Ak y.aX.length ck)) rfl;refine wp_store_mid 202 (.tmp 11) (.tmp 7) rfl g (l.length*5) (exC y (.slice Ak y.aX.length ck)).toArray rfl rfl hth zv (by simpa[exC]using one5) ?_;refine hK.out _ _ T9.v (fun hHeld=>?_);clear hK K hth;have HT19:=aQ T9;clear T9;refine aJ (by kernel_rfl) ?_ _;go_wp2
     first|go_end0|refine vS (results_none rfl _ _ _) rfl ?_
     exact .inl ⟨y,r,HR.out,rfl,HT19.out.done hks,HT19.out.at'⟩
   ·go_simp;have mz:=zr.alloc c.R wc8 (.cells #[.int .i64 0,.int .i64 0,.string ⟨#[]⟩,.slice none 0 0,.int .i64 0] 202);have J12:=aQ (J8.out.moves HC.out mz);have A12:=aQ (A8.out.below (za wc8 (.cells #[.int .i64 0,.int .i64 0,.string ⟨#[]⟩,.slice none 0 0,.int .i64 0] 202)) (aR _));have Z12:=aQ (ye wc8 (.cells #[.int .i64 0,.int .i64 0,.string ⟨#[]⟩,.slice none 0 0,.int .i64 0] 202));have sz12:wc8.heap.size<(wc8.alloc (.cells #[.int .i64 0,.int .i64 0,.string ⟨#[]⟩,.slice none 0 0,.int .i64 0] 202)).heap.size:=by simp
    have Y12:=aQ (Y8.out.moves mz hRlo);clear mz
    generalize wc8.alloc (.cells #[.int .i64 0,.int .i64 0,.string ⟨#[]⟩,.slice none 0 0,.int .i64 0] 202)=wb12 at *
    refine hK.out _ _ J12.out.v (fun hHeld=>?_);clear hK K;refine aa 1 rfl fun K hK=>?_;have hce:=J12.out.e.cells.1;go_simp;clear hce;refine hK.out _ _ J12.out.v (fun hHeld=>?_);clear hK K;refine aO 5 ?_
    try simp only[Act.put,zzs]
    obtain⟨ks,hks,hown,hkid⟩:=J12.out.own;have HO:=aQ hown;have HKd:=aQ hkid;have hxs:(exsC l ks).length=l.length*5:=hown.1;clear hown hkid;have HN:Hid (∀(j:Nat) (u:Value),xW[j]? =some u->wb12.cell? ((Addr.mk (wc8.heap.size) 0 none).add j)=some u):=fun j u hu=>by
     rw[Addr.add_mid];exact zZ (cs:=xW) Z12.out j u hu
    refine aa 7 rfl fun K hK=>?_;rw[if_pos (by rfl)];refine zK _ (.tmp 4) (.tmp 9) 143 rfl c.lo 202 i0 _ 5 64 underlying143 hi hz0 hz1 hz2 rfl (by omega) _ _ _ rfl HO.out ⟨wc8.heap.size,0,none⟩ 1 xW rfl rfl HN.out one5 (by omega) (by unfold maxLen;omega) J12.out.hlo ?_;intro v' w' ho hg hv;have T0:=Nm.T.start HC.out J12.out HKd.out HO.out Y12.out ho hg hv A12.out;obtain⟨g,cap,rfl,_,_,_,hcap,hcapm,_⟩:=kV (zs:=xW) T0.own hxs rfl (by omega);have HT:=aQ T0;clear T0 ho hg hv HO HKd HN;refine hK.out _ _ HT.out.v (fun hHeld=>?_);clear hK K;simp only[Act.put,zz4,zz5,zz6];have hidx:(l.length:Int)<(l.length:Int)+1:=by omega
    refine aO 8 ?_
    try simp only[Act.put,zzs]
    refine aO 10 ?_
    try simp only[Act.put,zzs]
    refine ab 9 11 rfl rfl (fun K hK=>?_) fun K hK=>?_
    ·rw[if_pos (by rfl)];obtain⟨hth,T9⟩:=HT.out.store9 HC.out hxs (exC y (.slice Ak y.aX.length ck)) rfl;refine wp_store_mid 202 (.tmp 11) (.tmp 7) rfl g (l.length*5) (exC y (.slice Ak y.aX.length ck)).toArray rfl rfl hth zv (by simpa[exC]using one5) ?_;refine hK.out _ _ T9.v (fun hHeld=>?_);clear hK K hth;have HT9:=aQ T9;clear T9;refine aa 11 rfl fun K hK=>?_;obtain⟨hce,hcf⟩:=HT9.out.e.cells;have T11:=HT9.out.store11 HC.out;go_simp;refine hK.out _ _ T11.v (fun hHeld=>?_);clear hK K hce hcf;have HT91:=aQ T11;clear T11;refine aJ (by kernel_rfl) ?_ _;go_wp2
     first|go_end0|refine vS (results_none rfl _ _ _) rfl ?_
     exact .inl ⟨y,r,HR.out,rfl,HT91.out.done hks,HT91.out.at'⟩
    ·obtain⟨hce,hcf⟩:=HT.out.e.cells;have T11:=HT.out.store11 HC.out;go_simp;refine hK.out _ _ T11.v (fun hHeld=>?_);clear hK K hce hcf;have HT1:=aQ T11;clear T11;refine aa 9 rfl fun K hK=>?_;rw[if_pos (by rfl)];obtain⟨hth,T9⟩:=HT1.out.store9 HC.out hxs (exC y (.slice Ak y.aX.length ck)) rfl;refine wp_store_mid 202 (.tmp 11) (.tmp 7) rfl g (l.length*5) (exC y (.slice Ak y.aX.length ck)).toArray rfl rfl hth zv (by simpa[exC]using one5) ?_;refine hK.out _ _ T9.v (fun hHeld=>?_);clear hK K hth;have HT19:=aQ T9;clear T9;refine aJ (by kernel_rfl) ?_ _;go_wp2
     first|go_end0|refine vS (results_none rfl _ _ _) rfl ?_
     exact .inl ⟨y,r,HR.out,rfl,HT19.out.done hks,HT19.out.at'⟩
  ·exact⟨rfl,.inr ⟨cc,q,hr,rfl,HJ.out.mv.trans hm⟩⟩
 ·go_simp;have mz:=zr.alloc c.R wd (.cells #[.int .i64 0,.int .i64 0,.string ⟨#[]⟩,.slice none 0 0,.int .i64 0] 202);have J15:=aQ (HJ.out.moves HC.out mz);have A15:=aQ (HA.out.below (za wd (.cells #[.int .i64 0,.int .i64 0,.string ⟨#[]⟩,.slice none 0 0,.int .i64 0] 202)) (aR _));have Z15:=aQ (ye wd (.cells #[.int .i64 0,.int .i64 0,.string ⟨#[]⟩,.slice none 0 0,.int .i64 0] 202));have sz15:wd.heap.size<(wd.alloc (.cells #[.int .i64 0,.int .i64 0,.string ⟨#[]⟩,.slice none 0 0,.int .i64 0] 202)).heap.size:=by simp
  clear mz
  generalize wd.alloc (.cells #[.int .i64 0,.int .i64 0,.string ⟨#[]⟩,.slice none 0 0,.int .i64 0] 202)=wb15 at *
  refine hK.out _ _ J15.out.v (fun hHeld=>?_);clear hK K;refine ab 1 4 rfl rfl (fun K hK=>?_) fun K hK=>?_
  ·have hce:=J15.out.e.cells.1;go_simp;clear hce;refine hK.out _ _ J15.out.v (fun hHeld=>?_);clear hK K;refine aO 5 ?_
   try simp only[Act.put,zzs]
   refine aa 4 rfl fun K hK=>?_;go_simp;refine(K0.out wb15 A15.out).mono ?_;rintro e' wc17 ⟨hm,⟨y,r,yv,hr,rfl,hq,ha⟩|⟨cc,q,hr,rfl⟩⟩
   ·obtain⟨k,rfl,hk,hk1⟩:=zR hq;obtain⟨Ak,ck,rfl⟩:=zq hk;have J17:=aQ (J15.out.moves HC.out hm);have A17:=aQ ha;have Y17:=aQ (J15.out.apart hk);have HR:=aQ hr;have Z17:=aQ ((hm.block' (k:=wd.heap.size) sz15 (by have:=hR0;omega)).trans Z15.out);have zs17:wd.heap.size<wc17.heap.size:=aS sz15 hm.size;clear hm ha hk hq hk1 hr;refine hK.out _ _ J17.out.v (fun hHeld=>?_);clear hK K;obtain⟨ks,hks,hown,hkid⟩:=J17.out.own;have HO:=aQ hown;have HKd:=aQ hkid;have hxs:(exsC l ks).length=l.length*5:=hown.1;clear hown hkid;have HN:Hid (∀(j:Nat) (u:Value),xW[j]? =some u->wc17.cell? ((Addr.mk (wd.heap.size) 0 none).add j)=some u):=fun j u hu=>by
     rw[Addr.add_mid];exact zZ (cs:=xW) Z17.out j u hu
    refine aa 7 rfl fun K hK=>?_;rw[if_pos (by rfl)];refine zK _ (.tmp 4) (.tmp 9) 143 rfl c.lo 202 i0 _ 5 64 underlying143 hi hz0 hz1 hz2 rfl (by omega) _ _ _ rfl HO.out ⟨wd.heap.size,0,none⟩ 1 xW rfl rfl HN.out one5 (by omega) (by unfold maxLen;omega) J17.out.hlo ?_;intro v' w' ho hg hv;have T0:=Nm.T.start HC.out J17.out HKd.out HO.out Y17.out ho hg hv A17.out;obtain⟨g,cap,rfl,_,_,_,hcap,hcapm,_⟩:=kV (zs:=xW) T0.own hxs rfl (by omega);have HT:=aQ T0;clear T0 ho hg hv HO HKd HN;refine hK.out _ _ HT.out.v (fun hHeld=>?_);clear hK K;simp only[Act.put,zz4,zz5,zz6];have hidx:(l.length:Int)<(l.length:Int)+1:=by omega
    refine aO 8 ?_
    try simp only[Act.put,zzs]
    refine aO 10 ?_
    try simp only[Act.put,zzs]
    refine ab 9 11 rfl rfl (fun K hK=>?_) fun K hK=>?_
    ·rw[if_pos (by rfl)];obtain⟨hth,T9⟩:=HT.out.store9 HC.out hxs (exC y (.slice Ak y.aX.length ck)) rfl;refine wp_store_mid 202 (.tmp 11) (.tmp 7) rfl g (l.length*5) (exC y (.slice Ak y.aX.length ck)).toArray rfl rfl hth zv (by simpa[exC]using one5) ?_;refine hK.out _ _ T9.v (fun hHeld=>?_);clear hK K hth;have HT9:=aQ T9;clear T9;refine aa 11 rfl fun K hK=>?_;obtain⟨hce,hcf⟩:=HT9.out.e.cells;have T11:=HT9.out.store11 HC.out;go_simp;refine hK.out _ _ T11.v (fun hHeld=>?_);clear hK K hce hcf;have HT91:=aQ T11;clear T11;refine aJ (by kernel_rfl) ?_ _;go_wp2
     first|go_end0|refine vS (results_none rfl _ _ _) rfl ?_
     exact .inl ⟨y,r,HR.out,rfl,HT91.out.done hks,HT91.out.at'⟩
    ·obtain⟨hce,hcf⟩:=HT.out.e.cells;have T11:=HT.out.store11 HC.out;go_simp;refine hK.out _ _ T11.v (fun hHeld=>?_);clear hK K hce hcf;have HT1:=aQ T11;clear T11;refine aa 9 rfl fun K hK=>?_;rw[if_pos (by rfl)];obtain⟨hth,T9⟩:=HT1.out.store9 HC.out hxs (exC y (.slice Ak y.aX.length ck)) rfl;refine wp_store_mid 202 (.tmp 11) (.tmp 7) rfl g (l.length*5) (exC y (.slice Ak y.aX.length ck)).toArray rfl rfl hth zv (by simpa[exC]using one5) ?_;refine hK.out _ _ T9.v (fun hHeld=>?_);clear hK K hth;have HT19:=aQ T9;clear T9;refine aJ (by kernel_rfl) ?_ _;go_wp2
     first|go_end0|refine vS (results_none rfl _ _ _) rfl ?_
     exact .inl ⟨y,r,HR.out,rfl,HT19.out.done hks,HT19.out.at'⟩
   ·exact⟨rfl,.inr ⟨cc,q,hr,rfl,J15.out.mv.trans hm⟩⟩
  ·go_simp;refine(K0.out wb15 A15.out).mono ?_;rintro e' wc19 ⟨hm,⟨y,r,yv,hr,rfl,hq,ha⟩|⟨cc,q,hr,rfl⟩⟩
   ·obtain⟨k,rfl,hk,hk1⟩:=zR hq;obtain⟨Ak,ck,rfl⟩:=zq hk;have J19:=aQ (J15.out.moves HC.out hm);have A19:=aQ ha;have Y19:=aQ (J15.out.apart hk);have HR:=aQ hr;have Z19:=aQ ((hm.block' (k:=wd.heap.size) sz15 (by have:=hR0;omega)).trans Z15.out);have zs19:wd.heap.size<wc19.heap.size:=aS sz15 hm.size;clear hm ha hk hq hk1 hr;refine hK.out _ _ J19.out.v (fun hHeld=>?_);clear hK K;refine aa 1 rfl fun K hK=>?_;have hce:=J19.out.e.cells.1;go_simp;clear hce;refine hK.out _ _ J19.out.v (fun hHeld=>?_);clear hK K;refine aO 5 ?_
    try simp only[Act.put,zzs]
    obtain⟨ks,hks,hown,hkid⟩:=J19.out.own;have HO:=aQ hown;have HKd:=aQ hkid;have hxs:(exsC l ks).length=l.length*5:=hown.1;clear hown hkid;have HN:Hid (∀(j:Nat) (u:Value),xW[j]? =some u->wc19.cell? ((Addr.mk (wd.heap.size) 0 none).add j)=some u):=fun j u hu=>by
     rw[Addr.add_mid];exact zZ (cs:=xW) Z19.out j u hu
    refine aa 7 rfl fun K hK=>?_;rw[if_pos (by rfl)];refine zK _ (.tmp 4) (.tmp 9) 143 rfl c.lo 202 i0 _ 5 64 underlying143 hi hz0 hz1 hz2 rfl (by omega) _ _ _ rfl HO.out ⟨wd.heap.size,0,none⟩ 1 xW rfl rfl HN.out one5 (by omega) (by unfold maxLen;omega) J19.out.hlo ?_;intro v' w' ho hg hv;have T0:=Nm.T.start HC.out J19.out HKd.out HO.out Y19.out ho hg hv A19.out;obtain⟨g,cap,rfl,_,_,_,hcap,hcapm,_⟩:=kV (zs:=xW) T0.own hxs rfl (by omega);have HT:=aQ T0;clear T0 ho hg hv HO HKd HN;refine hK.out _ _ HT.out.v (fun hHeld=>?_);clear hK K;simp only[Act.put,zz4,zz5,zz6];have hidx:(l.length:Int)<(l.length:Int)+1:=by omega
    refine aO 8 ?_
    try simp only[Act.put,zzs]
    refine aO 10 ?_
    try simp only[Act.put,zzs]
    refine ab 9 11 rfl rfl (fun K hK=>?_) fun K hK=>?_
    ·rw[if_pos (by rfl)];obtain⟨hth,T9⟩:=HT.out.store9 HC.out hxs (exC y (.slice Ak y.aX.length ck)) rfl;refine wp_store_mid 202 (.tmp 11) (.tmp 7) rfl g (l.length*5) (exC y (.slice Ak y.aX.length ck)).toArray rfl rfl hth zv (by simpa[exC]using one5) ?_;refine hK.out _ _ T9.v (fun hHeld=>?_);clear hK K hth;have HT9:=aQ T9;clear T9;refine aa 11 rfl fun K hK=>?_;obtain⟨hce,hcf⟩:=HT9.out.e.cells;have T11:=HT9.out.store11 HC.out;go_simp;refine hK.out _ _ T11.v (fun hHeld=>?_);clear hK K hce hcf;have HT91:=aQ T11;clear T11;refine aJ (by kernel_rfl) ?_ _;go_wp2
     first|go_end0|refine vS (results_none rfl _ _ _) rfl ?_
     exact .inl ⟨y,r,HR.out,rfl,HT91.out.done hks,HT91.out.at'⟩
    ·obtain⟨hce,hcf⟩:=HT.out.e.cells;have T11:=HT.out.store11 HC.out;go_simp;refine hK.out _ _ T11.v (fun hHeld=>?_);clear hK K hce hcf;have HT1:=aQ T11;clear T11;refine aa 9 rfl fun K hK=>?_;rw[if_pos (by rfl)];obtain⟨hth,T9⟩:=HT1.out.store9 HC.out hxs (exC y (.slice Ak y.aX.length ck)) rfl;refine wp_store_mid 202 (.tmp 11) (.tmp 7) rfl g (l.length*5) (exC y (.slice Ak y.aX.length ck)).toArray rfl rfl hth zv (by simpa[exC]using one5) ?_;refine hK.out _ _ T9.v (fun hHeld=>?_);clear hK K hth;have HT19:=aQ T9;clear T9;refine aJ (by kernel_rfl) ?_ _;go_wp2
     first|go_end0|refine vS (results_none rfl _ _ _) rfl ?_
     exact .inl ⟨y,r,HR.out,rfl,HT19.out.done hks,HT19.out.at'⟩
   ·exact⟨rfl,.inr ⟨cc,q,hr,rfl,J15.out.mv.trans hm⟩⟩
end
end Go.Proofs.YtcilgkdnjgmogaaGreatDoor
