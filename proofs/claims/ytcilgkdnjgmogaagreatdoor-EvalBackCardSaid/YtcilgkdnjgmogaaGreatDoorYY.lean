/- A part of the proof. -/
import Derived.Test.YtcilgkdnjgmogaaGreatDoorYX
namespace Go.Proofs.YtcilgkdnjgmogaaGreatDoor
open Go.Proofs.Tryz
set_option maxRecDepth 100000
set_option maxHeartbeats 12800000
set_option linter.all false
variable {D D':Nat->Prop} {R:Nat} {s:List Nat} {u:Value} {w w':World}
section
section
open Go.RowKit
def qj(w:World)(b:Nat)(cs:List Value):Prop:=w.rangeAt b 0 cs/\w.there b 0 cs.length
def qj.of{b:Nat}{cs:List Value}(h:qj w b cs)(hb:w'.heap[b]? =w.heap[b]?):qj w' b cs:=
 ⟨fun j v hv=>by rw[yp (a:=⟨b,0+j,none⟩) hb];exact h.1 j v hv,zl h.2 hb⟩
def qj.block{b:Nat}{cs:List Value}{T:TypeId}(h:w.heap[b]? =some (.cells cs.toArray T (0,0))):qj w b cs:=⟨zZ h,zD h rfl⟩
def qj.cell{b:Nat}{cs:List Value}(h:qj w b cs)(j:Nat)(v:Value)(hv:cs[j]? =some v):w.cell? ⟨b,j,none⟩=some v/\w.frozen? ⟨b,j,none⟩=false:=by
 have h1:=h.1 j v hv;have h2:=(h.2 j (vm.1 hv).1).2;rw[Nat.zero_add]at h1 h2;exact⟨h1,h2⟩
def qj.set{b:Nat}{cs:List Value}(h:qj w b cs)(i:Nat)(u:Value):qj (w.setCell ⟨b,i,none⟩ u) b (cs.set i u):=by
 constructor
 ·intro j v hv;rw[List.getElem?_set]at hv
  split at hv
  ·rename_i hij
   subst hij
   split at hv
   ·rename_i hlt
    injection hv with hv
    subst hv;rw[Nat.zero_add];obtain⟨q,hq⟩:=Option.isSome_iff_exists.1 (h.2 i hlt).1;rw[Nat.zero_add]at hq;exact World.cell?_setCell_same _ _ _ (by rw[hq])
   ·cases hv
  ·rename_i hij
   rw[World.cell?_setCell_other _ _ _ _ (by intro e;injection e with e1 e2;omega)];exact h.1 j v hv
 ·intro j hj;have hj':j<cs.length:=by simpa using hj
  have h1:=h.2 j hj';constructor
  ·by_cases hij:i=j
   ·subst hij;rw[Nat.zero_add]at h1⊢;obtain⟨q,hq⟩:=Option.isSome_iff_exists.1 h1.1;rw[World.cell?_setCell_same _ _ _ (by rw[hq])];rfl
   ·rw[World.cell?_setCell_other _ _ _ _ (by intro e;injection e with e1 e2;omega)];exact h1.1
  ·rw[World.frozen?_setCell];exact h1.2
def zo{b i:Nat}:∀k,k≠b->(w.setCell ⟨b,i,none⟩ u).heap[k]? =w.heap[k]?:=fun _ hk=>Below.heap_setCell _ _ _ _ hk
def zB{b i:Nat}:(w.setCell ⟨b,i,none⟩ u).heap.size=w.heap.size:=by simp[World.setCell]
def qz{b i:Nat}:Below b w (w.setCell ⟨b,i,none⟩ u):=(Below.refl b w).setCell (p:=⟨b,i,none⟩) (aR _) u
def qj.lt{b:Nat}{cs:List Value}(h:qj w b cs)(hn:0<cs.length):b<w.heap.size:=zb8 h.2 hn
def zad(R:Nat)(S:Src)(ts:List Tok)(w:World)(ha:At w R S ts):Calls prog 114 #[.pointer (some ⟨R,0,none⟩)] w (Got R S QN w (j7 S.z ts)):=by
 have K:=aQ (xA R S ts [105,110,116] ⟨#[105,110,116]⟩ w ha (by kernel_rfl) (by unfold Byn;decide));have HW:Hid (j7 S.z ts=if zC S.z [[105,110,116]] ts then .ok 1 ts.tail else if zC S.z [[98,111,111,108]] ts then .ok 2 ts.tail else(qt S.z [98,121,116,101,115] ts).bind fun _ r=>.ok 3 r):=rfl;clear ha
 generalize j7 S.z ts=m at *
 go_enter func114,ntmps114;cases hs:zC S.z [[105,110,116]] ts with
 | true=>
  rw[hs]at K HW;have HW2:Hid (m=.ok 1 ts.tail):=by show _=_;rw[HW.out];rfl
  clear hs HW
  (go_wp2_with fail);refine K.out.mono ?_;clear K;rintro e' w1 ⟨rfl,hm,ha1⟩;have H1:Hid (zr R w w1/\At w1 R S ts.tail):=⟨hm,ha1⟩;clear hm ha1
  go_wp2;go_ret;exact .ok H1.out.1 HW2.out rfl H1.out.2
 | false=>
  rw[hs]at K HW;clear hs
  (go_wp2_with fail);refine K.out.mono ?_;clear K;rintro e' w1 ⟨rfl,hm,ha1⟩;have ha1':At w1 R S ts:=ha1;have M1:=aQ hm;have K:=aQ (xA R S ts [98,111,111,108] ⟨#[98,111,111,108]⟩ w1 ha1' (by kernel_rfl) (by unfold Byn;decide));clear hm ha1 ha1';cases hs:zC S.z [[98,111,111,108]] ts with
  | true=>
   rw[hs]at K HW;have HW2:Hid (m=.ok 2 ts.tail):=by show _=_;rw[HW.out];rfl
   clear hs HW
   (go_wp2_with fail);refine K.out.mono ?_;clear K;rintro e' w2 ⟨rfl,hm,ha2⟩;have H1:Hid (zr R w w2/\At w2 R S ts.tail):=⟨M1.out.trans hm,ha2⟩;clear hm ha2
   go_wp2;go_ret;exact .ok H1.out.1 HW2.out rfl H1.out.2
  | false=>
   rw[hs]at K HW;have HW2:Hid (m=(qt S.z [98,121,116,101,115] ts).bind fun _ r=>.ok 3 r):=by show _=_;rw[HW.out];rfl
   clear hs HW
   (go_wp2_with fail);refine K.out.mono ?_;clear K;rintro e' w2 ⟨rfl,hm,ha2⟩;have ha2':At w2 R S ts:=ha2;have M2:=aQ (M1.out.trans hm);have K:=aQ (want R S ts [98,121,116,101,115] ⟨#[98,121,116,101,115]⟩ w2 ha2' (by kernel_rfl) (by unfold Byn;decide));clear hm ha2 ha2'
   (go_wp2_with fail);refine K.out.mono ?_;clear K;rintro e' w3 ⟨hm,⟨u,r,xv,hr,rfl,hq,ha3⟩|⟨c,q,hr,rfl⟩⟩
   ·rw[show xv=.tuple #[] from hq];have H1:Hid (zr R w w3/\At w3 R S r/\m=.ok 3 r):=⟨M2.out.trans hm,ha3,by rw[HW2.out,hr];rfl⟩;clear hm hr hq ha3;go_wp2;go_ret;exact .ok H1.out.1 H1.out.2.2 rfl H1.out.2.1
   ·have H1:Hid (zr R w w3/\m=.bad c q):=⟨M2.out.trans hm,by rw[HW2.out,hr];rfl⟩;clear hm hr;go_wp2;exact⟨rfl,.bad H1.out.1 H1.out.2⟩
def OwnE.stay{lo:Nat}{l:List Ex}{V:Value}(h:OwnE lo w l V)(hk:∀k,lo<=k->w'.heap[k]? =w.heap[k]?)(hs:w.heap.size<=w'.heap.size):OwnE lo w' l V:=by
 obtain⟨ks,h1,h2,h3⟩:=h;refine⟨ks,h1,⟨h2.1,?_⟩,fun i e k he hkk=>((h3 i e k he hkk).same fun q hq=>hk q hq.1.1).more fun q hq=>⟨hq.1,aS hq.2 hs⟩⟩;rcases h2.2 with h'|⟨g,cap,cur,rfl,hb,hg,rest⟩
 ·exact .inl h'
 ·exact .inr ⟨g,cap,cur,rfl,hb,by rw[hk g hb];exact hg,rest⟩
def QA(op lo:Nat)(w:World)(p:List Nat×Ex)(v:Value):Prop:=∃V,v=.agg #[.int .i64 op,.string (strN p.1),V,.slice none 0 0,.slice none 0 0,.int .i64 0]/\OwnE lo w [p.2] V
def jE(R:Nat)(S:Src)(op d:Nat)(e:Par Ex)(he:xz R S d e)(ts:List Tok)(w:World)(ha:At w R S ts):Calls prog 219 #[.pointer (some ⟨R,0,none⟩),.int .i64 op,.int .i64 d] w (Got R S (QA op w.heap.size) w (setP S.z e ts)):=by
 have hR:=ha.lt;have HE:=aQ he;have H0:=aQ (Res0.start ha [.int .i64 0,.string ⟨#[]⟩,.slice none 0 0,.slice none 0 0,.slice none 0 0,.int .i64 0] 145);have K:=aQ (name R S ts _ H0.out.at');have HW:Hid (setP S.z e ts=(yE S.z ts).bind fun s r=>(qt S.z [61] r).bind fun _ r'=>(qG e r').bind fun l q=>.ok (s,l.headD (.mk 0 0 [] [] 0)) q):=by
  show _=_;unfold setP qG;cases yE S.z ts with
  | bad c p=>rfl
  | ok s r=>
   simp only[Res.bind_ok];cases qt S.z [61] r with
   | bad c p=>rfl
   | ok u r'=>
    simp only[Res.bind_ok];cases e r'<;>rfl
 clear ha he
 generalize setP S.z e ts=m at *
 go_enter func219,ntmps219
 go_wp2_with fail
 generalize w.alloc (.cells #[.int .i64 0,.string ⟨#[]⟩,.slice none 0 0,.slice none 0 0,.slice none 0 0,.int .i64 0] 145)=w0 at *
 refine K.out.mono ?_;clear K;rintro e' w1 ⟨hm,⟨s,r,xv,hr,rfl,hq,ha1⟩|⟨c,q,hr,rfl⟩⟩
 ·rw[show xv=.string (strN s) from hq];have H1:=H0.out.moves hm ha1 hR;have bt:=za w1 (.cells #[.int .i64 op,.string (strN s),.slice none 0 0,.slice none 0 0,.slice none 0 0,.int .i64 0] 145);have H2:=aQ (H1.below bt (aR _));have V2:=aQ (qj.block (cs:=[.int .i64 op,.string (strN s),.slice none 0 0,.slice none 0 0,.slice none 0 0,.int .i64 0]) (ye w1 (.cells #[.int .i64 op,.string (strN s),.slice none 0 0,.slice none 0 0,.slice none 0 0,.int .i64 0] 145)));have s1:=H1.lt;have hR1:=H1.at'.lt;have s2:(w1.alloc (.cells #[.int .i64 op,.string (strN s),.slice none 0 0,.slice none 0 0,.slice none 0 0,.int .i64 0] 145)).heap.size=w1.heap.size+1:=by simp
  have HW2:Hid (m=(qt S.z [61] r).bind fun _ r'=>(qG e r').bind fun l q=>.ok (s,l.headD (.mk 0 0 [] [] 0)) q):=by show _=_;rw[HW.out,hr];rfl
  have K:=aQ (want R S r [61] ⟨#[61]⟩ _ H2.out.at' (by kernel_rfl) (by unfold Byn;decide));clear hm hr hq ha1 H1 bt HW
  go_wp2_with fail
  generalize w1.alloc (.cells #[.int .i64 op,.string (strN s),.slice none 0 0,.slice none 0 0,.slice none 0 0,.int .i64 0] 145)=w2 at *
  refine K.out.mono ?_;clear K;rintro e' w3 ⟨hm,⟨u,r3,xu,hr,rfl,hq,ha3⟩|⟨c,q,hr,rfl⟩⟩
  ·rw[show xu=.tuple #[] from hq];have H3:=aQ (H2.out.moves hm ha3 hR);have V3:=aQ (V2.out.of (hm.block' (k:=w1.heap.size) (by omega) (by omega)));have s3:=hm.size;have HW3:Hid (m=(qG e r3).bind fun l q=>.ok (s,l.headD (.mk 0 0 [] [] 0)) q):=by show _=_;rw[HW2.out,hr];rfl
   have K:=aQ (zba R S d e HE.out r3 w3 ha3);clear hm hr hq ha3 HW2
   (go_wp2_with fail);refine K.out.mono ?_;clear K;rintro e' w4 ⟨hm,⟨l,r4,V,hr,rfl,hq,ha4⟩|⟨c,q,hr,rfl⟩⟩
   ·have hl1:∃x,l=[x]:=by
     obtain⟨a,s',h1,h2⟩:=zn (show(e r3).bind (fun x r=>Res.ok [x] r)=.ok l r4 from hr);cases h2;exact⟨a,rfl⟩
    obtain⟨x,rfl⟩:=hl1;obtain⟨A,cp,hV0⟩:=zq hq.exs;have hV:V=.slice A 1 cp:=hV0;clear hV0;subst hV;have H4:=aQ (H3.out.moves hm ha4 hR);have V4:=V3.out.of (hm.block' (k:=w1.heap.size) (by omega) (by omega));have s4:=hm.size;obtain⟨v2c,v2f⟩:=V4.cell 2 _ rfl;have V5:=V4.set 2 (.slice A 1 cp);obtain⟨q0,_⟩:=V5.cell 0 _ rfl;obtain⟨q1,_⟩:=V5.cell 1 _ rfl;obtain⟨q2,_⟩:=V5.cell 2 _ rfl;obtain⟨q3,_⟩:=V5.cell 3 _ rfl;obtain⟨q4,_⟩:=V5.cell 4 _ rfl;obtain⟨q5,_⟩:=V5.cell 5 _ rfl;have th5:=aQ (zl H4.out.th (zo (w:=w4) (b:=w1.heap.size) (i:=2) (u:=.slice A 1 cp) w.heap.size (by omega)));have O4:=aQ hq;have HR:Hid (m=.ok (s,x) r4):=by show _=_;rw[HW3.out,hr];rfl
    clear hm hr hq ha4 V4 V5 HW3
    go_wp2_with(refine zc zV rfl (.tmp 6) (.tmp 18) rfl rfl w.heap.size rfl [_,_,_,_,_,_] rfl rfl th5.out (by simp[Value.oneCell']) ?_;intro w7 g1 g2 g3 g4 g5)
    refine vS (zx (cs:=[_,_,_,_,_,_]) results219 underlying145 rfl zV _ _ w.heap.size rfl g1) rfl ?_;have hoth:∀k,k≠w.heap.size->k≠w1.heap.size->w7.heap[k]? =w4.heap[k]?:=fun k h1 h2=>(g4 k h1).trans (zo k h2);refine .ok ((H4.out.mv.low (qz (b:=w1.heap.size)) (by omega)).low g3 (aR _)) HR.out ⟨.slice A 1 cp,rfl,?_⟩ ((H4.out.at'.other (g:=w1.heap.size) (by omega) (fun k hk=>zo k hk)).other hR g4);exact(O4.out.stay (fun k hk=>hoth k (by omega) (by omega)) (by rw[g5,zB];exact aR _)).low (by omega)
   ·have HQ:=aQ (H3.out.mv.trans hm);have HR:=aQ hr;clear hm hr;go_wp2;exact⟨rfl,.bad HQ.out (by rw[HW3.out,HR.out];rfl)⟩
  ·have HQ:=aQ (H2.out.mv.trans hm);have HR:=aQ hr;clear hm hr;go_wp2;exact⟨rfl,.bad HQ.out (by rw[HW2.out,HR.out];rfl)⟩
 ·have HQ:=aQ (H0.out.mv.trans hm);have HR:=aQ hr;clear hm hr;go_wp2;exact⟨rfl,.bad HQ.out (by rw[HW.out,HR.out];rfl)⟩
def zdp{a b:Tok}{r:List Tok}:ze8 (a::b::r)=(decide (a.kind=1)&&zcf [[61]] b):=rfl
def sets(R:Nat)(S:Src)(ts:List Tok)(w:World)(ha:At w R S ts):Calls prog 223 #[.pointer (some ⟨R,0,none⟩)] w fun e w'=>e=.returned (.bool (ze8 ts))/\Below w.heap.size w w':=by
 have HAt:=aQ ha;obtain⟨h1,i,h2,h3,h4⟩:=ha;obtain⟨c0,c1,c2⟩:=At.cells h4;have hc:=h1.1;have hm:=h1.2.1;have hm':=hm;unfold maxLen at hm';unfold Src.V at c0;have b0:Hid (∀n,Below w.heap.size w (w.drewN n)):=fun n=>zW (Below.refl _ _) n;by_cases hi:i+1<S.all.length
 ·have hg0:S.all[i]? =some S.all[i]:=vp (by omega);have hg1:S.all[i+1]? =some S.all[i+1]:=vp hi;have hts:ts=S.all[i]::S.all[i+1]::S.all.drop (i+2):=by rw[h3,wv (by omega),wv hi]
  generalize S.all[i]=a at hg0 hts;generalize S.all[i+1]=b at hg1 hts;have hgo:∃g,S.g=some g:=by
   cases hgg:S.g with
   | none=>rw[h1.2.2.2.1 hgg]at hi;simp at hi
   | some g=>exact⟨g,rfl⟩
  obtain⟨g,hgg⟩:=hgo;obtain⟨a0,_,_,_⟩:=(h1.2.2.2.2 g hgg).2 i a hg0;obtain⟨k0,k1,k2,k3⟩:=(h1.2.2.2.2 g hgg).2 (i+1) b hg1;have hyb:Byn b.aZ:=h1.2.2.1 b (wM hg1);have HTs:=aQ hts;rw[hgg]at c0;simp only[Option.map_some]at c0;have hne:¬S.c=i:=by omega
  have hlen:(1:Int)<((S.all.length-i:Nat):Int):=by omega
  rw[show(i+1)*4=i*4+4 by omega]at k0 k1 k2 k3;clear h1 h3 h4 hts hg0 hg1;by_cases hk:a.kind=1
  ·have hk':((a.kind:Int)==1)=true:=by rw[hk];rfl
   have K:Hid (∀n,Calls prog 181 #[tokV b,.slice (some ⟨w.heap.size,0,none⟩) 1 1] ((w.drewN n).alloc (.cells #[.string ⟨#[61]⟩] 9)) fun e w'=>e=.returned (.bool (zcf [[61]] b))/\Below w.heap.size w w'):=fun n=>by
    have bb:=za (w.drewN n) (.cells (([[61]]:List (List Nat)).map strV).toArray 9);have hl:=zab (w.drewN n) [[61]];have:=zpk b (some ⟨(w.drewN n).heap.size,0,none⟩) [[61]] 1 _ (by simp) (by unfold maxLen;omega) hl (by simp;unfold Byn;decide) hyb;rw[show(⟨#[61]⟩:ByteArray)=strN [61] by kernel_rfl];refine this.mono ?_;rintro e w' ⟨q1,q2⟩;exact⟨q1,((b0.out n).trans bb).trans (q2.mono bb.size)⟩
   have HV:Hid (ze8 ts=zcf [[61]] b):=by show _=_;rw[HTs.out,zdp,decide_eq_true hk];rfl
   simp only[tokV,tokC]at K;clear hk hyb;go_enter func223,ntmps223
   (go_wp2_with fail);go_quiet (fail)
   go_wp2_with(go_at_call 181;refine(K.out _).mono ?_;rintro e' w2 ⟨rfl,hb2⟩)
   go_ret;exact⟨qP (by rw[HV.out]),hb2⟩
  ·have hk':((a.kind:Int)==1)=false:=by rw[yI];omega
   have HV:Hid (ze8 ts=false):=by show _=_;rw[HTs.out,zdp,decide_eq_false hk];rfl
   clear hk hyb;go_enter func223,ntmps223
   (go_wp2_with fail);go_quiet (fail)
   go_wp2;go_ret;exact⟨qP (by rw[HV.out]),b0.out _⟩
 ·have HV:Hid (ze8 ts=false):=by
   have hl:ts.length<=1:=by rw[h3];simp;omega
   match ts,hl with
   | [],_=>rfl
   | [t],_=>rfl
  have hlen:¬(1:Int)<((S.all.length-i:Nat):Int):=by omega
  clear h1 h3 h4
  generalize Option.map (fun g=>(⟨g,0,none⟩:Addr)) S.g=A at *
  go_enter func223,ntmps223
  (go_wp2_with fail);go_quiet (fail)
  go_wp2
  all_goals
   go_ret;exact⟨qP (by rw[HV.out]),b0.out _⟩
def QSt(lo:Nat)(w:World)(s:St)(v:Value):Prop:=StV w (Rng lo w.heap.size) s v
def QSt.plain{lo:Nat}{op:Nat}{aZ:List Nat}{l:List Ex}{V:Value}{aW:Nat}(h:ExsC w (Rng lo w.heap.size) l V):QSt lo w (.mk op aZ l [] [] aW) (.agg #[.int .i64 op,.string (strN aZ),V,.slice none 0 0,.slice none 0 0,.int .i64 aW]):=
 ⟨⟨V,.slice none 0 0,.slice none 0 0⟩,rfl,h,StsC.nothing _ _,StsC.nothing _ _⟩
def ExsC.stay{lo B n:Nat}{l:List Ex}{V:Value}(h:ExsC w (Rng lo B) l V)(hk:∀k,k≠n->w'.heap[k]? =w.heap[k]?)(hn:n<lo)(hB:B<=w'.heap.size):ExsC w' (Rng n w'.heap.size) l V:=
 (h.same fun q hq=>hk q (by have:=hq.1;omega)).more fun q hq=>⟨by have:=hq.1;omega,aS hq.2 hB⟩
def zhu(z:Nat)(e:Par Ex)(ts:List Tok):jn z e ts=if zC z [[108,101,116]] ts then(setP z e ts.tail).bind fun x r=>.ok (.mk 1 x.1 [x.2] [] [] 0) r
 else if zC z [[114,101,116,117,114,110]] ts then(if zC z [[59]] ts.tail then .ok (.mk 5 [] [] [] [] 0) ts.tail else(qG e ts.tail).bind fun l r=>.ok (.mk 5 [] l [] [] 0) r)
 else if zC z [[112,117,116]] ts then(ze6 z e ts.tail).bind fun l r=>.ok (.mk 6 [] l [] [] 0) r
 else if zC z [[100,101,108]] ts then(qc z e ts.tail).bind fun l r=>.ok (.mk 7 [] l [] [] 0) r
 else if ze8 ts then(setP z e ts).bind fun x r=>.ok (.mk 2 x.1 [x.2] [] [] 0) r
 else(qG e ts).bind fun l r=>.ok (.mk 8 [] l [] [] 0) r:=by
 unfold jn qG;cases e ts<;>cases e ts.tail<;>rfl
def zrz(R:Nat)(S:Src)(d:Nat)(e:Par Ex)(he:xz R S d e)(ts:List Tok)(w:World)(ha:At w R S ts):Calls prog 184 #[.pointer (some ⟨R,0,none⟩),.int .i64 d] w (Got R S (QSt w.heap.size) w (jn S.z e ts)):=by
 have hR:=ha.lt;have HE:=aQ he;have H0:=aQ (Res0.start ha [.int .i64 0,.string ⟨#[]⟩,.slice none 0 0,.slice none 0 0,.slice none 0 0,.int .i64 0] 145);have HW:=aQ (zhu S.z e ts);clear ha he
 generalize jn S.z e ts=m at *
 have K:=aQ (xA R S ts [108,101,116] ⟨#[108,101,116]⟩ _ H0.out.at' (by kernel_rfl) (by unfold Byn;decide));go_enter func184,ntmps184;cases hs0:zC S.z [[108,101,116]] ts with
 | true=>
  rw[hs0]at K HW;clear hs0
  go_wp2_with fail
  generalize w.alloc (.cells #[.int .i64 0,.string ⟨#[]⟩,.slice none 0 0,.slice none 0 0,.slice none 0 0,.int .i64 0] 145)=w0 at *
  refine K.out.mono ?_;clear K;rintro e' w1 ⟨rfl,hm,ha1⟩;have ha1':At w1 R S ts.tail:=ha1;have H1:=aQ (H0.out.moves hm ha1' hR);clear hm ha1 ha1';have HWx:Hid (m=(setP S.z e ts.tail).bind fun x r=>.ok (.mk 1 x.1 [x.2] [] [] 0) r):=by show _=_;rw[HW.out];rfl
  have K:=aQ (jE R S 1 d e HE.out ts.tail _ H1.out.at')
  (go_wp2_with fail);refine K.out.mono ?_;clear K;rintro e' wl ⟨hm,⟨l,rl,V,hr,rfl,hq,hal⟩|⟨c,q,hr,rfl⟩⟩
  ·obtain⟨V,rfl,hq⟩:=hq;obtain⟨A,cp,hV0⟩:=zq hq.exs;have hV:V=.slice A 1 cp:=hV0;clear hV0;subst hV;have HL:=aQ (H1.out.moves hm hal hR);have HX:=aQ hq.exs;have hlt:=H1.out.lt;have HR:=aQ hr;clear hm hal hq hr
   go_wp2_with(refine zc zV rfl (.tmp 4) (.tmp 10) rfl rfl w.heap.size rfl [_,_,_,_,_,_] rfl rfl HL.out.th (by simp[Value.oneCell']) ?_;intro w7 g1 g2 g3 g4 g5)
   refine vS (zx (cs:=[_,_,_,_,_,_]) results184 underlying145 rfl zV _ _ w.heap.size rfl g1) rfl ?_;exact .ok (HL.out.mv.low g3 (aR _)) (v:=.mk 1 l.1 [l.2] [] [] 0) (by rw[HWx.out,HR.out];rfl) (QSt.plain (HX.out.stay g4 (by omega) (by rw[g5];exact aR _))) (HL.out.at'.other hR g4)
  ·have HQ:=aQ (H1.out.mv.trans hm);have HR:=aQ hr;clear hm hr;go_wp2;exact⟨rfl,.bad HQ.out (by rw[HWx.out,HR.out];rfl)⟩
 | false=>
  rw[hs0]at K HW;clear hs0
  go_wp2_with fail
  generalize w.alloc (.cells #[.int .i64 0,.string ⟨#[]⟩,.slice none 0 0,.slice none 0 0,.slice none 0 0,.int .i64 0] 145)=w0 at *
  refine K.out.mono ?_;clear K;rintro e' w1 ⟨rfl,hm,ha1⟩;have ha1':At w1 R S ts:=ha1;have H1:=aQ (H0.out.moves hm ha1' hR);clear hm ha1 ha1';have K:=aQ (xA R S ts [114,101,116,117,114,110] ⟨#[114,101,116,117,114,110]⟩ _ H1.out.at' (by kernel_rfl) (by unfold Byn;decide));cases hs1:zC S.z [[114,101,116,117,114,110]] ts with
  | true=>
   rw[hs1]at K HW;clear hs1
   (go_wp2_with fail);refine K.out.mono ?_;clear K;rintro e' w2 ⟨rfl,hm,ha1⟩;have ha1':At w2 R S ts.tail:=ha1;have H2:=aQ (H1.out.moves hm ha1' hR);clear hm ha1 ha1';have HWx:Hid (m=if zC S.z [[59]] ts.tail then .ok (.mk 5 [] [] [] [] 0) ts.tail else(qG e ts.tail).bind fun l r=>.ok (.mk 5 [] l [] [] 0) r):=by show _=_;rw[HW.out];rfl
   have K:=aQ (jC R S ts.tail [[59]] _ #[.string ⟨#[59]⟩] (by rw[show(⟨#[59]⟩:ByteArray)=strN [59] by kernel_rfl];rfl) 1 rfl (by omega) H2.out.at' (by simp;unfold Byn;decide));cases hs9:zC S.z [[59]] ts.tail with
   | true=>
    rw[hs9]at K HWx;clear hs9
    (go_wp2_with fail);refine K.out.mono ?_;clear K;rintro e' w9 ⟨rfl,hb9,ha9⟩;have H9:=aQ (H2.out.below hb9 (aR _));clear hb9 ha9;have HWy:Hid (m=.ok (.mk 5 [] [] [] [] 0) ts.tail):=by show _=_;rw[HWx.out];rfl
    go_wp2_with(refine zc zV rfl (.tmp 4) (.tmp 17) rfl rfl w.heap.size rfl [_,_,_,_,_,_] rfl rfl H9.out.th (by simp[Value.oneCell']) ?_;intro w7 g1 g2 g3 g4 g5)
    refine vS (zx (cs:=[_,_,_,_,_,_]) results184 underlying145 rfl zV _ _ w.heap.size rfl g1) rfl ?_;exact .ok (H9.out.mv.low g3 (aR _)) (v:=.mk 5 [] [] [] [] 0) HWy.out (QSt.plain (ExsC.nothing _ _)) (H9.out.at'.other hR g4)
   | false=>
    rw[hs9]at K HWx;clear hs9
    (go_wp2_with fail);refine K.out.mono ?_;clear K;rintro e' w9 ⟨rfl,hb9,ha9⟩;have H9:=aQ (H2.out.below hb9 (aR _));clear hb9 ha9;have HWy:Hid (m=(qG e ts.tail).bind fun l r=>.ok (.mk 5 [] l [] [] 0) r):=by show _=_;rw[HWx.out];rfl
    have K:=aQ (zba R S d e HE.out ts.tail _ H9.out.at')
    (go_wp2_with fail);refine K.out.mono ?_;clear K;rintro e' wl ⟨hm,⟨l,rl,V,hr,rfl,hq,hal⟩|⟨c,q,hr,rfl⟩⟩
    ·obtain⟨A,cp,rfl⟩:=zq hq.exs;have HL:=aQ (H9.out.moves hm hal hR);have HX:=aQ hq.exs;have hlt:=H9.out.lt;have HR:=aQ hr;clear hm hal hq hr
     go_wp2_with(refine zc zV rfl (.tmp 4) (.tmp 21) rfl rfl w.heap.size rfl [_,_,_,_,_,_] rfl rfl HL.out.th (by simp[Value.oneCell']) ?_;intro w7 g1 g2 g3 g4 g5)
     refine vS (zx (cs:=[_,_,_,_,_,_]) results184 underlying145 rfl zV _ _ w.heap.size rfl g1) rfl ?_;exact .ok (HL.out.mv.low g3 (aR _)) (v:=.mk 5 [] l [] [] 0) (by rw[HWy.out,HR.out];rfl) (QSt.plain (HX.out.stay g4 (by omega) (by rw[g5];exact aR _))) (HL.out.at'.other hR g4)
    ·have HQ:=aQ (H9.out.mv.trans hm);have HR:=aQ hr;clear hm hr;go_wp2;exact⟨rfl,.bad HQ.out (by rw[HWy.out,HR.out];rfl)⟩
  | false=>
   rw[hs1]at K HW;clear hs1
   (go_wp2_with fail);refine K.out.mono ?_;clear K;rintro e' w2 ⟨rfl,hm,ha1⟩;have ha1':At w2 R S ts:=ha1;have H2:=aQ (H1.out.moves hm ha1' hR);clear hm ha1 ha1';have K:=aQ (xA R S ts [112,117,116] ⟨#[112,117,116]⟩ _ H2.out.at' (by kernel_rfl) (by unfold Byn;decide));cases hs2:zC S.z [[112,117,116]] ts with
   | true=>
    rw[hs2]at K HW;clear hs2
    (go_wp2_with fail);refine K.out.mono ?_;clear K;rintro e' w3 ⟨rfl,hm,ha1⟩;have ha1':At w3 R S ts.tail:=ha1;have H3:=aQ (H2.out.moves hm ha1' hR);clear hm ha1 ha1';have HWx:Hid (m=(ze6 S.z e ts.tail).bind fun l r=>.ok (.mk 6 [] l [] [] 0) r):=by show _=_;rw[HW.out];rfl
    have K:=aQ (pair R S d e HE.out ts.tail _ H3.out.at')
    (go_wp2_with fail);refine K.out.mono ?_;clear K;rintro e' wl ⟨hm,⟨l,rl,V,hr,rfl,hq,hal⟩|⟨c,q,hr,rfl⟩⟩
    ·obtain⟨A,cp,rfl⟩:=zq hq.exs;have HL:=aQ (H3.out.moves hm hal hR);have HX:=aQ hq.exs;have hlt:=H3.out.lt;have HR:=aQ hr;clear hm hal hq hr
     go_wp2_with(refine zc zV rfl (.tmp 4) (.tmp 28) rfl rfl w.heap.size rfl [_,_,_,_,_,_] rfl rfl HL.out.th (by simp[Value.oneCell']) ?_;intro w7 g1 g2 g3 g4 g5)
     refine vS (zx (cs:=[_,_,_,_,_,_]) results184 underlying145 rfl zV _ _ w.heap.size rfl g1) rfl ?_;exact .ok (HL.out.mv.low g3 (aR _)) (v:=.mk 6 [] l [] [] 0) (by rw[HWx.out,HR.out];rfl) (QSt.plain (HX.out.stay g4 (by omega) (by rw[g5];exact aR _))) (HL.out.at'.other hR g4)
    ·have HQ:=aQ (H3.out.mv.trans hm);have HR:=aQ hr;clear hm hr;go_wp2;exact⟨rfl,.bad HQ.out (by rw[HWx.out,HR.out];rfl)⟩
   | false=>
    rw[hs2]at K HW;clear hs2
    (go_wp2_with fail);refine K.out.mono ?_;clear K;rintro e' w3 ⟨rfl,hm,ha1⟩;have ha1':At w3 R S ts:=ha1;have H3:=aQ (H2.out.moves hm ha1' hR);clear hm ha1 ha1';have K:=aQ (xA R S ts [100,101,108] ⟨#[100,101,108]⟩ _ H3.out.at' (by kernel_rfl) (by unfold Byn;decide));cases hs3:zC S.z [[100,101,108]] ts with
    | true=>
     rw[hs3]at K HW;clear hs3
     (go_wp2_with fail);refine K.out.mono ?_;clear K;rintro e' w4 ⟨rfl,hm,ha1⟩;have ha1':At w4 R S ts.tail:=ha1;have H4:=aQ (H3.out.moves hm ha1' hR);clear hm ha1 ha1';have HWx:Hid (m=(qc S.z e ts.tail).bind fun l r=>.ok (.mk 7 [] l [] [] 0) r):=by show _=_;rw[HW.out];rfl
     have K:=aQ (vF R S d e HE.out ts.tail _ H4.out.at')
     (go_wp2_with fail);refine K.out.mono ?_;clear K;rintro e' wl ⟨hm,⟨l,rl,V,hr,rfl,hq,hal⟩|⟨c,q,hr,rfl⟩⟩
     ·obtain⟨A,cp,rfl⟩:=zq hq.exs;have HL:=aQ (H4.out.moves hm hal hR);have HX:=aQ hq.exs;have hlt:=H4.out.lt;have HR:=aQ hr;clear hm hal hq hr
      go_wp2_with(refine zc zV rfl (.tmp 4) (.tmp 35) rfl rfl w.heap.size rfl [_,_,_,_,_,_] rfl rfl HL.out.th (by simp[Value.oneCell']) ?_;intro w7 g1 g2 g3 g4 g5)
      refine vS (zx (cs:=[_,_,_,_,_,_]) results184 underlying145 rfl zV _ _ w.heap.size rfl g1) rfl ?_;exact .ok (HL.out.mv.low g3 (aR _)) (v:=.mk 7 [] l [] [] 0) (by rw[HWx.out,HR.out];rfl) (QSt.plain (HX.out.stay g4 (by omega) (by rw[g5];exact aR _))) (HL.out.at'.other hR g4)
     ·have HQ:=aQ (H4.out.mv.trans hm);have HR:=aQ hr;clear hm hr;go_wp2;exact⟨rfl,.bad HQ.out (by rw[HWx.out,HR.out];rfl)⟩
    | false=>
     rw[hs3]at K HW;clear hs3
     (go_wp2_with fail);refine K.out.mono ?_;clear K;rintro e' w4 ⟨rfl,hm,ha1⟩;have ha1':At w4 R S ts:=ha1;have H4:=aQ (H3.out.moves hm ha1' hR);clear hm ha1 ha1';have K:=aQ (sets R S ts _ H4.out.at');cases hs4:ze8 ts with
     | true=>
      rw[hs4]at K HW;clear hs4
      (go_wp2_with fail);refine K.out.mono ?_;clear K;rintro e' w5 ⟨rfl,hb5⟩;have H5:=aQ (H4.out.below hb5 (aR _));clear hb5;have HWx:Hid (m=(setP S.z e ts).bind fun x r=>.ok (.mk 2 x.1 [x.2] [] [] 0) r):=by show _=_;rw[HW.out];rfl
      have K:=aQ (jE R S 2 d e HE.out ts _ H5.out.at')
      (go_wp2_with fail);refine K.out.mono ?_;clear K;rintro e' wl ⟨hm,⟨l,rl,V,hr,rfl,hq,hal⟩|⟨c,q,hr,rfl⟩⟩
      ·obtain⟨V,rfl,hq⟩:=hq;obtain⟨A,cp,hV0⟩:=zq hq.exs;have hV:V=.slice A 1 cp:=hV0;clear hV0;subst hV;have HL:=aQ (H5.out.moves hm hal hR);have HX:=aQ hq.exs;have hlt:=H5.out.lt;have HR:=aQ hr;clear hm hal hq hr
       go_wp2_with(refine zc zV rfl (.tmp 4) (.tmp 41) rfl rfl w.heap.size rfl [_,_,_,_,_,_] rfl rfl HL.out.th (by simp[Value.oneCell']) ?_;intro w7 g1 g2 g3 g4 g5)
       refine vS (zx (cs:=[_,_,_,_,_,_]) results184 underlying145 rfl zV _ _ w.heap.size rfl g1) rfl ?_;exact .ok (HL.out.mv.low g3 (aR _)) (v:=.mk 2 l.1 [l.2] [] [] 0) (by rw[HWx.out,HR.out];rfl) (QSt.plain (HX.out.stay g4 (by omega) (by rw[g5];exact aR _))) (HL.out.at'.other hR g4)
      ·have HQ:=aQ (H5.out.mv.trans hm);have HR:=aQ hr;clear hm hr;go_wp2;exact⟨rfl,.bad HQ.out (by rw[HWx.out,HR.out];rfl)⟩
     | false=>
      rw[hs4]at K HW;clear hs4
      (go_wp2_with fail);refine K.out.mono ?_;clear K;rintro e' w5 ⟨rfl,hb5⟩;have H5:=aQ (H4.out.below hb5 (aR _));clear hb5;have HWx:Hid (m=(qG e ts).bind fun l r=>.ok (.mk 8 [] l [] [] 0) r):=by show _=_;rw[HW.out];rfl
      have K:=aQ (zba R S d e HE.out ts _ H5.out.at')
      (go_wp2_with fail);refine K.out.mono ?_;clear K;rintro e' wl ⟨hm,⟨l,rl,V,hr,rfl,hq,hal⟩|⟨c,q,hr,rfl⟩⟩
      ·obtain⟨A,cp,rfl⟩:=zq hq.exs;have HL:=aQ (H5.out.moves hm hal hR);have HX:=aQ hq.exs;have hlt:=H5.out.lt;have HR:=aQ hr;clear hm hal hq hr
       go_wp2_with(refine zc zV rfl (.tmp 4) (.tmp 45) rfl rfl w.heap.size rfl [_,_,_,_,_,_] rfl rfl HL.out.th (by simp[Value.oneCell']) ?_;intro w7 g1 g2 g3 g4 g5)
       refine vS (zx (cs:=[_,_,_,_,_,_]) results184 underlying145 rfl zV _ _ w.heap.size rfl g1) rfl ?_;exact .ok (HL.out.mv.low g3 (aR _)) (v:=.mk 8 [] l [] [] 0) (by rw[HWx.out,HR.out];rfl) (QSt.plain (HX.out.stay g4 (by omega) (by rw[g5];exact aR _))) (HL.out.at'.other hR g4)
      ·have HQ:=aQ (H5.out.mv.trans hm);have HR:=aQ hr;clear hm hr;go_wp2;exact⟨rfl,.bad HQ.out (by rw[HWx.out,HR.out];rfl)⟩
def QB(lo:Nat)(w:World)(l:List St)(V:Value):Prop:=StsC w (Rng lo w.heap.size) l V
def ve(R:Nat)(S:Src)(d:Nat)(b:Par (List St)):Prop:=∀w ts,At w R S ts->Calls prog 116 #[.pointer (some ⟨R,0,none⟩),.int .i64 d] w (Got R S (QB w.heap.size) w (b ts))
def qg{l:List St}{k:Value}(h:StsC w D l k):∃A c,k=.slice A l.length c:=by
 cases h with
 | mk l ks V hk hr _ _ _=>
  obtain⟨A,c,e,_⟩:=hr;exact⟨A,c,e⟩
def zhs(z:Nat)(e:Par Ex)(b:Par (List St))(ts:List Tok):j5 z e b ts=(qG e ts).bind fun xs r=>(b r).bind fun l q=>if zC z [[101,108,115,101]] q then(b q.tail).bind fun m q'=>.ok (.mk 3 [] xs l m 0) q' else .ok (.mk 3 [] xs l [] 0) q:=by
 unfold j5 qG;cases e ts<;>rfl
structure StK(w:World)(D:Nat->Prop)(s:St)(k:qM):Prop where
 e:ExsC w D s.aY k.e
 b:StsC w D s.body k.b
 f:StsC w D s.els k.f
def StK.same{s:St}{k:qM}(h:StK w D s k)(hs:Same D w w'):StK w' D s k:=⟨h.e.same hs,h.b.same hs,h.f.same hs⟩
def StK.more{s:St}{k:qM}(h:StK w D s k)(hs:∀q,D q->D' q):StK w D' s k:=⟨h.e.more hs,h.b.more hs,h.f.more hs⟩
def StK.v{s:St}{k:qM}(h:StK w D s k):StV w D s (.agg (stC s k.e k.b k.f).toArray):=⟨k,rfl,h.e,h.b,h.f⟩
def But(a b B:Nat):Nat->Prop:=fun k=>(a<k/\k≠b)/\k<B
def choice(R:Nat)(S:Src)(d:Nat)(e:Par Ex)(he:xz R S d e)(b:Par (List St))(hb:ve R S d b)(ts:List Tok)(w:World)(ha:At w R S ts):Calls prog 182 #[.pointer (some ⟨R,0,none⟩),.int .i64 d] w (Got R S (QSt w.heap.size) w (j5 S.z e b ts)):=by
 have hR:=ha.lt;have HB:=aQ hb;have H0:=aQ (Res0.start ha [.int .i64 0,.string ⟨#[]⟩,.slice none 0 0,.slice none 0 0,.slice none 0 0,.int .i64 0] 145);have HW:=aQ (zhs S.z e b ts);have K:=aQ (zba R S d e he ts _ H0.out.at');have s0:(w.alloc (.cells #[.int .i64 0,.string ⟨#[]⟩,.slice none 0 0,.slice none 0 0,.slice none 0 0,.int .i64 0] 145)).heap.size=w.heap.size+1:=by simp
 clear ha he hb
 generalize j5 S.z e b ts=m at *
 go_enter func182,ntmps182
 go_wp2_with fail
 generalize w.alloc (.cells #[.int .i64 0,.string ⟨#[]⟩,.slice none 0 0,.slice none 0 0,.slice none 0 0,.int .i64 0] 145)=w0 at *
 refine K.out.mono ?_;clear K;rintro e' w1 ⟨hm,⟨xs,r,V,hr,rfl,hq,ha1⟩|⟨c,q,hr,rfl⟩⟩
 ·obtain⟨A,cp,rfl⟩:=zq hq.exs;have H1:=H0.out.moves hm ha1 hR;have s1:=hm.size;have bt:=za w1 (.cells #[.int .i64 3,.string ⟨#[]⟩,.slice A xs.length cp,.slice none 0 0,.slice none 0 0,.int .i64 0] 145);have H2:=aQ (H1.below bt (aR _));have V2:=aQ (qj.block (cs:=[.int .i64 3,.string ⟨#[]⟩,.slice A xs.length cp,.slice none 0 0,.slice none 0 0,.int .i64 0]) (ye w1 (.cells #[.int .i64 3,.string ⟨#[]⟩,.slice A xs.length cp,.slice none 0 0,.slice none 0 0,.int .i64 0] 145)));have s2:(w1.alloc (.cells #[.int .i64 3,.string ⟨#[]⟩,.slice A xs.length cp,.slice none 0 0,.slice none 0 0,.int .i64 0] 145)).heap.size=w1.heap.size+1:=by simp
  have X2:=aQ ((hq.exs.same fun q h=>bt.block q h.2).more (D':=But w.heap.size w1.heap.size (w1.heap.size+1)) fun q h=>⟨⟨by have:=h.1;omega,by have:=h.2;omega⟩,by have:=h.2;omega⟩);have HW2:Hid (m=(b r).bind fun l q=>if zC S.z [[101,108,115,101]] q then(b q.tail).bind fun m q'=>.ok (.mk 3 [] xs l m 0) q' else .ok (.mk 3 [] xs l [] 0) q):=by show _=_;rw[HW.out,hr];rfl
  have K:=aQ (HB.out _ r H2.out.at');clear hm hr hq ha1 H1 bt HW
  go_wp2_with fail
  generalize w1.alloc (.cells #[.int .i64 3,.string ⟨#[]⟩,.slice A xs.length cp,.slice none 0 0,.slice none 0 0,.int .i64 0] 145)=w2 at *
  refine K.out.mono ?_;clear K;rintro e' w3 ⟨hm,⟨l,r3,Bv,hr,rfl,hq,ha3⟩|⟨c,q,hr,rfl⟩⟩
  ·obtain⟨A3,c3,rfl⟩:=qg hq;have H3:=H2.out.moves hm ha3 hR;have V3:=V2.out.of (hm.block' (k:=w1.heap.size) (by omega) (by omega));have s3:=hm.size;obtain⟨f3,z3⟩:=V3.cell 3 _ rfl;have V4:=aQ (V3.set 3 (.slice A3 l.length c3));have X3:=X2.out.same (hm.same fun q h=>⟨by have:=h.2;omega,by have:=h.1.1;omega⟩);have hoth:∀k,k≠w1.heap.size->(w3.setCell ⟨w1.heap.size,3,none⟩ (.slice A3 l.length c3)).heap[k]? =w3.heap[k]?:=fun k hk=>zo k hk;have H4:Res0 R S _ w r3 (w3.setCell ⟨w1.heap.size,3,none⟩ (.slice A3 l.length c3)):=⟨H3.mv.low (qz (b:=w1.heap.size)) (by omega),zl H3.th (hoth _ (by omega)),by rw[zB];exact H3.lt,H3.at'.other (g:=w1.heap.size) (by have:=H2.out.at'.lt;omega) hoth⟩
   have S4:Hid (StK (w3.setCell ⟨w1.heap.size,3,none⟩ (.slice A3 l.length c3)) (But w.heap.size w1.heap.size w3.heap.size) (.mk 3 [] xs l [] 0) ⟨.slice A xs.length cp,.slice A3 l.length c3,.slice none 0 0⟩):=
    ⟨(X3.same fun q h=>hoth q h.1.2).more fun q h=>⟨h.1,by have:=h.2;omega⟩,(StsC.same hq fun q h=>hoth q (by have:=h.1;omega)).more fun q h=>⟨⟨by have:=h.1;omega,by have:=h.1;omega⟩,h.2⟩,StsC.nothing _ _⟩
   have s4:(w3.setCell ⟨w1.heap.size,3,none⟩ (.slice A3 l.length c3)).heap.size=w3.heap.size:=zB;have HH4:=aQ H4;have HW4:Hid (m=if zC S.z [[101,108,115,101]] r3 then(b r3.tail).bind fun m q'=>.ok (.mk 3 [] xs l m 0) q' else .ok (.mk 3 [] xs l [] 0) r3):=by show _=_;rw[HW2.out,hr];rfl
   have K:=aQ (xA R S r3 [101,108,115,101] ⟨#[101,108,115,101]⟩ _ H4.at' (by kernel_rfl) (by unfold Byn;decide));clear hm hr hq ha3 H3 H4 V3 X3 hoth HW2;cases hs:zC S.z [[101,108,115,101]] r3 with
   | false=>
    rw[hs]at K HW4;have HW5:Hid (m=.ok (.mk 3 [] xs l [] 0) r3):=by show _=_;rw[HW4.out];rfl
    clear hs HW4
    go_wp2_with fail
    generalize w3.setCell ⟨w1.heap.size,3,none⟩ (.slice A3 l.length c3)=w4 at *
    refine K.out.mono ?_;clear K;rintro e' w5 ⟨rfl,hm,ha5⟩;have H5:=aQ (HH4.out.moves hm ha5 hR);have V5:=V4.out.of (hm.block' (k:=w1.heap.size) (by omega) (by have:=HH4.out.at'.lt;have:=H2.out.at'.lt;omega));obtain⟨q0,_⟩:=V5.cell 0 _ rfl;obtain⟨q1,_⟩:=V5.cell 1 _ rfl;obtain⟨q2,_⟩:=V5.cell 2 _ rfl;obtain⟨q3,_⟩:=V5.cell 3 _ rfl;obtain⟨q4,_⟩:=V5.cell 4 _ rfl;obtain⟨q5,_⟩:=V5.cell 5 _ rfl;have S5:=aQ (S4.out.same (hm.same fun q h=>⟨by have:=h.2;omega,by have:=h.1.1;omega⟩));have s5:=hm.size;clear hm ha5 V5 f3 z3
    go_wp2_with(refine zc zV rfl (.tmp 4) (.tmp 20) rfl rfl w.heap.size rfl [_,_,_,_,_,_] rfl rfl H5.out.th (by simp[Value.oneCell']) ?_;intro w7 g1 g2 g3 g4 g5)
    refine vS (zx (cs:=[_,_,_,_,_,_]) results182 underlying145 rfl zV _ _ w.heap.size rfl g1) rfl ?_;exact .ok (H5.out.mv.low g3 (aR _)) HW5.out ((S5.out.same fun q h=>g4 q (by have:=h.1.1;omega)).more fun q h=>⟨by have:=h.1.1;omega,by rw[g5];have:=h.2;omega⟩).v (H5.out.at'.other hR g4)
   | true=>
    rw[hs]at K HW4;have HW5:Hid (m=(b r3.tail).bind fun m q'=>.ok (.mk 3 [] xs l m 0) q'):=by show _=_;rw[HW4.out];rfl
    clear hs HW4
    go_wp2_with fail
    generalize w3.setCell ⟨w1.heap.size,3,none⟩ (.slice A3 l.length c3)=w4 at *
    refine K.out.mono ?_;clear K;rintro e' w5 ⟨rfl,hm,ha5⟩;have ha5':At w5 R S r3.tail:=ha5;have H5:=aQ (HH4.out.moves hm ha5' hR);have hRL:w1.heap.size≠R:=by have:=H2.out.at'.lt;omega
    have V5:=aQ (V4.out.of (hm.block' (k:=w1.heap.size) (by omega) hRL));have S5:=aQ (S4.out.same (hm.same fun q h=>⟨by have:=h.2;omega,by have:=h.1.1;omega⟩));have s5:=hm.size;have K:=aQ (HB.out _ _ H5.out.at');clear hm ha5 ha5' f3 z3
    (go_wp2_with fail);refine K.out.mono ?_;clear K;rintro e' w6 ⟨hm,⟨l6,r6,Bv,hr,rfl,hq,ha6⟩|⟨c,q,hr,rfl⟩⟩
    ·obtain⟨A6,c6,rfl⟩:=qg hq;have H6:=H5.out.moves hm ha6 hR;have V6:=V5.out.of (hm.block' (k:=w1.heap.size) (by omega) hRL);have s6:=hm.size;obtain⟨f6,z6⟩:=V6.cell 4 _ rfl;have V7:=V6.set 4 (.slice A6 l6.length c6);obtain⟨q0,_⟩:=V7.cell 0 _ rfl;obtain⟨q1,_⟩:=V7.cell 1 _ rfl;obtain⟨q2,_⟩:=V7.cell 2 _ rfl;obtain⟨q3,_⟩:=V7.cell 3 _ rfl;obtain⟨q4,_⟩:=V7.cell 4 _ rfl;obtain⟨q5,_⟩:=V7.cell 5 _ rfl;have S6:=S5.out.same (hm.same fun q h=>⟨by have:=h.2;omega,by have:=h.1.1;omega⟩);have hoth:∀k,k≠w1.heap.size->(w6.setCell ⟨w1.heap.size,4,none⟩ (.slice A6 l6.length c6)).heap[k]? =w6.heap[k]?:=fun k hk=>zo k hk;have H7:Hid (Res0 R S _ w r6 (w6.setCell ⟨w1.heap.size,4,none⟩ (.slice A6 l6.length c6))):=⟨H6.mv.low (qz (b:=w1.heap.size)) (by omega),zl H6.th (hoth _ (by omega)),by rw[zB];exact H6.lt,H6.at'.other (g:=w1.heap.size) (by have:=H2.out.at'.lt;omega) hoth⟩
     have S7:Hid (StK (w6.setCell ⟨w1.heap.size,4,none⟩ (.slice A6 l6.length c6)) (But w.heap.size w1.heap.size w6.heap.size) (.mk 3 [] xs l l6 0) ⟨.slice A xs.length cp,.slice A3 l.length c3,.slice A6 l6.length c6⟩):=
      ⟨(S6.e.same fun q h=>hoth q h.1.2).more fun q h=>⟨h.1,by have:=h.2;omega⟩,(S6.b.same fun q h=>hoth q h.1.2).more fun q h=>⟨h.1,by have:=h.2;omega⟩,(StsC.same hq fun q h=>hoth q (by have:=h.1;omega)).more fun q h=>⟨⟨by have:=h.1;omega,by have:=h.1;omega⟩,h.2⟩⟩
     have s7:(w6.setCell ⟨w1.heap.size,4,none⟩ (.slice A6 l6.length c6)).heap.size=w6.heap.size:=zB;have HW7:Hid (m=.ok (.mk 3 [] xs l l6 0) r6):=by show _=_;rw[HW5.out,hr];rfl
     clear hm hr hq ha6 H6 V6 V7 S6 hoth HW5
     go_wp2_with(refine zc zV rfl (.tmp 4) (.tmp 20) rfl rfl w.heap.size rfl [_,_,_,_,_,_] rfl rfl H7.out.th (by simp[Value.oneCell']) ?_;intro w8 g1 g2 g3 g4 g5)
     refine vS (zx (cs:=[_,_,_,_,_,_]) results182 underlying145 rfl zV _ _ w.heap.size rfl g1) rfl ?_;exact .ok (H7.out.mv.low g3 (aR _)) HW7.out ((S7.out.same fun q h=>g4 q (by have:=h.1.1;omega)).more fun q h=>⟨by have:=h.1.1;omega,by rw[g5];have:=h.2;omega⟩).v (H7.out.at'.other hR g4)
    ·have HQ:=aQ (H5.out.mv.trans hm);have HR:=aQ hr;clear hm hr;go_wp2;exact⟨rfl,.bad HQ.out (by rw[HW5.out,HR.out];rfl)⟩
  ·have HQ:=aQ (H2.out.mv.trans hm);have HR:=aQ hr;clear hm hr;go_wp2;exact⟨rfl,.bad HQ.out (by rw[HW2.out,HR.out];rfl)⟩
 ·have HQ:=aQ (H0.out.mv.trans hm);have HR:=aQ hr;clear hm hr;go_wp2;exact⟨rfl,.bad HQ.out (by rw[HW.out,HR.out];rfl)⟩
structure Lp(R:Nat)(S:Src)(w:World)(lo bs:Nat)(V:Value)(s:List Nat)(x:Ex)(k:Value)(ts:List Tok)(cur:World):Prop where
 r0:Res0 R S 6 w ts cur
 va:qj cur bs [.int .i64 4,.string (strN s),V,.slice none 0 0,.slice none 0 0,.int .i64 0]
 own:cur.ownsRow lo 202 5 V 1 (exC x k)
 kx:ExsC cur (fun q=>(lo<=q/\some q≠V.ownBlock)/\q<bs) x.aX k
 hR:R<w.heap.size
 wl:w.heap.size<lo
 lb:lo<=bs
 bc:bs<cur.heap.size
 vb:∀g,V.ownBlock=some g->g<bs
def Lp.moves{S:Src}{lo bs:Nat}{V:Value}{x:Ex}{k:Value}{ts ts':List Tok}{cur cur':World}(h:Lp R S w lo bs V s x k ts cur)(hm:zr R cur cur')(ha:At cur' R S ts'):Lp R S w lo bs V s x k ts' cur':=by
 have h1:=h.hR;have h2:=h.wl;have h3:=h.lb;have h4:=h.bc;refine⟨h.r0.moves hm ha h.hR,h.va.of (hm.block' h.bc (by omega)),h.own.kept hm ?_,h.kx.same (hm.same fun q hq=>⟨by have:=hq.2;omega,by have:=hq.1.1;omega⟩),h.hR,h.wl,h.lb,aS h.bc hm.size,h.vb⟩;cases hv:V.ownBlock with
 | none=>exact .inl rfl
 | some g=>
  refine .inr fun e=>?_;injection e with e
  have:=(h.own.lt g hv).1;omega
def znp(z:Nat)(e:Par Ex)(b:Par (List St))(ts:List Tok):zid z e b ts=(setP z e ts).bind fun x r=>(qt z [116,111] r).bind fun _ r'=>(e r').bind fun y q=>(b q).bind fun l q'=>.ok (.mk 4 x.1 [x.2,y] l [] 0) q':=rfl
def Lp.done{S:Src}{lo bs:Nat}{V V':Value}{x y:Ex}{k k2:Value}{ts:List Tok}{cur wb:World}(h:Lp R S w lo bs V s x k ts cur)(hy:ExsC cur (Rng (bs+1) cur.heap.size) y.aX k2)
  (ho:wb.ownsRow lo 202 5 V' 2 (exC x k++exC y k2)) (hg:cur.grownBy wb V.ownBlock) (hv:V'.ownBlock=V.ownBlock\/∃g,V'.ownBlock=some g/\cur.heap.size<=g) :
  Res0 R S 6 w ts (wb.setCell ⟨bs,2,none⟩ V')/\qj wb bs [.int .i64 4,.string (strN s),V,.slice none 0 0,.slice none 0 0,.int .i64 0]/\ExsC (wb.setCell ⟨bs,2,none⟩ V') (But w.heap.size bs wb.heap.size) [x,y] V':=by
 have h1:=h.hR;have h2:=h.wl;have h3:=h.lb;have h4:=h.bc;have hblk:∀q,q<cur.heap.size->some q≠V.ownBlock->wb.heap[q]? =cur.heap[q]?:=fun q a b=>hg.block q a b;have hbs:some bs≠V.ownBlock:=fun e=>by have:=h.vb bs e.symm;omega
 have hlow:∀q,q<lo->some q≠V.ownBlock:=fun q hq e=>by have:=(h.own.lt q e.symm).1;omega
 have hb:Below lo cur wb:=⟨hg.os,hg.tape,hg.output,hg.size,fun q hq=>hblk q (by omega) (hlow q hq)⟩;have hst:∀q,q≠bs->(wb.setCell ⟨bs,2,none⟩ V').heap[q]? =wb.heap[q]?:=fun q hq=>zo q hq;have hV':∀g,V'.ownBlock=some g->g≠bs:=fun g hgg e=>by
  subst e;rcases hv with e1|⟨g',e1,e2⟩
  ·exact hbs (e1▸hgg.symm)
  ·rw[e1]at hgg;injection hgg;omega
 refine⟨⟨(h.r0.mv.low hb (by omega)).low (qz (b:=bs)) (by omega),zl h.r0.th ((hst _ (by omega)).trans (hblk _ (by have:=h.r0.lt;omega) (hlow _ (by omega)))),by rw[zB];exact aS h.r0.lt hg.size,(h.r0.at'.under hb (by omega)).under (qz (b:=bs)) (by omega)⟩,h.va.of (hblk _ h4 hbs),?_⟩;have hr:=RowF.own ho;refine .mk [x,y] [k,k2] V' rfl ?_ fun i e q he hq=>?_
 ·obtain⟨A,c,e1,e2,e3,e4,e5⟩:=hr;refine⟨A,c,e1,e2,e3,e4,fun j u hu=>?_⟩;obtain⟨ad,a1,a2,a3⟩:=e5 j u (by simpa[exsC]using hu);have hob:V'.ownBlock=some ad.block:=by rw[e1,a1];rfl
  have hnb:=hV' _ hob;exact⟨ad,a1,⟨⟨by have:=a2.1;omega,hnb⟩,a2.2⟩,by rw[yp (hst _ (by rw[qh];exact hnb))];exact a3⟩
 ·rcases i with _|_|i
  ·simp at he hq;subst he hq;exact((h.kx.same fun q hq=>(hblk q (by have:=hq.2;omega) hq.1.2)).same fun q hq=>hst q (by have:=hq.2;omega)).more fun q hq=>⟨⟨by have:=hq.1.1;omega,by have:=hq.2;omega⟩,by have:=hq.2;have:=hg.size;omega⟩
  ·simp at he hq;subst he hq;exact((hy.same fun q hq=>(hblk q hq.2 (fun e=>by have:=h.vb q e.symm;have:=hq.1;omega))).same fun q hq=>hst q (by have:=hq.1;omega)).more fun q hq=>⟨⟨by have:=hq.1;omega,by have:=hq.1;omega⟩,by have:=hq.2;have:=hg.size;omega⟩
  ·simp at he
def loop(R:Nat)(S:Src)(d:Nat)(e:Par Ex)(he:xz R S d e)(b:Par (List St))(hb:ve R S d b)(ts:List Tok)(w:World)(ha:At w R S ts):Calls prog 183 #[.pointer (some ⟨R,0,none⟩),.int .i64 d] w (Got R S (QSt w.heap.size) w (zid S.z e b ts)):=by
 have hR:=ha.lt;have HB:=aQ hb;have HE:=aQ he;have H0:=aQ (Res0.start ha [.int .i64 0,.string ⟨#[]⟩,.slice none 0 0,.slice none 0 0,.slice none 0 0,.int .i64 0] 145);have HW:=aQ (znp S.z e b ts);have K:=aQ (jE R S 4 d e he ts _ H0.out.at');have s0:(w.alloc (.cells #[.int .i64 0,.string ⟨#[]⟩,.slice none 0 0,.slice none 0 0,.slice none 0 0,.int .i64 0] 145)).heap.size=w.heap.size+1:=by simp
 obtain⟨i0,hi,hz0,hz1,hz2⟩:=info_parts zk7;clear ha he hb
 generalize zid S.z e b ts=m at *
 go_enter func183,ntmps183
 go_wp2_with fail
 generalize w.alloc (.cells #[.int .i64 0,.string ⟨#[]⟩,.slice none 0 0,.slice none 0 0,.slice none 0 0,.int .i64 0] 145)=w0 at *
 refine K.out.mono ?_;clear K;rintro e' w1 ⟨hm,⟨p,r,xv,hr,rfl,hq,ha1⟩|⟨c,q,hr,rfl⟩⟩
 ·obtain⟨V,rfl,hq⟩:=hq;obtain⟨A,cp,hV0⟩:=zq hq.exs;have hV:V=.slice A 1 cp:=hV0;clear hV0;subst hV;obtain⟨ks,hks,hown,hkid⟩:=hq;obtain⟨k,rfl⟩:∃k,ks=[k]:=by
   match ks,hks with
   | [k],_=>exact⟨k,rfl⟩
  have hown1:w1.ownsRow w0.heap.size 202 5 (.slice A 1 cp) 1 (exC p.2 k):=by simpa[exsC]using hown
  have hkx:=hkid 0 p.2 k rfl rfl;have s1:=hm.size;have bt:=za w1 (.cells #[.int .i64 4,.string (strN p.1),.slice A 1 cp,.slice none 0 0,.slice none 0 0,.int .i64 0] 145)
  have HL:Hid (Lp R S w w0.heap.size w1.heap.size (.slice A 1 cp) p.1 p.2 k r (w1.alloc (.cells #[.int .i64 4,.string (strN p.1),.slice A 1 cp,.slice none 0 0,.slice none 0 0,.int .i64 0] 145))):=
   ⟨(H0.out.moves hm ha1 hR).below bt (aR _),qj.block (cs:=[_,_,_,_,_,_]) (ye w1 _),hown1.alloc _,hkx.same fun q h=>bt.block q h.2,hR,by omega,s1,by simp,fun g hg=>(hown1.lt g hg).2⟩
  have HW2:Hid (m=(qt S.z [116,111] r).bind fun _ r'=>(e r').bind fun y q=>(b q).bind fun l q'=>.ok (.mk 4 p.1 [p.2,y] l [] 0) q'):=by show _=_;rw[HW.out,hr];rfl
  have K:=aQ (want R S r [116,111] ⟨#[116,111]⟩ _ HL.out.r0.at' (by kernel_rfl) (by unfold Byn;decide));clear hm hr hown hkid hown1 hkx ha1 bt HW hks
  go_wp2_with fail
  generalize w1.alloc (.cells #[.int .i64 4,.string (strN p.1),.slice A 1 cp,.slice none 0 0,.slice none 0 0,.int .i64 0] 145)=w2 at *
  refine K.out.mono ?_;clear K;rintro e' w3 ⟨hm,⟨u,r3,xu,hr,rfl,hq,ha3⟩|⟨c,q,hr,rfl⟩⟩
  ·rw[show xu=.tuple #[] from hq];have hdd:zr R w3 w3.drew:=⟨rfl,rfl,rfl,aR _,fun _ _ _=>rfl⟩;have ha3d:=ha3.below ((Below.refl w3.heap.size w3).drew) (aR _);have HJ:=aQ ((HL.out.moves hm ha3).moves hdd ha3d);have HW3:Hid (m=(e r3).bind fun y q=>(b q).bind fun l q'=>.ok (.mk 4 p.1 [p.2,y] l [] 0) q'):=by show _=_;rw[HW2.out,hr];rfl
   clear hm hr hq ha3 hdd ha3d HW2
   (go_wp2_with fail);refine wp_region_held_drew (S:=fun _=>True) (by kernel_rfl) trivial (fun hHeld=>?_);refine aO 0 ?_
   try simp only[Act.put,zzs]
   refine aO 2 ?_
   try simp only[Act.put,zzs]
   refine aO 3 ?_
   try simp only[Act.put,zzs]
   generalize w3.drew=wd at *
   refine ab 1 4 rfl rfl (fun K hK=>?_) fun K hK=>?_
   ·have hce:=(HJ.out.va.cell 2 _ rfl).1;go_simp;clear hce;refine hK.out _ _ trivial (fun hHeld=>?_);clear hK K;refine aa 4 rfl fun K hK=>?_;go_simp;refine(HE.out _ r3 HJ.out.r0.at').mono ?_;rintro e' wc ⟨hm,⟨y,r4,yv,hr,rfl,hq,ha4⟩|⟨cc,q,hr,rfl⟩⟩
    ·obtain⟨k2,rfl,hk2,_⟩:=zR hq;obtain⟨A2,c2,rfl⟩:=zq hk2;have J4:=aQ (HJ.out.moves hm ha4);have Y4:=aQ (hk2.more (D':=Rng (w1.heap.size+1) wc.heap.size) fun q h=>⟨by have:=h.1;have:=HJ.out.bc;omega,h.2⟩);have HW4:Hid (m=(b r4).bind fun l q'=>.ok (.mk 4 p.1 [p.2,y] l [] 0) q'):=by show _=_;rw[HW3.out,hr];rfl
     clear hm hr hq ha4 hk2;refine hK.out _ _ trivial (fun hHeld=>?_);clear hK K;refine aa 5 rfl fun K hK=>?_;go_simp;have mz:=zr.alloc R wc (exO y (.slice A2 y.aX.length c2));have bz:=za wc (exO y (.slice A2 y.aX.length c2));have J5:=aQ (J4.out.moves mz (J4.out.r0.at'.below bz (aR _)));have Y5:=aQ ((Y4.out.same fun q h=>bz.block q h.2).more (D':=Rng (w1.heap.size+1) (wc.alloc (exO y (.slice A2 y.aX.length c2))).heap.size) fun q h=>⟨h.1,aS h.2 bz.size⟩);have HN:Hid (∀(j:Nat) (u:Value),(exC y (.slice A2 y.aX.length c2))[j]? =some u->(wc.alloc (exO y (.slice A2 y.aX.length c2))).cell? ((Addr.mk wc.heap.size 0 none).add j)=some u):=fun j u hu=>by
      rw[Addr.add_mid];exact zZ (cs:=exC y (.slice A2 y.aX.length c2)) (ye wc (exO y (.slice A2 y.aX.length c2))) j u hu
     clear mz bz
     generalize wc.alloc (exO y (.slice A2 y.aX.length c2))=wz at *
     refine hK.out _ _ trivial (fun hHeld=>?_);clear hK K;refine aa 6 rfl fun K hK=>?_;rw[if_pos (by rfl)];refine zK _ (.tmp 12) (.tmp 16) 143 rfl w0.heap.size 202 i0 _ 5 64 underlying143 hi hz0 hz1 hz2 rfl (by omega) _ _ _ rfl J5.out.own ⟨wc.heap.size,0,none⟩ 1 (exC y (.slice A2 y.aX.length c2)) rfl rfl HN.out one5 (by omega) (by unfold maxLen;omega) (by have:=J5.out.bc;have:=J5.out.lb;omega) ?_;intro v' wb ho hg hv;obtain⟨A6,c6,rfl⟩:=qm ho;have HD:=J5.out.done Y5.out ho hg hv;obtain⟨D1,D2,D3⟩:=HD;have HR6:=aQ D1;have HV6:=aQ D2;have HX6:=aQ D3;have sb:wz.heap.size<=wb.heap.size:=hg.size;have sbc:=J5.out.bc;clear ho hg hv D1 D2 D3 HN;refine hK.out _ _ trivial (fun hHeld=>?_);clear hK K;simp only[Act.put,zz4,zz5,zz6];refine aO 7 ?_
     try simp only[Act.put,zzs]
     refine aa 8 rfl fun K hK=>?_;obtain⟨hce,hcf⟩:=HV6.out.cell 2 _ rfl;go_simp;have V7:=aQ (HV6.out.set 2 (.slice A6 2 c6));have hsz:(wb.setCell ⟨w1.heap.size,2,none⟩ (.slice A6 2 c6)).heap.size=wb.heap.size:=zB;clear hce hcf;refine hK.out _ _ trivial (fun hHeld=>?_);clear hK K hHeld;refine aJ (by kernel_rfl) ?_ _
     generalize hwq:wb.setCell ⟨w1.heap.size,2,none⟩ (.slice A6 2 c6)=w7 at *
     have K:=aQ (HB.out _ r4 HR6.out.at')
     (go_wp2_with fail);refine K.out.mono ?_;clear K;rintro e' w8 ⟨hm,⟨l,r8,Bv,hr,rfl,hq,ha8⟩|⟨c,q,hr,rfl⟩⟩
     ·obtain⟨A8,c8,rfl⟩:=qg hq;have H8:=HR6.out.moves hm ha8 hR;have hRL:w1.heap.size≠R:=by omega
      have V8:=V7.out.of (hm.block' (k:=w1.heap.size) (by omega) hRL);have s8:=hm.size;obtain⟨f8,z8⟩:=V8.cell 3 _ rfl;have V9:=V8.set 3 (.slice A8 l.length c8);obtain⟨q0,_⟩:=V9.cell 0 _ rfl;obtain⟨q1,_⟩:=V9.cell 1 _ rfl;obtain⟨q2,_⟩:=V9.cell 2 _ rfl;obtain⟨q3,_⟩:=V9.cell 3 _ rfl;obtain⟨q4,_⟩:=V9.cell 4 _ rfl;obtain⟨q5,_⟩:=V9.cell 5 _ rfl;have X8:=HX6.out.same (hm.same fun q h=>⟨by have:=h.2;omega,by have:=h.1.1;omega⟩);have hoth:∀k,k≠w1.heap.size->(w8.setCell ⟨w1.heap.size,3,none⟩ (.slice A8 l.length c8)).heap[k]? =w8.heap[k]?:=fun k hk=>zo k hk;have H9:Hid (Res0 R S _ w r8 (w8.setCell ⟨w1.heap.size,3,none⟩ (.slice A8 l.length c8))):=⟨H8.mv.low (qz (b:=w1.heap.size)) (by omega),zl H8.th (hoth _ (by omega)),by rw[zB];exact H8.lt,H8.at'.other (g:=w1.heap.size) (by omega) hoth⟩
      have S9:Hid (StK (w8.setCell ⟨w1.heap.size,3,none⟩ (.slice A8 l.length c8)) (But w.heap.size w1.heap.size w8.heap.size) (.mk 4 p.1 [p.2,y] l [] 0) ⟨.slice A6 2 c6,.slice A8 l.length c8,.slice none 0 0⟩):=
       ⟨(X8.same fun q h=>hoth q h.1.2).more fun q h=>⟨h.1,by have:=h.2;omega⟩,(StsC.same hq fun q h=>hoth q (by have:=h.1;omega)).more fun q h=>⟨⟨by have:=h.1;omega,by have:=h.1;omega⟩,h.2⟩,StsC.nothing _ _⟩
      have s9:(w8.setCell ⟨w1.heap.size,3,none⟩ (.slice A8 l.length c8)).heap.size=w8.heap.size:=zB;have HW9:Hid (m=.ok (.mk 4 p.1 [p.2,y] l [] 0) r8):=by show _=_;rw[HW4.out,hr];rfl
      clear hm hr hq ha8 H8 V8 V9 X8 hoth HW4
      go_wp2_with(refine zc zV rfl (.tmp 4) (.tmp 23) rfl rfl w.heap.size rfl [_,_,_,_,_,_] rfl rfl H9.out.th (by simp[Value.oneCell']) ?_;intro w10 g1 g2 g3 g4 g5)
      refine vS (zx (cs:=[_,_,_,_,_,_]) results183 underlying145 rfl zV _ _ w.heap.size rfl g1) rfl ?_;exact .ok (H9.out.mv.low g3 (aR _)) HW9.out ((S9.out.same fun q h=>g4 q (by have:=h.1.1;omega)).more fun q h=>⟨by have:=h.1.1;omega,by rw[g5];have:=h.2;omega⟩).v (H9.out.at'.other hR g4)
     ·have HQ:=aQ (HR6.out.mv.trans hm);have HR:=aQ hr;clear hm hr;go_wp2;exact⟨rfl,.bad HQ.out (by rw[HW4.out,HR.out];rfl)⟩
    ·exact⟨rfl,.bad (HJ.out.r0.mv.trans hm) (by rw[HW3.out,hr];rfl)⟩
   ·go_simp;refine(HE.out _ r3 HJ.out.r0.at').mono ?_;rintro e' wc ⟨hm,⟨y,r4,yv,hr,rfl,hq,ha4⟩|⟨cc,q,hr,rfl⟩⟩
    ·obtain⟨k2,rfl,hk2,_⟩:=zR hq;obtain⟨A2,c2,rfl⟩:=zq hk2;have J4:=aQ (HJ.out.moves hm ha4);have Y4:=aQ (hk2.more (D':=Rng (w1.heap.size+1) wc.heap.size) fun q h=>⟨by have:=h.1;have:=HJ.out.bc;omega,h.2⟩);have HW4:Hid (m=(b r4).bind fun l q'=>.ok (.mk 4 p.1 [p.2,y] l [] 0) q'):=by show _=_;rw[HW3.out,hr];rfl
     clear hm hr hq ha4 hk2;refine hK.out _ _ trivial (fun hHeld=>?_);clear hK K;refine ab 1 5 rfl rfl (fun K hK=>?_) fun K hK=>?_
     ·have hce:=(J4.out.va.cell 2 _ rfl).1;go_simp;clear hce;refine hK.out _ _ trivial (fun hHeld=>?_);clear hK K;refine aa 5 rfl fun K hK=>?_;go_simp;have mz:=zr.alloc R wc (exO y (.slice A2 y.aX.length c2));have bz:=za wc (exO y (.slice A2 y.aX.length c2));have J5:=aQ (J4.out.moves mz (J4.out.r0.at'.below bz (aR _)));have Y5:=aQ ((Y4.out.same fun q h=>bz.block q h.2).more (D':=Rng (w1.heap.size+1) (wc.alloc (exO y (.slice A2 y.aX.length c2))).heap.size) fun q h=>⟨h.1,aS h.2 bz.size⟩);have HN:Hid (∀(j:Nat) (u:Value),(exC y (.slice A2 y.aX.length c2))[j]? =some u->(wc.alloc (exO y (.slice A2 y.aX.length c2))).cell? ((Addr.mk wc.heap.size 0 none).add j)=some u):=fun j u hu=>by
       rw[Addr.add_mid];exact zZ (cs:=exC y (.slice A2 y.aX.length c2)) (ye wc (exO y (.slice A2 y.aX.length c2))) j u hu
      clear mz bz
      generalize wc.alloc (exO y (.slice A2 y.aX.length c2))=wz at *
      refine hK.out _ _ trivial (fun hHeld=>?_);clear hK K;refine aa 6 rfl fun K hK=>?_;rw[if_pos (by rfl)];refine zK _ (.tmp 12) (.tmp 16) 143 rfl w0.heap.size 202 i0 _ 5 64 underlying143 hi hz0 hz1 hz2 rfl (by omega) _ _ _ rfl J5.out.own ⟨wc.heap.size,0,none⟩ 1 (exC y (.slice A2 y.aX.length c2)) rfl rfl HN.out one5 (by omega) (by unfold maxLen;omega) (by have:=J5.out.bc;have:=J5.out.lb;omega) ?_;intro v' wb ho hg hv;obtain⟨A6,c6,rfl⟩:=qm ho;have HD:=J5.out.done Y5.out ho hg hv;obtain⟨D1,D2,D3⟩:=HD;have HR6:=aQ D1;have HV6:=aQ D2;have HX6:=aQ D3;have sb:wz.heap.size<=wb.heap.size:=hg.size;have sbc:=J5.out.bc;clear ho hg hv D1 D2 D3 HN;refine hK.out _ _ trivial (fun hHeld=>?_);clear hK K;simp only[Act.put,zz4,zz5,zz6];refine aO 7 ?_
      try simp only[Act.put,zzs]
      refine aa 8 rfl fun K hK=>?_;obtain⟨hce,hcf⟩:=HV6.out.cell 2 _ rfl;go_simp;have V7:=aQ (HV6.out.set 2 (.slice A6 2 c6));have hsz:(wb.setCell ⟨w1.heap.size,2,none⟩ (.slice A6 2 c6)).heap.size=wb.heap.size:=zB;clear hce hcf;refine hK.out _ _ trivial (fun hHeld=>?_);clear hK K hHeld;refine aJ (by kernel_rfl) ?_ _
      generalize hwq:wb.setCell ⟨w1.heap.size,2,none⟩ (.slice A6 2 c6)=w7 at *
      have K:=aQ (HB.out _ r4 HR6.out.at')
      (go_wp2_with fail);refine K.out.mono ?_;clear K;rintro e' w8 ⟨hm,⟨l,r8,Bv,hr,rfl,hq,ha8⟩|⟨c,q,hr,rfl⟩⟩
      ·obtain⟨A8,c8,rfl⟩:=qg hq;have H8:=HR6.out.moves hm ha8 hR;have hRL:w1.heap.size≠R:=by omega
       have V8:=V7.out.of (hm.block' (k:=w1.heap.size) (by omega) hRL);have s8:=hm.size;obtain⟨f8,z8⟩:=V8.cell 3 _ rfl;have V9:=V8.set 3 (.slice A8 l.length c8);obtain⟨q0,_⟩:=V9.cell 0 _ rfl;obtain⟨q1,_⟩:=V9.cell 1 _ rfl;obtain⟨q2,_⟩:=V9.cell 2 _ rfl;obtain⟨q3,_⟩:=V9.cell 3 _ rfl;obtain⟨q4,_⟩:=V9.cell 4 _ rfl;obtain⟨q5,_⟩:=V9.cell 5 _ rfl;have X8:=HX6.out.same (hm.same fun q h=>⟨by have:=h.2;omega,by have:=h.1.1;omega⟩);have hoth:∀k,k≠w1.heap.size->(w8.setCell ⟨w1.heap.size,3,none⟩ (.slice A8 l.length c8)).heap[k]? =w8.heap[k]?:=fun k hk=>zo k hk;have H9:Hid (Res0 R S _ w r8 (w8.setCell ⟨w1.heap.size,3,none⟩ (.slice A8 l.length c8))):=⟨H8.mv.low (qz (b:=w1.heap.size)) (by omega),zl H8.th (hoth _ (by omega)),by rw[zB];exact H8.lt,H8.at'.other (g:=w1.heap.size) (by omega) hoth⟩
       have S9:Hid (StK (w8.setCell ⟨w1.heap.size,3,none⟩ (.slice A8 l.length c8)) (But w.heap.size w1.heap.size w8.heap.size) (.mk 4 p.1 [p.2,y] l [] 0) ⟨.slice A6 2 c6,.slice A8 l.length c8,.slice none 0 0⟩):=
        ⟨(X8.same fun q h=>hoth q h.1.2).more fun q h=>⟨h.1,by have:=h.2;omega⟩,(StsC.same hq fun q h=>hoth q (by have:=h.1;omega)).more fun q h=>⟨⟨by have:=h.1;omega,by have:=h.1;omega⟩,h.2⟩,StsC.nothing _ _⟩
       have s9:(w8.setCell ⟨w1.heap.size,3,none⟩ (.slice A8 l.length c8)).heap.size=w8.heap.size:=zB;have HW9:Hid (m=.ok (.mk 4 p.1 [p.2,y] l [] 0) r8):=by show _=_;rw[HW4.out,hr];rfl
       clear hm hr hq ha8 H8 V8 V9 X8 hoth HW4
       go_wp2_with(refine zc zV rfl (.tmp 4) (.tmp 23) rfl rfl w.heap.size rfl [_,_,_,_,_,_] rfl rfl H9.out.th (by simp[Value.oneCell']) ?_;intro w10 g1 g2 g3 g4 g5)
       refine vS (zx (cs:=[_,_,_,_,_,_]) results183 underlying145 rfl zV _ _ w.heap.size rfl g1) rfl ?_;exact .ok (H9.out.mv.low g3 (aR _)) HW9.out ((S9.out.same fun q h=>g4 q (by have:=h.1.1;omega)).more fun q h=>⟨by have:=h.1.1;omega,by rw[g5];have:=h.2;omega⟩).v (H9.out.at'.other hR g4)
      ·have HQ:=aQ (HR6.out.mv.trans hm);have HR:=aQ hr;clear hm hr;go_wp2;exact⟨rfl,.bad HQ.out (by rw[HW4.out,HR.out];rfl)⟩
     ·go_simp;have mz:=zr.alloc R wc (exO y (.slice A2 y.aX.length c2));have bz:=za wc (exO y (.slice A2 y.aX.length c2));have J5:=aQ (J4.out.moves mz (J4.out.r0.at'.below bz (aR _)));have Y5:=aQ ((Y4.out.same fun q h=>bz.block q h.2).more (D':=Rng (w1.heap.size+1) (wc.alloc (exO y (.slice A2 y.aX.length c2))).heap.size) fun q h=>⟨h.1,aS h.2 bz.size⟩);have HN:Hid (∀(j:Nat) (u:Value),(exC y (.slice A2 y.aX.length c2))[j]? =some u->(wc.alloc (exO y (.slice A2 y.aX.length c2))).cell? ((Addr.mk wc.heap.size 0 none).add j)=some u):=fun j u hu=>by
       rw[Addr.add_mid];exact zZ (cs:=exC y (.slice A2 y.aX.length c2)) (ye wc (exO y (.slice A2 y.aX.length c2))) j u hu
      clear mz bz
      generalize wc.alloc (exO y (.slice A2 y.aX.length c2))=wz at *
      refine hK.out _ _ trivial (fun hHeld=>?_);clear hK K;refine aa 1 rfl fun K hK=>?_;have hce:=(J5.out.va.cell 2 _ rfl).1;go_simp;clear hce;refine hK.out _ _ trivial (fun hHeld=>?_);clear hK K;refine aa 6 rfl fun K hK=>?_;rw[if_pos (by rfl)];refine zK _ (.tmp 12) (.tmp 16) 143 rfl w0.heap.size 202 i0 _ 5 64 underlying143 hi hz0 hz1 hz2 rfl (by omega) _ _ _ rfl J5.out.own ⟨wc.heap.size,0,none⟩ 1 (exC y (.slice A2 y.aX.length c2)) rfl rfl HN.out one5 (by omega) (by unfold maxLen;omega) (by have:=J5.out.bc;have:=J5.out.lb;omega) ?_;intro v' wb ho hg hv;obtain⟨A6,c6,rfl⟩:=qm ho;have HD:=J5.out.done Y5.out ho hg hv;obtain⟨D1,D2,D3⟩:=HD;have HR6:=aQ D1;have HV6:=aQ D2;have HX6:=aQ D3;have sb:wz.heap.size<=wb.heap.size:=hg.size;have sbc:=J5.out.bc;clear ho hg hv D1 D2 D3 HN;refine hK.out _ _ trivial (fun hHeld=>?_);clear hK K;simp only[Act.put,zz4,zz5,zz6];refine aO 7 ?_
      try simp only[Act.put,zzs]
      refine aa 8 rfl fun K hK=>?_;obtain⟨hce,hcf⟩:=HV6.out.cell 2 _ rfl;go_simp;have V7:=aQ (HV6.out.set 2 (.slice A6 2 c6));have hsz:(wb.setCell ⟨w1.heap.size,2,none⟩ (.slice A6 2 c6)).heap.size=wb.heap.size:=zB;clear hce hcf;refine hK.out _ _ trivial (fun hHeld=>?_);clear hK K hHeld;refine aJ (by kernel_rfl) ?_ _
      generalize hwq:wb.setCell ⟨w1.heap.size,2,none⟩ (.slice A6 2 c6)=w7 at *
      have K:=aQ (HB.out _ r4 HR6.out.at')
      (go_wp2_with fail);refine K.out.mono ?_;clear K;rintro e' w8 ⟨hm,⟨l,r8,Bv,hr,rfl,hq,ha8⟩|⟨c,q,hr,rfl⟩⟩
      ·obtain⟨A8,c8,rfl⟩:=qg hq;have H8:=HR6.out.moves hm ha8 hR;have hRL:w1.heap.size≠R:=by omega
       have V8:=V7.out.of (hm.block' (k:=w1.heap.size) (by omega) hRL);have s8:=hm.size;obtain⟨f8,z8⟩:=V8.cell 3 _ rfl;have V9:=V8.set 3 (.slice A8 l.length c8);obtain⟨q0,_⟩:=V9.cell 0 _ rfl;obtain⟨q1,_⟩:=V9.cell 1 _ rfl;obtain⟨q2,_⟩:=V9.cell 2 _ rfl;obtain⟨q3,_⟩:=V9.cell 3 _ rfl;obtain⟨q4,_⟩:=V9.cell 4 _ rfl;obtain⟨q5,_⟩:=V9.cell 5 _ rfl;have X8:=HX6.out.same (hm.same fun q h=>⟨by have:=h.2;omega,by have:=h.1.1;omega⟩);have hoth:∀k,k≠w1.heap.size->(w8.setCell ⟨w1.heap.size,3,none⟩ (.slice A8 l.length c8)).heap[k]? =w8.heap[k]?:=fun k hk=>zo k hk;have H9:Hid (Res0 R S _ w r8 (w8.setCell ⟨w1.heap.size,3,none⟩ (.slice A8 l.length c8))):=⟨H8.mv.low (qz (b:=w1.heap.size)) (by omega),zl H8.th (hoth _ (by omega)),by rw[zB];exact H8.lt,H8.at'.other (g:=w1.heap.size) (by omega) hoth⟩
       have S9:Hid (StK (w8.setCell ⟨w1.heap.size,3,none⟩ (.slice A8 l.length c8)) (But w.heap.size w1.heap.size w8.heap.size) (.mk 4 p.1 [p.2,y] l [] 0) ⟨.slice A6 2 c6,.slice A8 l.length c8,.slice none 0 0⟩):=
        ⟨(X8.same fun q h=>hoth q h.1.2).more fun q h=>⟨h.1,by have:=h.2;omega⟩,(StsC.same hq fun q h=>hoth q (by have:=h.1;omega)).more fun q h=>⟨⟨by have:=h.1;omega,by have:=h.1;omega⟩,h.2⟩,StsC.nothing _ _⟩
       have s9:(w8.setCell ⟨w1.heap.size,3,none⟩ (.slice A8 l.length c8)).heap.size=w8.heap.size:=zB;have HW9:Hid (m=.ok (.mk 4 p.1 [p.2,y] l [] 0) r8):=by show _=_;rw[HW4.out,hr];rfl
       clear hm hr hq ha8 H8 V8 V9 X8 hoth HW4
       go_wp2_with(refine zc zV rfl (.tmp 4) (.tmp 23) rfl rfl w.heap.size rfl [_,_,_,_,_,_] rfl rfl H9.out.th (by simp[Value.oneCell']) ?_;intro w10 g1 g2 g3 g4 g5)
       refine vS (zx (cs:=[_,_,_,_,_,_]) results183 underlying145 rfl zV _ _ w.heap.size rfl g1) rfl ?_;exact .ok (H9.out.mv.low g3 (aR _)) HW9.out ((S9.out.same fun q h=>g4 q (by have:=h.1.1;omega)).more fun q h=>⟨by have:=h.1.1;omega,by rw[g5];have:=h.2;omega⟩).v (H9.out.at'.other hR g4)
      ·have HQ:=aQ (HR6.out.mv.trans hm);have HR:=aQ hr;clear hm hr;go_wp2;exact⟨rfl,.bad HQ.out (by rw[HW4.out,HR.out];rfl)⟩
    ·exact⟨rfl,.bad (HJ.out.r0.mv.trans hm) (by rw[HW3.out,hr];rfl)⟩
  ·have HQ:=aQ (HL.out.r0.mv.trans hm);have HR:=aQ hr;clear hm hr;go_wp2;exact⟨rfl,.bad HQ.out (by rw[HW2.out,HR.out];rfl)⟩
 ·have HQ:=aQ (H0.out.mv.trans hm);have HR:=aQ hr;clear hm hr;go_wp2;exact⟨rfl,.bad HQ.out (by rw[HW.out,HR.out];rfl)⟩
end
end
end Go.Proofs.YtcilgkdnjgmogaaGreatDoor
