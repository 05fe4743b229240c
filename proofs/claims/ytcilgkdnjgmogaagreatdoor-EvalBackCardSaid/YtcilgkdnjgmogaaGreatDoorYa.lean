/- A part of the proof. -/
import Derived.Test.YtcilgkdnjgmogaaGreatDoorYZ
import Derived.Defers
import Derived.Recover
import Derived.Deep.DeepCutAuto
import Derived.Test.YtcilgkdnjgmogaaGreatDoorYL
import Derived.RangeFuncNested
import Derived.RangeFuncBound
import Derived.RangeFuncCalls
import Derived.RangeFuncLeaves
import Derived.Shelf.Abstract
import Derived.Shelf.RegionOpen
import Derived.WalkKit
import Derived.OwnWalkIn
import Derived.TacticsInMore
import Derived.LoopNIn
import Derived.LoopIn
namespace Go.Proofs.YtcilgkdnjgmogaaGreatDoor
open Go.Proofs.Tryz
set_option maxRecDepth 100000
set_option maxHeartbeats 12800000
set_option linter.all false
variable {D:Nat->Prop} {R m z:Nat} {W w w1:World} {l:List Nat}
section
section
def ze3{P:Tok->Prop}(h:∀p,p<l.length->(qC (l.drop p)).err=0->P ⟨(qC (l.drop p)).kind,(qC (l.drop p)).aZ,(qC (l.drop p)).num,p⟩):∀(f p:Nat) (ts:List Tok),(∀t∈ts,P t)->∀t∈(vy l f p ts).toks,P t
 | 0,_,_,hts=>hts
 | f+1,p,ts,hts=>by
  intro t ht;unfold vy at ht
  split at ht
  ·rename_i hp
   split at ht
   ·cases ht
   ·rename_i he
    split at ht
    ·cases ht
    ·refine ze3 h f _ _ ?_ t ht;intro u hu;rcases List.mem_append.1 hu with h1|h1
     ·exact hts u h1
     ·simp at h1;subst h1;exact h p hp (by simpa using he)
  ·exact hts t ht
def zkf{P:Tok->Prop}(h:∀p,p<l.length->(qC (l.drop p)).err=0->P ⟨(qC (l.drop p)).kind,(qC (l.drop p)).aZ,(qC (l.drop p)).num,p⟩):∀t∈(xx l).toks,P t:=by
 unfold xx
 split
 ·intro t ht;cases ht
 ·exact ze3 h _ _ _ (fun t ht=>by cases ht)
def zlm{r:List Nat}(h:(qC r).err=0)(hy:Byn r):Byn (qC r).aZ/\((qC r).kind=1->yz (qC r).aZ=false):=by
 have nilB:Byn []:=fun b hb=>by cases hb
 cases r with
 | nil=>exact⟨nilB,fun h1=>by simp[qC,bad]at h1⟩
 | cons b r=>
  rw[vV]at h⊢;by_cases h1:xO b=true
  ·rw[if_pos h1]at h⊢;unfold zer at h⊢
   split at h
   ·simp[bad]at h
   ·rename_i hn
    rw[if_neg hn];refine⟨hy.sub fun x hx=>List.mem_of_mem_take hx,fun hk=>?_⟩;dsimp only at hk⊢;cases hw:yz (List.take (run kE (b::r)) (b::r))with
    | false=>rfl
    | true=>rw[hw]at hk;simp at hk
  ·rw[if_neg h1]at h⊢;by_cases h2:qu b=true
   ·rw[if_pos h2]at h⊢;unfold numT at h⊢;cases hv:kG (List.take (run qu (b::r)) (b::r)) 0 with
    | none=>rw[hv]at h;simp[bad]at h
    | some v=>exact⟨nilB,fun hk=>by simp at hk⟩
   ·rw[if_neg h2]at h⊢;by_cases h3:b=34
    ·rw[if_pos h3]at h⊢;unfold jN at h⊢
     split at h
     ·rename_i hq
      rw[if_pos hq]
      split at h
      ·simp[bad]at h
      ·rename_i hn
       rw[if_neg hn];exact⟨hy.sub fun x hx=>List.mem_of_mem_drop (List.mem_of_mem_take hx),fun hk=>by simp at hk⟩
     ·simp[bad]at h
    ·rw[if_neg h3]at h⊢;unfold yu at h⊢
     split at h
     ·simp[bad]at h
     ·rename_i hn
      rw[if_neg hn];exact⟨zb4 hy,fun hk=>by simp at hk⟩
def zfe(hy:Byn l):∀t∈(xx l).toks,Byn t.aZ/\(t.kind=1->yz t.aZ=false):=
 zkf fun _ _ he=>zlm he (hy.sub fun _ hx=>List.mem_of_mem_drop hx)
def zbt:∀(f p:Nat) (ts:List Tok),ts.length<=2048->(vy l f p ts).toks.length<=2048
 | 0,_,_,h=>h
 | f+1,p,ts,h=>by
  unfold vy
  split
  ·split
   ·exact aK _
   ·split
    ·exact aK _
    ·exact zbt f _ _ (by simp;omega)
  ·exact h
def zi6(l:List Nat):(xx l).toks.length<=2048:=by
 unfold xx
 split
 ·exact aK _
 ·exact zbt _ _ _ (aK _)
end
section
open Go.RowKit
def zlt(w:World):(binOp .eql 20 .nilIface .nilIface).run prog w=.ok (.bool true) w:=by
 have h:∀d:Nat,(Op.equalIn (d+1) 20 .nilIface .nilIface).run prog w=.ok true w:=fun d=>by simp[Op.equalIn,run_underlying underlying20]
 simp only[binOp];simp[Op.equal,Op.maxDepth,h 9999]
def zgl(w:World)(u:TypeId)(v:Value):(binOp .eql 20 (.iface u v) .nilIface).run prog w=.ok (.bool false) w:=by
 have h:∀d:Nat,(Op.equalIn (d+1) 20 (.iface u v) .nilIface).run prog w=.ok false w:=fun d=>by simp[Op.equalIn,run_underlying underlying20]
 simp only[binOp];simp[Op.equal,Op.maxDepth,h 9999]
def zms(w:World)(v:Value):(Instr.typeAssert (.iface 75 v) 20 75 true).run prog w=.ok (.tuple #[v,.bool true]) w:=by
 simp[Instr.typeAssert,run_underlying underlying75]
def zkn(a b c v:Value):#[a,b,c]++((Array.replicate 19 undef).setIfInBounds 3 v).setIfInBounds 0 v=#[a,b,c,v,undef,undef,v,undef,undef,undef,undef,undef,undef,undef,undef,undef,undef,undef,undef,undef,undef,undef]:=by kernel_rfl
def zgy{P:Program}{fn:Func}{c₀:Frame}{cs:List Frame}{R:Ending->FrameMode->World->Prop}{a:Act}{v:Value}{c:Frame}(hc:c={ c₀ with mode:=c.mode })(hv:(results fn a.tmps).run P w=.ok v w)(hd:a.defers=[])(hR:R (.returned v) c.mode w):bodyPostS P fn c₀ cs R Exit.ret a (c::cs) w:=by
 exact⟨hd,c.mode,by rw[<- hc],v,hv,hR⟩
def zek{P:Program}{fn:Func}{c₀:Frame}{cs:List Frame}{R:Ending->FrameMode->World->Prop}{a:Act}{v:Value}{c:Frame}(hc:c={ c₀ with mode:=c.mode })(hv:(results fn a.tmps).run P w=.ok v w)(hd:a.defers=[])(hR:R (.returned v) c.mode w):bodyPostS P fn c₀ cs R Exit.normal a (c::cs) w:=by
 exact⟨hd,c.mode,by rw[<- hc],v,hv,hR⟩
def zii(a b c:Addr)(w:World):CallsD prog 34 #[.pointer (some a),.pointer (some b),.pointer (some c)] .returning w fun e u' w'=>e=.returned (.tuple #[])/\u'=.returning/\w'=w:=by
 have hen:=zlt;refine callsD_of_wpS func34 rfl fun c₀ cs hu=>?_;apply wpS_seq;apply wpS_region;generalize hQ:Exit.thenS _ _=Q';simp only[ntmps34];simp[wpOpsS,go_sem,recoverD,hu];rw[<- hQ];simp only[Exit.thenS];clear hQ;refine wpS_of_wp ?_;rw[zkn];go_wp2;refine zgy (v:=.tuple #[]) rfl ?_ rfl ?_
 ·simp[results,results34]
 ·exact⟨rfl,hu,rfl⟩
def wH(a b c:Nat)(code aW:Nat)(older:List PanicEntry)(w:World)(u0:Value)(x0 y0:Int)(ha:qj w a [u0])(hb:qj w b [.int .i64 x0])(hc:qj w c [.int .i64 y0])(hab:a≠b)(hac:a≠c)(hbc:b≠c):CallsD prog 34 #[.pointer (some ⟨a,0,none⟩),.pointer (some ⟨b,0,none⟩),.pointer (some ⟨c,0,none⟩)] (.panicking ({ v:=.iface 75 (.agg #[.int .i64 code,.int .i64 aW]),recovered:=false }::older)) w fun e u' w'=>
   e=.returned (.tuple #[])/\u'=.panicking ({ v:=.iface 75 (.agg #[.int .i64 code,.int .i64 aW]),recovered:=true }::older)/\qj w' a [.slice none 0 0]/\qj w' b [.int .i64 code]/\qj w' c [.int .i64 aW]/\∀B,B<=a->B<=b->B<=c->Below B w w':=by
 have hes:=zgl;have has:=zms;have la:=ha.lt (by simp);have lb:=hb.lt (by simp);have lc:=hc.lt (by simp);obtain⟨a1,a2⟩:=ha.cell 0 _ rfl;obtain⟨b1,b2⟩:=hb.cell 0 _ rfl;obtain⟨c1,c2⟩:=hc.cell 0 _ rfl;have HA:=aQ ha;have HB:=aQ hb;have HC:=aQ hc;clear ha hb hc;refine callsD_of_wpS func34 rfl fun c₀ cs hu=>?_;apply wpS_seq;apply wpS_region;generalize hQ:Exit.thenS _ _=Q';simp only[ntmps34];simp[wpOpsS,go_sem,recoverD,hu];rw[<- hQ];simp only[Exit.thenS];clear hQ;refine wpS_of_wp ?_;rw[zkn]
 go_wp2_with fail
 go_region
 have va:=((HA.out.set 0 (.slice none 0 0)).of (zo (b:=b) (i:=0) (u:=.int .i64 code) a hab)).of (zo (b:=c) (i:=0) (u:=.int .i64 aW) a hac);have vb:=((HB.out.of (zo (b:=a) (i:=0) (u:=.slice none 0 0) b (Ne.symm hab))).set 0 (.int .i64 code)).of (zo (b:=c) (i:=0) (u:=.int .i64 aW) b hbc);have vc:=((HC.out.of (zo (b:=a) (i:=0) (u:=.slice none 0 0) c (Ne.symm hac))).of (zo (b:=b) (i:=0) (u:=.int .i64 code) c (Ne.symm hbc))).set 0 (.int .i64 aW);have hsz:(((w.setCell ⟨a,0,none⟩ (.slice none 0 0)).setCell ⟨b,0,none⟩ (.int .i64 code)).setCell ⟨c,0,none⟩ (.int .i64 aW)).heap.size=w.heap.size:=by rw[zB,zB,zB]
 have hbel:∀B,B<=a->B<=b->B<=c->Below B w (((w.setCell ⟨a,0,none⟩ (.slice none 0 0)).setCell ⟨b,0,none⟩ (.int .i64 code)).setCell ⟨c,0,none⟩ (.int .i64 aW)):=fun B h1 h2 h3=>
  (((Below.refl B w).setCell (p:=⟨a,0,none⟩) h1 _).setCell (p:=⟨b,0,none⟩) h2 _).setCell (p:=⟨c,0,none⟩) h3 _
 generalize((w.setCell ⟨a,0,none⟩ (.slice none 0 0)).setCell ⟨b,0,none⟩ (.int .i64 code)).setCell ⟨c,0,none⟩ (.int .i64 aW)=w3 at *
 have hblk:∀k,k<w3.heap.size->(w3.alloc (.cells #[.int .i64 code,.int .i64 aW] 75)).drew.heap[k]? =w3.heap[k]?:=fun k hk=>Below.heap_alloc _ _ _ hk;refine zek (v:=.tuple #[]) (c:={ c₀ with mode:=.panicking ({ v:=.iface 75 (.agg #[.int .i64 code,.int .i64 aW]),recovered:=true }::older) }) rfl ?_ rfl ?_
 ·simp[results,results34]
 ·exact⟨rfl,rfl,va.of (hblk a (by omega)),vb.of (hblk b (by omega)),vc.of (hblk c (by omega)),fun B h1 h2 h3=>((hbel B h1 h2 h3).alloc (by omega) _).drew⟩
def zty(w:World)(o:zkj)(e:Ending)(w':World):Prop:=
 ∃V,e=.returned (.tuple #[.agg #[V],.int .i64 o.err,.int .i64 o.aW])/\FusC w' (Rng w.heap.size w'.heap.size) o.funcs V/\Below w.heap.size w w'
def zq8{base:Nat}{v:Value}{ts:List Tok}(h:w.ownsRow base 134 4 v ts.length (yF ts))(hy:∀t∈ts,Byn t.aZ)(hR:w.heap.size<=R):∃S:Src,S.all=ts/\S.z=z/\S.V=v/\S.Ok w R:=by
 rcases h.2 with⟨rfl,h2⟩|⟨g,cap,cur,rfl,hb,hg,hn,hm,_⟩
 ·have:ts=[]:=List.eq_nil_of_length_eq_zero h2;subst this;exact⟨⟨none,0,[],z⟩,rfl,rfl,rfl,aR _,aK _,hy,fun _=>rfl,fun g h=>by cases h⟩
 ·refine⟨⟨some g,cap,ts,z⟩,rfl,rfl,rfl,hn,hm,hy,(fun h=>by cases h),fun g' hg'=>?_⟩;injection hg' with hg'
  subst hg';refine⟨aS (h.lt g rfl).2 hR,fun i t ht=>?_⟩;have key:∀j u,j<4->(tokC t)[j]? =some u->w.cell? ⟨g,i*4+j,none⟩=some u:=fun j u hj hu=>by
   have h1:=h.cells rfl (i*4+j) u ((zdq ts i j t ht hj).trans hu);rw[Addr.add_lit,Nat.zero_add]at h1;exact h1
  exact⟨key 0 _ (by omega) rfl,key 1 _ (by omega) rfl,key 2 _ (by omega) rfl,key 3 _ (by omega) rfl⟩
def wY(tmps:Array Value)(w:World)(p q r:Nat)(V:Value)(x y:Int)(h2:tmps.getD 2 undef=.pointer (some ⟨p,0,none⟩))(h3:tmps.getD 3 undef=.pointer (some ⟨q,0,none⟩))(h4:tmps.getD 4 undef=.pointer (some ⟨r,0,none⟩))(hV:qj w p [V])(hx:qj w q [.int .i64 x])(hy:qj w r [.int .i64 y]):(results Tryz.f12 tmps).run prog w=.ok (.tuple #[.agg #[V],.int .i64 x,.int .i64 y]) w:=by
 have h2':tmps[2]?.getD undef=.pointer (some ⟨p,0,none⟩):=by simpa using h2
 have h3':tmps[3]?.getD undef=.pointer (some ⟨q,0,none⟩):=by simpa using h3
 have h4':tmps[4]?.getD undef=.pointer (some ⟨r,0,none⟩):=by simpa using h4
 have c0:=(hV.cell 0 _ rfl).1;have c1:=(hx.cell 0 _ rfl).1;have c2:=(hy.cell 0 _ rfl).1;simp[results,results12,h2',h3',h4',asAddr,go_sem,c0,c1,c2]
def zn4:Res (List Fu)->zkj
 | .ok fs _=>⟨0,fs,0⟩
 | .bad c p=>⟨c,[],p⟩
def zjk(h:(xx l).err=0):jS l=zn4 (ja l.length (xx l).toks):=by
 unfold jS;rw[if_pos h];cases ja l.length (xx l).toks<;>rfl
def zvm(A:Option Addr)(l:List Nat)(c:Nat)(w:World)(hc:l.length<=c)(hcm:c<=maxLen)(hl:Lies w w.heap.size A c (bts l))(hy:Byn l)(ht:Tab w):Calls prog 12 #[.slice A l.length c] w (zty w (jS l)):=by
 have hmf:∀(fn:Fn) (first cap:Array Value) (w:World),(Instr.makeFunc fn first cap).run prog w=.ok (.func fn first cap) w:=fun _ _ _ _=>rfl;have hcm':=hcm;unfold maxLen at hcm';have b2:=wG (Below.refl w.heap.size w) (aR _) (.cells #[.slice none 0 0] 26) (.cells #[.int .i64 0] 27);have s2:((w.alloc (.cells #[.slice none 0 0] 26)).alloc (.cells #[.int .i64 0] 27)).heap.size=w.heap.size+2:=by simp
 have bt:=za ((w.alloc (.cells #[.slice none 0 0] 26)).alloc (.cells #[.int .i64 0] 27)) (.cells #[.int .i64 0] 3);have b3:=b2.trans (bt.mono b2.size);have n0:(((w.alloc (.cells #[.slice none 0 0] 26)).alloc (.cells #[.int .i64 0] 27)).alloc (.cells #[.int .i64 0] 3)).heap[w.heap.size]? =some (.cells #[.slice none 0 0] 26):=by
  rw[Below.heap_alloc _ _ _ (by simp;omega),Below.heap_alloc _ _ _ (by simp)];exact ye w _
 have n1:(((w.alloc (.cells #[.slice none 0 0] 26)).alloc (.cells #[.int .i64 0] 27)).alloc (.cells #[.int .i64 0] 3)).heap[w.heap.size+1]? =some (.cells #[.int .i64 0] 27):=by
  rw[Below.heap_alloc _ _ _ (by simp)];have:=ye (w.alloc (.cells #[.slice none 0 0] 26)) (.cells #[.int .i64 0] 27);simpa using this
 have n2:(((w.alloc (.cells #[.slice none 0 0] 26)).alloc (.cells #[.int .i64 0] 27)).alloc (.cells #[.int .i64 0] 3)).heap[w.heap.size+1+1]? =some (.cells #[.int .i64 0] 3):=by
  have:=ye ((w.alloc (.cells #[.slice none 0 0] 26)).alloc (.cells #[.int .i64 0] 27)) (.cells #[.int .i64 0] 3);simpa using this
 have K:=aQ (lex A l c _ hc hcm ((hl.below b3).more b3.size) hy (ht.below b3 ht.1));have HB:=aQ b3;have HN:Hid (qj (((w.alloc (.cells #[.slice none 0 0] 26)).alloc (.cells #[.int .i64 0] 27)).alloc (.cells #[.int .i64 0] 3)) w.heap.size [.slice none 0 0]/\qj (((w.alloc (.cells #[.slice none 0 0] 26)).alloc (.cells #[.int .i64 0] 27)).alloc (.cells #[.int .i64 0] 3)) (w.heap.size+1) [.int .i64 0]/\qj (((w.alloc (.cells #[.slice none 0 0] 26)).alloc (.cells #[.int .i64 0] 27)).alloc (.cells #[.int .i64 0] 3)) (w.heap.size+1+1) [.int .i64 0]):=⟨qj.block (cs:=[_]) n0,qj.block (cs:=[_]) n1,qj.block (cs:=[_]) n2⟩;have s3:(((w.alloc (.cells #[.slice none 0 0] 26)).alloc (.cells #[.int .i64 0] 27)).alloc (.cells #[.int .i64 0] 3)).heap.size=w.heap.size+3:=by simp
 have HY:=aQ hy;clear hl hy ht b2 bt b3 n0 n1 n2 s2 hcm
 go_enter_defers func12,ntmps12
 go_wp2_with fail
 generalize((w.alloc (.cells #[.slice none 0 0] 26)).alloc (.cells #[.int .i64 0] 27)).alloc (.cells #[.int .i64 0] 3)=w0 at *
 refine K.out.mono ?_;clear K;rintro e' w1 ⟨v,rfl,hown,hb1⟩;obtain⟨Av,cv,rfl⟩:=qm hown;have s1:=hb1.size;have V0:=HN.out.1.of (hb1.block _ (by omega));have V1:=HN.out.2.1.of (hb1.block _ (by omega));have V2:=HN.out.2.2.of (hb1.block _ (by omega));obtain⟨e1,f1⟩:=V1.cell 0 _ rfl;obtain⟨e2,f2⟩:=V2.cell 0 _ rfl;by_cases herr:(xx l).err=0
 ·have hne:((((xx l).err:Nat):Int)!=0)=false:=by rw[herr];rfl
  have HP:=aQ (zjk herr);have HV:Hid (qj w1 w.heap.size [.slice none 0 0]/\qj w1 (w.heap.size+1) [.int .i64 0]/\qj w1 (w.heap.size+1+1) [.int .i64 0]):=⟨V0,V1,V2⟩;have HB1:=aQ (HB.out.trans (hb1.mono (by omega)));have HO:=aQ hown;have hmany:=zi6 l;have HNm:=aQ (zfe HY.out);clear hown hb1 V0 V1 V2 herr
  generalize(xx l).err=er at *
  generalize(xx l).aW=pl at *
  generalize(xx l).toks=ts at *
  (go_upto_region 4 with fail);have vb:=(HV.out.2.1.set 0 (.int .i64 er)).of (zo (b:=w.heap.size+1+1) (i:=0) (u:=.int .i64 pl) _ (by omega));have vc:=(HV.out.2.2.of (zo (b:=w.heap.size+1) (i:=0) (u:=.int .i64 er) _ (by omega))).set 0 (.int .i64 pl);have va:=(HV.out.1.of (zo (b:=w.heap.size+1) (i:=0) (u:=.int .i64 er) _ (by omega))).of (zo (b:=w.heap.size+1+1) (i:=0) (u:=.int .i64 pl) _ (by omega));have hB3:=(HB1.out.setCell (p:=⟨w.heap.size+1,0,none⟩) (by show w.heap.size<=w.heap.size+1;omega) (.int .i64 er)).setCell (p:=⟨w.heap.size+1+1,0,none⟩) (by show w.heap.size<=w.heap.size+1+1;omega) (.int .i64 pl);have hsz:((w1.setCell ⟨w.heap.size+1,0,none⟩ (.int .i64 er)).setCell ⟨w.heap.size+1+1,0,none⟩ (.int .i64 pl)).heap.size=w1.heap.size:=by rw[zB,zB]
  have hO3:((w1.setCell ⟨w.heap.size+1,0,none⟩ (.int .i64 er)).setCell ⟨w.heap.size+1+1,0,none⟩ (.int .i64 pl)).ownsRow w0.heap.size 134 4 (.slice Av ts.length cv) ts.length (yF ts):=by
   refine⟨HO.out.1,?_⟩;rcases HO.out.2 with h'|⟨g,cap,cur,e,hb,hg,rest⟩
   ·exact .inl h'
   ·exact .inr ⟨g,cap,cur,e,hb,by rw[zo g (by omega),zo g (by omega)];exact hg,rest⟩
  clear e1 f1 e2 f2 HV HO HB1
  generalize(w1.setCell ⟨w.heap.size+1,0,none⟩ (.int .i64 er)).setCell ⟨w.heap.size+1+1,0,none⟩ (.int .i64 pl)=w3 at *
  obtain⟨S,hS1,hS2,hS3,hS4⟩:=zq8 (z:=l.length) (R:=w3.heap.size) hO3 (fun t h=>(HNm.out t h).1) (aR _);have bR:=za w3 (.cells #[.slice Av ts.length cv,.int .i64 0,.int .i64 l.length] 79);have hAt:At (w3.alloc (.cells #[.slice Av ts.length cv,.int .i64 0,.int .i64 l.length] 79)) w3.heap.size S ts:=by
   refine⟨hS4.of fun k hk=>bR.block k hk,0,aK _,by rw[hS1];rfl,?_⟩;rw[ye];unfold rdO;rw[hS3,hS2];rfl
  have K:=aQ (program w3.heap.size S (by rw[hS1];omega) ts _ hAt);rw[hS2]at K;have HV3:Hid (qj w3 w.heap.size [.slice none 0 0]/\qj w3 (w.heap.size+1) [.int .i64 er]/\qj w3 (w.heap.size+1+1) [.int .i64 pl]):=⟨va,vb,vc⟩;have HB3:=aQ (hB3.trans (bR.mono hB3.size));have sR:(w3.alloc (.cells #[.slice Av ts.length cv,.int .i64 0,.int .i64 l.length] 79)).heap.size=w3.heap.size+1:=by simp
  have HbR:=aQ bR;have HSZ:=aQ hsz;have HSR:=aQ sR;have HS3:=aQ s3;clear va vb vc hB3 hO3 hS1 hS3 hS4 bR hAt hsz sR s3
  go_wp2_with fail
  generalize w3.alloc (.cells #[.slice Av ts.length cv,.int .i64 0,.int .i64 l.length] 79)=wR at *
  (with_reducible refine K.out.mono ?_)
  clear K;rintro e' w5 ⟨hm,⟨fs,r5,pv,hr,rfl,hq,ha5⟩|⟨cc,q,hr,rfl⟩⟩
  ·have hsz:=HSZ.out;have sR:=HSR.out;have s3:=HS3.out
   have VR:qj w5 w.heap.size [.slice none 0 0]/\qj w5 (w.heap.size+1) [.int .i64 er]/\qj w5 (w.heap.size+1+1) [.int .i64 pl]:=
    ⟨HV3.out.1.of ((hm.block' (by omega) (by omega)).trans (HbR.out.block _ (by omega))),HV3.out.2.1.of ((hm.block' (by omega) (by omega)).trans (HbR.out.block _ (by omega))),HV3.out.2.2.of ((hm.block' (by omega) (by omega)).trans (HbR.out.block _ (by omega)))⟩
   obtain⟨V,rfl,hF⟩:=hq;obtain⟨aV,nV,cV,rfl⟩:∃a n c,V=.slice a n c:=by
    obtain⟨_,_,⟨a,c,h,_⟩,_⟩:=hF;exact⟨a,_,c,h⟩
   have HP2:Hid (jS l=⟨0,fs,0⟩):=by show _=_;rw[HP.out,hr];rfl
   have HB5:Hid (Below w.heap.size w w5):=HB3.out.trans ⟨hm.os,hm.tape,hm.output,hm.size,fun k hk=>hm.block' (by omega) (by omega)⟩;have HF:Hid (FusC w5 (Rng (w.heap.size+3) w5.heap.size) fs (.slice aV nV cV)):=hF.more fun k hk=>⟨by have:=hk.1;omega,hk.2⟩;have HVR:=aQ VR;clear hm hr hsz sR s3 hF ha5 VR
   go_wp2_with(refine zc zf3 rfl (.tmp 2) (.tmp 25) rfl rfl w.heap.size rfl [_] rfl rfl HVR.out.1.2 (by simp[Value.oneCell']) ?_;intro w7 g1 g2 g3 g4 g5;refine Hid.out ?_)
   refine aQ ?_;have v1:=HVR.out.2.1.of (g4 (w.heap.size+1) (by omega));have v2:=HVR.out.2.2.of (g4 (w.heap.size+1+1) (by omega));obtain⟨e1,f1⟩:=v1.cell 0 _ rfl;obtain⟨e2,f2⟩:=v2.cell 0 _ rfl
   have HG:Hid (qj w7 w.heap.size [.slice aV nV cV]/\qj w7 (w.heap.size+1) [.int .i64 er]/\qj w7 (w.heap.size+1+1) [.int .i64 pl]/\Below w.heap.size w w7/\FusC w7 (Rng (w.heap.size+3) w7.heap.size) fs (.slice aV nV cV)):=
    ⟨⟨g1,g2⟩,v1,v2,HB5.out.trans g3,(HF.out.same fun q h=>g4 q (by have:=h.1;omega)).more fun q h=>⟨h.1,by rw[g5];exact h.2⟩⟩
   clear g1 g2 g3 g4 g5 v1 v2;go_wp2;have va:=(HG.out.1.of (zo (b:=w.heap.size+1) (i:=0) (u:=.int .i64 0) _ (by omega))).of (zo (b:=w.heap.size+1+1) (i:=0) (u:=.int .i64 0) _ (by omega));have vb:=(HG.out.2.1.set 0 (.int .i64 0)).of (zo (b:=w.heap.size+1+1) (i:=0) (u:=.int .i64 0) _ (by omega));have vc:=(HG.out.2.2.1.of (zo (b:=w.heap.size+1) (i:=0) (u:=.int .i64 0) _ (by omega))).set 0 (.int .i64 0);have hbe:=(HG.out.2.2.2.1.setCell (p:=⟨w.heap.size+1,0,none⟩) (by show w.heap.size<=w.heap.size+1;omega) (.int .i64 0)).setCell (p:=⟨w.heap.size+1+1,0,none⟩) (by show w.heap.size<=w.heap.size+1+1;omega) (.int .i64 0)
   have hfu:FusC ((w7.setCell ⟨w.heap.size+1,0,none⟩ (.int .i64 0)).setCell ⟨w.heap.size+1+1,0,none⟩ (.int .i64 0)) (Rng (w.heap.size+3) w7.heap.size) fs (.slice aV nV cV):=
    HG.out.2.2.2.2.same fun q h=>by rw[zo q (by have:=h.1;omega),zo q (by have:=h.1;omega)]
   have hsz7:((w7.setCell ⟨w.heap.size+1,0,none⟩ (.int .i64 0)).setCell ⟨w.heap.size+1+1,0,none⟩ (.int .i64 0)).heap.size=w7.heap.size:=by rw[zB,zB]
   generalize(w7.setCell ⟨w.heap.size+1,0,none⟩ (.int .i64 0)).setCell ⟨w.heap.size+1+1,0,none⟩ (.int .i64 0)=w8 at *
   refine leaves_cons (f:=34) (args:=#[.pointer (some ⟨w.heap.size,0,none⟩),.pointer (some ⟨w.heap.size+1,0,none⟩),.pointer (some ⟨w.heap.size+1+1,0,none⟩)]) (by simp) (by simp[go_sem]) ?_;refine(zii ⟨w.heap.size,0,none⟩ ⟨w.heap.size+1,0,none⟩ ⟨w.heap.size+1+1,0,none⟩ w8).mono ?_;rintro e' u' w9 ⟨rfl,rfl,rfl⟩;exact⟨_,wY _ _ w.heap.size (w.heap.size+1) (w.heap.size+1+1) (.slice aV nV cV) 0 0 rfl rfl rfl va vb vc,.slice aV nV cV,by rw[HP2.out];rfl,by rw[HP2.out];exact hfu.more fun q h=>⟨by have:=h.1;omega,by rw[hsz7];exact h.2⟩,hbe⟩
  ·have hsz:=HSZ.out;have sR:=HSR.out;have s3:=HS3.out
   have VR:qj w5 w.heap.size [.slice none 0 0]/\qj w5 (w.heap.size+1) [.int .i64 er]/\qj w5 (w.heap.size+1+1) [.int .i64 pl]:=
    ⟨HV3.out.1.of ((hm.block' (by omega) (by omega)).trans (HbR.out.block _ (by omega))),HV3.out.2.1.of ((hm.block' (by omega) (by omega)).trans (HbR.out.block _ (by omega))),HV3.out.2.2.of ((hm.block' (by omega) (by omega)).trans (HbR.out.block _ (by omega)))⟩
   have HP2:Hid (jS l=⟨cc,[],q⟩):=by show _=_;rw[HP.out,hr];rfl
   have HB5:Hid (Below w.heap.size w w5):=HB3.out.trans ⟨hm.os,hm.tape,hm.output,hm.size,fun k hk=>hm.block' (by omega) (by omega)⟩;clear hm hr hsz sR s3;go_wp2;refine leaves_cons (f:=34) (args:=#[.pointer (some ⟨w.heap.size,0,none⟩),.pointer (some ⟨w.heap.size+1,0,none⟩),.pointer (some ⟨w.heap.size+1+1,0,none⟩)]) (by simp) (by simp[go_sem]) ?_;refine(wH w.heap.size (w.heap.size+1) (w.heap.size+1+1) cc q [] w5 _ _ _ VR.1 VR.2.1 VR.2.2 (by omega) (by omega) (by omega)).mono ?_;rintro e' u' w6 ⟨rfl,rfl,v1,v2,v3,hbel⟩;refine⟨_,wY _ _ w.heap.size (w.heap.size+1) (w.heap.size+1+1) (.slice none 0 0) cc q rfl rfl rfl v1 v2 v3,.slice none 0 0,by rw[HP2.out],by rw[HP2.out];exact FusC.nothing _ _,HB5.out.trans (hbel _ (aR _) (by omega) (by omega))⟩
 ·have hne:((((xx l).err:Nat):Int)!=0)=true:=by rw[bne_iff_ne];omega
  have HO:=aQ hown;have HV:Hid (qj w1 w.heap.size [.slice none 0 0]/\qj w1 (w.heap.size+1) [.int .i64 0]/\qj w1 (w.heap.size+1+1) [.int .i64 0]):=⟨V0,V1,V2⟩;have HB1:=aQ (HB.out.trans (hb1.mono (by omega)));have HP:Hid (jS l=⟨(xx l).err,[],(xx l).aW⟩):=by show _=_;unfold jS;rw[if_neg herr]
  obtain⟨e0,f0⟩:=V0.cell 0 _ rfl;clear hown hb1 V0 V1 V2 herr
  generalize(xx l).err=er at *
  generalize(xx l).aW=pl at *
  go_wp2_with fail
  go_region
  go_wp2;have va:=((((HV.out.1.of (zo (b:=w.heap.size+1) (i:=0) (u:=.int .i64 er) _ (by omega))).of (zo (b:=w.heap.size+1+1) (i:=0) (u:=.int .i64 pl) _ (by omega))).set 0 (.slice none 0 0)).of (zo (b:=w.heap.size+1) (i:=0) (u:=.int .i64 er) _ (by omega))).of (zo (b:=w.heap.size+1+1) (i:=0) (u:=.int .i64 pl) _ (by omega));have vb:=((((HV.out.2.1.set 0 (.int .i64 er)).of (zo (b:=w.heap.size+1+1) (i:=0) (u:=.int .i64 pl) _ (by omega))).of (zo (b:=w.heap.size) (i:=0) (u:=.slice none 0 0) _ (by omega))).set 0 (.int .i64 er)).of (zo (b:=w.heap.size+1+1) (i:=0) (u:=.int .i64 pl) _ (by omega));have vc:=((((HV.out.2.2.of (zo (b:=w.heap.size+1) (i:=0) (u:=.int .i64 er) _ (by omega))).set 0 (.int .i64 pl)).of (zo (b:=w.heap.size) (i:=0) (u:=.slice none 0 0) _ (by omega))).of (zo (b:=w.heap.size+1) (i:=0) (u:=.int .i64 er) _ (by omega))).set 0 (.int .i64 pl);refine⟨_,wY _ _ w.heap.size (w.heap.size+1) (w.heap.size+1+1) (.slice none 0 0) er pl rfl rfl rfl (va.of rfl) (vb.of rfl) (vc.of rfl),.slice none 0 0,by rw[HP.out],by rw[HP.out];exact FusC.nothing _ _,?_⟩;exact(((((HB1.out.setCell (p:=⟨w.heap.size+1,0,none⟩) (by show w.heap.size<=w.heap.size+1;omega) _).setCell (p:=⟨w.heap.size+1+1,0,none⟩) (by show w.heap.size<=w.heap.size+1+1;omega) _).setCell (p:=⟨w.heap.size,0,none⟩) (aR _) _).setCell (p:=⟨w.heap.size+1,0,none⟩) (by show w.heap.size<=w.heap.size+1;omega) _).setCell (p:=⟨w.heap.size+1+1,0,none⟩) (by show w.heap.size<=w.heap.size+1+1;omega) _).drew
def zCa{α β:Type}{f:α->β->List Value}(hf:∀a b,(f a b).length=m):∀(l:List α) (ks:List β) (i j:Nat) (a:α) (b:β),l[i]? =some a->ks[i]? =some b->j<m->((List.zipWith f l ks).flatten)[i*m+j]? =(f a b)[j]?
 | [],_,i,j,a,b,h,_,_=>by simp at h
 | _::_,[],i,j,a,b,_,h,_=>by simp at h
 | x::l,y::ks,0,j,a,b,h,h',hj=>by
  simp at h h';subst h h';simp only[List.zipWith_cons_cons,List.flatten_cons];rw[aF (by rw[hf];omega)];simp
 | x::l,y::ks,i+1,j,a,b,h,h',hj=>by
  have ih:=zCa hf l ks i j a b (by simpa using h) (by simpa using h') hj;simp only[List.zipWith_cons_cons,List.flatten_cons];have e:(i+1)*m=m+i*m:=by rw[Nat.add_mul];omega
  rw[aG (by rw[hf];omega),hf];rw[show(i+1)*m+j-m=i*m+j by omega];exact ih
def zxj:prog.cellsOf 5=1:=by kernel_rfl
def zf4(a:Array Obj)(x:Obj)(f:Obj->Obj):(a.push x).modify a.size f=a.push (f x):=by
 apply Array.ext
 ·simp
 ·intro i h1 h2;simp only[Array.getElem_modify,Array.getElem_push];by_cases h:a.size=i
  ·subst h;simp
  ·have hi:i<a.size:=by simp at h1;omega
   simp[h,hi]
def yj(w:World)(C:Array Value)(n c:Nat):(convert 22 22 (.slice (some ⟨w.heap.size,0,none⟩) n c)).run prog (w.alloc (.cells C 5))=.ok (.slice (some ⟨w.heap.size,0,none⟩) n c) (w.alloc (.cells C 5 (C.size,C.size+1))):=by
 have hsh:(w.alloc (.cells C 5)).shape? w.heap.size=some (5,C.size):=by
  have:(w.alloc (.cells C 5)).heap[w.heap.size]? =some (.cells C 5):=ye w _;unfold World.shape?;rw[this]
 have hfr:(w.alloc (.cells C 5)).freeze ⟨w.heap.size,C.size,none⟩ 1=w.alloc (.cells C 5 (C.size,C.size+1)):=by
  unfold World.freeze;rw[if_neg (by decide)];show({ w.alloc (.cells C 5)with heap:=(w.heap.push (.cells C 5)).modify w.heap.size _ }:World)=_;rw[zf4];rfl
 simp[convert,run_underlying underlying22,run_underlying underlying5,markStringish,hsh];exact hfr
def zcv(w:World)(l:List Nat)(c:Nat)(t:TypeId)(fr:Nat×Nat):Lies (w.alloc (.cells (bts l).toArray t fr)) (w.heap.size+1) (some ⟨w.heap.size,0,none⟩) c (bts l):=by
 refine⟨(fun e=>by cases e),fun j u hu=>⟨_,rfl,by simp,?_⟩⟩;have hb:(w.alloc (.cells (bts l).toArray t fr)).heap[w.heap.size]? =some (.cells (bts l).toArray t fr):=ye w _;rw[Addr.add_lit,wy _ _ _ _ _ _ hb];simpa using hu
def zt7(w:World)(fs:List Fu)(ze zp:Int)(e:Ending)(w':World):Prop:=
 ∃V,e=.returned (.tuple #[.agg #[V],.int .i64 ze,.int .i64 zp])/\FusC w' (Rng w.heap.size w'.heap.size) fs V/\Below w.heap.size w w'
def zrx(A:Option Addr)(l:List Nat)(n c:Nat)(w:World)(hn:l.length=n)(hc:n<=c)(hcm:c<=maxLen)(hl:Lies w w.heap.size A c (bts l))(hy:Byn l)(ht:Tab w)(err aW:Nat)(fs:List Fu)(hp:jS l=⟨err,fs,aW⟩)(ze zp:Int)(h1:ze=err)(h2:zp=aW):Calls prog 12 #[.slice A n c] w (zt7 w fs ze zp):=by
 subst hn h1 h2;have h:=zvm A l c w hc hcm hl hy ht;rw[hp]at h;exact h
end
end
section
section
open Go.RowKit Go.Shelf
attribute [local go_sem] Oper.semAt_some
abbrev lv:Value:=.func (.func 272) #[] #[]
def KpD(D:Nat->Prop)(W W':World):Prop:=∀b,D b->W'.heap[b]? =W.heap[b]?
def KpD.refl(D:Nat->Prop)(W:World):KpD D W W:=fun _ _=>rfl
def KpD.t{A B C:World}(h:KpD D A B)(k:KpD D B C):KpD D A C:=fun b hb=>(k b hb).trans (h b hb)
def KpD.b(hD:∀b,D b->b<w.heap.size)(W:World)(l:Nat)(o o':Obj)(hl:w.heap.size<=l)(_:W.heap[l]? =some o)(_:o.isCells=false)(_:o.isWalk=false):KpD D W (W.putObj l o'):=fun b hb=>
 World.putObj_heap_other (by have:=hD b hb;omega)
def vl(n r:Nat):List Nat:=(List.range r).map fun j=>n-1-j
def zbc(n r:Nat):vl n (r+1)=vl n r++[n-1-r]:=by simp[vl,List.range_succ]
def zdr(n r:Nat):(vl n r).length=r:=by simp[vl]
abbrev encB(gs:List Value)(x:Nat):Array Value:=#[.int .i64 (x:Int),gs.getD x lv]
def zvj(n:Nat)(hn:1<=n)(l Bs:Nat)(D:Nat->Prop)(A:Option Addr)(cap:Nat)(gs:List Value)(hsm:gs.length<=50000)(J Jx:List Nat->World->Prop)
  (hY:∀pre x W,J pre W->pre.length<gs.length->YieldAt Fence.wide (n-1) prog l (encB gs x) W fun e W'=>
   (e=.returned (.bool true)/\J (pre++[x]) W'/\KpD D W W')\/(e=.returned (.bool false)/\Jx (pre++[x]) W'))
  (W:World) (hBs:W.cell? ⟨Bs,0,none⟩=some (.slice A gs.length cap)) (hDB:D Bs) (hc:∀j,j<gs.length->∃g o,A=some ⟨g,o,none⟩/\D g/\W.cell? ⟨g,o+j,none⟩=some (gs.getD j lv)) (h0:J [] W) :
  CallsIn Fence.wide n prog 129 #[.func (.yield l) #[] #[],.pointer (some ⟨Bs,0,none⟩)] W fun e W'=>(∃v,e=.returned v) /\
   ((∃ys,ys=vl gs.length gs.length/\J ys W')\/(∃pre,True/\Jx pre W')):=by
 refine callsIn_of_wp func129 rfl trivial ?_ rfl;simp only[ntmps129,List.size_toArray,aB,List.length_nil,Nat.reduceAdd,Nat.reduceSub,Array.replicate_succ,Array.replicate_zero,List.push_toArray,List.append_toArray,List.nil_append,List.cons_append]
 gi_wp2
 gi_loopw [3] (fun i wr=>∃r q:Nat,r+q=gs.length/\i=.int .i64 ((q:Int)-1)/\J (vl gs.length r) wr/\KpD D W wr)
  (fun i _=>(intOf i+1).toNat)
 case atStart=>exact⟨0,gs.length,by omega,by go_num,h0,KpD.refl _ _⟩
 case round=>
  obtain⟨r,q,hrq,rfl,hJs,hnx⟩:=hrel;have hcb:wr.cell? ⟨Bs,0,none⟩=some (.slice A gs.length cap):=(yp (a:=⟨Bs,0,none⟩) (w:=W) (hnx Bs hDB)).trans hBs;cases q with
  | zero=>
   obtain rfl:r=gs.length:=by omega
   gi_wp2
   go_end0
   exact⟨⟨_,rfl⟩,.inl ⟨_,rfl,hJs⟩⟩
  | succ q=>
   have e:((q+1:Nat):Int)-1=(q:Int):=by omega
   rw[e];obtain⟨g,o,rfl,hDg,hcx0⟩:=hc q (by omega);have hcx:wr.cell? ⟨g,o+q,none⟩=some (gs.getD q lv):=(yp (a:=⟨g,o+q,none⟩) (w:=W) (hnx g hDg)).trans hcx0;obtain⟨fn,tmps,assign,body,hy,hR⟩:=hY _ q wr hJs (by rw[zdr];omega);dsimp only[encB]at hy;have hq:q<gs.length:=by omega
   have hl:vl gs.length (r+1)=vl gs.length r++[q]:=by rw[zbc];congr 2;omega
   clear hcx0 e
   generalize gs.getD q lv=v at *
   gi_wp2
   refine hR.mono ?_;rintro e W3 (⟨rfl,hJ3,hk3⟩|⟨rfl,hJx3⟩)
   ·gi_wp2
    go_roundw
    case rel=>exact⟨r+1,q,by omega,by go_num,by rw[hl];exact hJ3,hnx.t hk3⟩
    case measure=>simp[intOf]<;>omega
   ·gi_wp2
    refine vS (results_none rfl _ _ _) rfl ?_;exact⟨⟨_,rfl⟩,.inr ⟨_,trivial,hJx3⟩⟩
def zbh(n:Nat)(hn:1<=n)(Bs:Nat)(D:Nat->Prop)(A:Option Addr)(cap:Nat)(gs:List Value)(hsm:gs.length<=50000)(w:World)(hBs:w.cell? ⟨Bs,0,none⟩=some (.slice A gs.length cap))(hDB:D Bs)(hDlt:∀b,D b->b<w.heap.size)
  (hc:∀j,j<gs.length->∃g o,A=some ⟨g,o,none⟩/\D g/\w.cell? ⟨g,o+j,none⟩=some (gs.getD j lv)) :
  SeqStopsK Fence.wide n prog 129 #[.pointer (some ⟨Bs,0,none⟩)] (encB gs) (KpD D) (fun ys=>ys=vl gs.length gs.length) (fun _=>True) gs.length w:=fun l J Jx W hW _ _ hY h0=>
 zvj n hn l Bs D A cap gs hsm J Jx hY W ((hW.cell (p:=⟨Bs,0,none⟩) (hDlt _ hDB)).trans hBs) hDB (fun j hj=>by
  obtain⟨g,o,e,hDg,h⟩:=hc j hj
  exact⟨g,o,e,hDg,(hW.cell (p:=⟨g,o+j,none⟩) (hDlt _ hDg)).trans h⟩) h0
def zed(A:Option Addr)(n c:Nat)(w:World):Calls prog 80 #[.slice A n c] w fun e w'=>e=.returned (.func (.func 129) #[] #[.pointer (some ⟨w.heap.size,0,none⟩)])/\w.alloc (.cells #[.slice A n c] 90)=w':=by
 go_enter func80,ntmps80;go_wp2;go_ret;exact⟨rfl,rfl⟩
attribute [local go_sem] Oper.semAt_some
def za2(n0 J:Nat)(w1:World)(cur:List PR)(Gs:List (List PR->List PR))(r:Value)(pre:List Nat)(W:World):Prop:=
 Off n0 w1 W/\(∀b,b<w1.heap.size->b≠J->W.heap[b]? =w1.heap[b]?)/\∃A c,W.heap[J]? =some (.cells #[.slice A (back Gs cur pre).length c,r] 92 (0,0))/\(back Gs cur pre).length<=c/\c<=maxLen/\PrsX n0 W A c (back Gs cur pre)
def zeh{P:Program}{c:Code}{K:Act->World->Prop}{Q:Exit->Act->World->Prop}{a:Act}(h:c.wp P (fun e a w=>e=.normal/\K a w) a w):c.wp P (Exit.then K Q) a w:=
 Code.wp_mono (fun e a w h=>by obtain⟨rfl,hk⟩:=h;exact hk) h
def zdu(Fs:List (List PR->List PR))(cur:List PR)(m n:Nat)(hm:m<=n):∀r,r<=n-m->back (Fs.drop m) cur (vl (n-m) r)=back Fs cur ((List.range r).map fun j=>n-1-j)
 | 0,_=>rfl
 | r+1,h=>by
  rw[zbc,jp,zdu Fs cur m n hm r (by omega),List.range_succ,List.map_append,List.map_cons,List.map_nil,jp,List.getD,List.getD,List.getElem?_drop,show m+(n-m-1-r)=n-1-r by omega]
def zg8{hs:List (List PR)}{cur res:List PR}{Fs:List (List PR->List PR)}(hc:zas (hs++[cur]) Fs)(hl:Fs.length=hs.length)(hm:m<=hs.length)(hr:(hs++[cur])[m]? =some res):back (Fs.drop m) cur (vl (hs.length-m) (hs.length-m))=res:=by
 rw[zdu Fs cur m hs.length hm _ (aR _)];have h:=zb3 hc hl (hs.length-m) (by omega);rw[show hs.length-(hs.length-m)=m by omega,hr]at h;injection h with h
 exact h.symm
def zgc{r:Nat}{o:Obj}(h:W.heap[r]? =some o)(ho:o.isCells=false):¬Cel W r:=by
 rintro⟨cs,T,z,h'⟩;rw[h]at h';injection h' with h'
 subst h';cases ho
def za2.own{n0 J:Nat}{cur:List PR}{Gs:List (List PR->List PR)}{r:Value}(hn:n0<=w1.heap.size)(hJ:J<w1.heap.size):OwnFrom w1.heap.size (za2 n0 J w1 cur Gs r):=by
 intro s W W' row hs hg hr;obtain⟨h1,h2,A,c,h3,h4,h5,h6⟩:=hs;have ho:Off n0 W W':=by
  cases row with
  | none=>exact .of ((Below.refl W.heap.size W).grown hg (aR _) (fun k hk=>by cases hk))
  | some i=>
   obtain⟨g1,o,g2,g3⟩:=hr i rfl;exact .other hg (zgc g2 g3) (by omega)
 have hb:∀b,b<w1.heap.size->W'.heap[b]? =W.heap[b]?:=fun b hb=>hg.block b (aS hb h1.size) fun e=>by have:=(hr b e.symm).1;omega
 exact⟨h1.trans ho,fun b hb' hne=>(hb b hb').trans (h2 b hb' hne),A,c,by rw[hb J hJ];exact h3,h4,h5,h6.off ho⟩
end
end
section
section
open Go.RowKit Go.Shelf
attribute [local go_sem] Oper.semAt_some
def zm0(n0:Nat)(w:World)(J:Nat)(hs:List (List PR))(cur:List PR)(h:Jr n0 w J hs cur)(m:Nat)(hm:m<=hs.length)(res:List PR)(hres:(hs++[cur])[m]? =some res)(hcond:∀R cr,w.cell? ⟨J,1,none⟩=some (.slice R hs.length cr)->cr≠m):Calls prog 46 #[.pointer (some ⟨J,0,none⟩),.int .i64 m] w fun e w'=>e=.returned (.int .i64 0)/\Chd n0 J w (hs.take m) res w':=by
 have H:=aQ h;obtain⟨A,c,R,cr,fs,Fs,h1,h2,h3,h4,h5,h7,h8,h9,h10⟩:=h.ex;obtain⟨g0,g1,g2,g3⟩:=kO h1;obtain⟨_,_,e,q1,q2,q3⟩:=xG h5.1;injection e with e _ e'
 subst e e';have hcm:=hcond R cr g1;clear hcond;have hlen:=h.len;have hm':(m:Int)<=(hs.length:Int):=by omega
 have HM:Hid (∀W,Below w.heap.size w W->Calls prog 27 #[.pointer (some ⟨J,0,none⟩)] W fun e w'=>e=.returned (.int .i64 hs.length)/\W=w'):=fun W hb=>zpu n0 W J hs cur (H.out.on hb);have HB0:=aQ (za w (.cells #[.pointer (some ⟨J,0,none⟩)] 35));have hjl:=h.sp.lt;have hfl:fs.length=hs.length:=by have:=h5.1.1;omega
 unfold maxLen at q2;have f1:m<=cr:=by omega
 have hn0:¬((m:Int)<0):=by omega
 have HD:Hid (w.heap[J]? =some (.cells #[.slice A cur.length c,.slice R hs.length cr] 92 (0,0))/\cur.length<=c/\c<=maxLen/\PrsX n0 w A c cur/\Rws n0 w 154 (.slice R hs.length cr) hs.length fs/\Fs.length=hs.length/\(∀(i:Nat) (f:Value) (F:List PR->List PR),fs[i]? =some f->Fs[i]? =some F->Acts n0 w f F)/\(∀F∈Fs,Mild F)/\zas (hs++[cur]) Fs):=⟨h1,h2,h3,h4,h5,h7,h8,h9,h10⟩;have HRES:Hid (m<=hs.length/\(hs++[cur])[m]? =some res):=⟨hm,hres⟩;clear h h1 h2 h3 h4 h5 h7 h8 h9 h10 q3 hres;refine(callsIn_wide (n:=5)).1 ?_;refine callsIn_of_wp_marks func46 rfl trivial ?_ rfl;simp only[ntmps46,List.size_toArray,aB,List.length_nil,Nat.reduceAdd,Nat.reduceSub,Array.replicate_succ,Array.replicate_zero,List.push_toArray,List.append_toArray,List.nil_append,List.cons_append];refine wpIn_wide.2 ?_;obtain⟨R',hR'⟩:∃R',Option.map (fun(x:Addr)=>x.add m) R=R':=⟨_,rfl⟩
 go_wp2_with(first|(go_at_call 27;refine(HM.out _ HB0.out).mono ?_;rintro e w' ⟨rfl,rfl⟩)|(go_at_call 80;refine(zed _ _ _ _).mono ?_;rintro e w' ⟨rfl,rfl⟩))
 have hb2:=za (w.alloc (.cells #[.pointer (some ⟨J,0,none⟩)] 35)) (.cells #[.slice R' (hs.length-m) (cr-m)] 90);obtain⟨w1,hw1⟩:∃w1,w1=(w.alloc (.cells #[.pointer (some ⟨J,0,none⟩)] 35)).alloc (.cells #[.slice R' (hs.length-m) (cr-m)] 90):=⟨_,rfl⟩;have hbox:w1.heap[w.heap.size]? =some (.cells #[.pointer (some ⟨J,0,none⟩)] 35 (0,0)):=by
  rw[hw1,hb2.block _ (by simp)];exact ye w _
 have hbs:w1.heap[w.heap.size+1]? =some (.cells #[.slice R' (hs.length-m) (cr-m)] 90 (0,0)):=by
  have:=ye (w.alloc (.cells #[.pointer (some ⟨J,0,none⟩)] 35)) (.cells #[.slice R' (hs.length-m) (cr-m)] 90);rw[aE]at this;rw[hw1];exact this
 have hsz1:w1.heap.size=w.heap.size+2:=by rw[hw1];simp
 have hB1:Below w.heap.size w w1:=by rw[hw1];exact HB0.out.trans (hb2.mono HB0.out.size)
 rw[<- hw1];clear hb2 hw1;have HB1:Hid (Below w.heap.size w w1/\w1.heap.size=w.heap.size+2/\w1.heap[w.heap.size]? =some (.cells #[.pointer (some ⟨J,0,none⟩)] 35 (0,0))/\w1.heap[w.heap.size+1]? =some (.cells #[.slice R' (hs.length-m) (cr-m)] 90 (0,0))):=⟨hB1,hsz1,hbox,hbs⟩;have hgl:(fs.drop m).length=(hs.length-m):=by rw[aH,hfl]
 have hgb:w1.cell? ⟨w.heap.size+1,0,none⟩=some (.slice R' (fs.drop m).length (cr-m)):=by rw[hgl];simp[World.cell?,hbs]
 have HC:Hid (∀j,j<(fs.drop m).length->∃g o,R'=some ⟨g,o,none⟩/\(g=w.heap.size+1\/(Value.slice R hs.length cr).ownBlock=some g)/\w1.cell? ⟨g,o+j,none⟩=some ((fs.drop m).getD j lv)):=by
  intro j hj;rw[hgl]at hj;have h5:=HD.out.2.2.2.2.1;rcases h5.1.2 with⟨e,_⟩|⟨g,cap,cur',e,_,g3,_⟩
  ·injection e with _ e _
   omega
  ·injection e with e _ _
   subst e;refine⟨g,0+m,by rw[<- hR'];simp[Addr.add_mid],.inr rfl,?_⟩;have hg:fs[m+j]? =some ((fs.drop m).getD j lv):=by
    rw[List.getD,List.getElem?_drop,vp (by omega)];rfl
   have hx:=h5.1.cells (g:=g) rfl (m+j) _ hg;rw[Addr.add_mid]at hx;rw[HB1.out.1.cell (p:=⟨g,0+m+j,none⟩) (h5.1.lt g rfl).2,show 0+m+j=0+(m+j) by omega];exact hx
 have HDl:Hid (∀b,(b=w.heap.size+1\/(Value.slice R hs.length cr).ownBlock=some b)->b<w1.heap.size/\b≠J):=by
  rintro b (rfl|hb)
  ·exact⟨by omega,by omega⟩
  ·have:=(HD.out.2.2.2.2.1.1.lt b hb).2;refine⟨by omega,?_⟩;obtain⟨cs,ht⟩:=HD.out.2.2.2.2.1.tag hb;exact jV ht HD.out.1 (by decide)
 have HSM:Hid (∀pre:List Nat,pre.length<=50000->Sm8 100000 (back (Fs.drop m) cur pre)):=fun pre hp=>by
  have:=zfi (Fs:=Fs.drop m) (fun F hF=>HD.out.2.2.2.2.2.2.2.1 F (List.mem_of_mem_drop hF)) (r:=256) (is:=pre) (cur:=cur) (zgq H.out.cur);exact this.more (by omega)
 have HACT:Hid (∀x W,Off n0 w1 W->Acts n0 W ((fs.drop m).getD x lv) ((Fs.drop m).getD x id)):=fun x W ho=>by
  rw[List.getD,List.getD,List.getElem?_drop,List.getElem?_drop];rcases Nat.lt_or_ge (m+x) fs.length with hlt|hge
  ·rw[vp hlt,vp (by rw[HD.out.2.2.2.2.2.1,<- hfl];exact hlt)];exact(HD.out.2.2.2.2.2.2.1 _ _ _ (vp hlt) (vp (by rw[HD.out.2.2.2.2.2.1,<- hfl];exact hlt))).off ((Off.of HB1.out.1).trans ho)
  ·rw[List.getElem?_eq_none hge,List.getElem?_eq_none (by rw[HD.out.2.2.2.2.2.1,<- hfl];exact hge)];exact yl n0 W
 have hst:=zbh (5-1) (by omega) (w.heap.size+1) (fun b=>b=w.heap.size+1\/(Value.slice R hs.length cr).ownBlock=some b) R' (cr-m) (fs.drop m) (by omega) w1 hgb (.inl rfl) (fun b hb=>(HDl.out b hb).1) HC.out;refine(wpIn_wide (n:=5)).1 ?_;refine wpIn_rangeFunc_ownG rfl (by omega) (gf:=129) (lb:=#[.pointer (some ⟨w.heap.size+1,0,none⟩)]) rfl trivial (enters_of func129 (by kernel_rfl) rfl) hst
  (fun h k=>KpD.t h k) (KpD.b fun b hb=>(HDl.out b hb).1) (Below.refl _ _) (fun _=>rfl)
  (za2 n0 J w1 cur (Fs.drop m) (.slice R hs.length cr)) (fun _ _ _=>False) (za2.own (by have:=H.out.hJ;omega) (by omega)) (fun _ _ _ _ _ hs _ _=>hs)
  ⟨.refl _ _,fun _ _ _=>rfl,A,c,by rw[HB1.out.1.block J hjl];exact HD.out.1,HD.out.2.1,HD.out.2.2.1,HD.out.2.2.2.1.on HB1.out.1⟩
  (fun x=>{ tmps:=#[.pointer (some ⟨J,0,none⟩),.int .i64 (m:Nat),.pointer (some ⟨w.heap.size,0,none⟩),undef,.int .i64 0,undef,(fs.drop m).getD x lv,.int .i64 (m:Nat),.bool false,.bool false,.int .i64 (m:Nat),.pointer (some ⟨J,0,none⟩),.int .i64 hs.length,.bool false,.bool false,.pointer (some ⟨J,0,none⟩),.pointer (some ⟨J,0,none⟩),.pointer (some ⟨J,1,none⟩),.slice R hs.length cr,.int .i64 (m:Nat),.slice R' (hs.length-m) (cr-m),.func (.func 129) #[] #[.pointer (some ⟨w.heap.size+1,0,none⟩)],.int .i64 (x:Int),(fs.drop m).getD x lv,undef,undef,undef,undef,undef,undef,undef,undef,undef,undef,undef,undef,undef,undef,undef,undef,undef,undef,undef,undef],defers:=[] }) ?assign ?body ?done ?stop
 case assign=>
  intro l x W K hK;clear hst;dsimp only[encB]at hK⊢;generalize(fs.drop m).getD x lv=v at hK⊢
  gi_wp2
  exact hK
 case stop=>
  rintro D c pre W _ _ h _;exact h.elim
 case body=>
  clear hst;rintro l pre x W hI hlen;obtain⟨o1,o2,A',c',k1,k2,k3,k4⟩:=hI;obtain⟨fn,lb,ef,hent,hact⟩:=HACT.out x W o1;have hsm:=HSM.out pre (by omega);have hnx:back (Fs.drop m) cur (pre++[x])=((Fs.drop m).getD x id) (back (Fs.drop m) cur pre):=jp _ _ _ _
  have HPOST:Hid (∀a w2 A2 c2,Below W.heap.size W w2->(((Fs.drop m).getD x id) (back (Fs.drop m) cur pre)).length<=c2->c2<=maxLen->PrsX n0 w2 A2 c2 (((Fs.drop m).getD x id) (back (Fs.drop m) cur pre)) ->
    ownPostG w1.heap.size (KpD fun b=>b=w.heap.size+1\/(Value.slice R hs.length cr).ownBlock=some b) (za2 n0 J w1 cur (Fs.drop m) (.slice R hs.length cr)) (fun _ _ _=>False) (pre++[x]) W .normal a (w2.setCell ⟨J,0,none⟩ (.slice A2 (((Fs.drop m).getD x id) (back (Fs.drop m) cur pre)).length c2))):=by
   intro a w2 A2 c2 hb j1 j2 j3;have hJ1:J<w1.heap.size:=by omega
   have hsz:w1.heap.size<=W.heap.size:=o1.size;have hk2:w2.heap[J]? =some (.cells #[.slice A' (back (Fs.drop m) cur pre).length c',.slice R hs.length cr] 92 (0,0)):=by rw[hb.block J (by omega)];exact k1
   have hk3:=(kL hk2 (.slice A2 (((Fs.drop m).getD x id) (back (Fs.drop m) cur pre)).length c2)).1;have hs2:Off n0 w2 (w2.setCell ⟨J,0,none⟩ (.slice A2 (((Fs.drop m).getD x id) (back (Fs.drop m) cur pre)).length c2)):=Off.set2 ⟨H.out.hJ,_,92,_,hk2,.inl rfl,xR⟩ ⟨H.out.hJ,_,92,_,hk3,.inl rfl,xR⟩;refine⟨⟨by rw[qi];exact hb.size,fun k o hk1 ho hno=>?_⟩,fun b hb'=>?_,(o1.then hb).trans hs2,fun b hb' hne=>?_,A2,c2,?_,?_,j2,?_⟩
   ·rw[zf _ _ _ _ _ (by omega),hb.block k (aU.1 ho).1];exact ho
   ·obtain⟨g1,g2⟩:=HDl.out b hb';rw[zf _ _ _ _ _ g2];exact hb.block b (by omega)
   ·rw[zf _ _ _ _ _ hne,hb.block b (by omega)];exact o2 b hb' hne
   ·rw[hnx];exact hk3
   ·rw[hnx];exact j1
   ·rw[hnx];exact j3.off hs2
  have HK:Hid (Calls prog fn (#[.slice A' (back (Fs.drop m) cur pre).length c']++lb) W.drew (NewX n0 W.drew (((Fs.drop m).getD x id) (back (Fs.drop m) cur pre)))):=
   hact W.drew (.of (Below.refl _ _).drew) A' c' _ hsm k2 k3 (k4.on (Below.refl _ _).drew)
  generalize ownPostG w1.heap.size (KpD fun b=>b=w.heap.size+1\/(Value.slice R hs.length cr).ownBlock=some b) (za2 n0 J w1 cur (Fs.drop m) (.slice R hs.length cr)) (fun _ _ _=>False) (pre++[x]) W=Q at *
  have hk3:c'<=9223372036854775807:=by unfold maxLen at k3;omega
  have hcb:W.cell? ⟨w.heap.size,0,none⟩=some (.pointer (some ⟨J,0,none⟩)):=by
   rw[yp (a:=⟨w.heap.size,0,none⟩) (w:=w1) (o2 _ (by show w.heap.size<_;omega) (by show w.heap.size≠J;omega))];simp[World.cell?,HB1.out.2.2.1]
  have hsmall:=HSM;clear hnx HSM hsmall hact hsm k3 k4 o1 hlen
  generalize((Fs.drop m).getD x id) (back (Fs.drop m) cur pre)=nx at *
  generalize back (Fs.drop m) cur pre=cu at *
  generalize(fs.drop m).getD x lv=f at *
  subst ef;obtain⟨j0,j1,j2,j3⟩:=kO k1
  have HJC:Hid (∀w2,Below W.drew.heap.size W.drew w2->w2.cell? ⟨w.heap.size,0,none⟩=some (.pointer (some ⟨J,0,none⟩))/\w2.cell? ⟨J,0,none⟩=some (.slice A' cu.length c')/\w2.frozen? ⟨J,0,none⟩=false):=fun w2 hb=>
   ⟨by rw[hb.cell (p:=⟨w.heap.size,0,none⟩) (wW W _ hcb)];exact hcb,by rw[hb.cell (p:=⟨J,0,none⟩) (wW W _ j0)];exact j0,by rw[hb.frozen (p:=⟨J,0,none⟩) (wW W _ j0)];exact j2⟩
  unfold Ent at hent;have hmx:prog.follows .mixedOrders=true:=by kernel_rfl
  dsimp only;clear k1 o2 hgb hgl hbox hbs HC HDl HACT hB1 hsz1 HD HRES HM HB0 HB1 H g0 g1 g2 g3 f1 q1 q2 hfl hn0
  gi_wp2
  gi_region_with_o (refine⟨trivial,?_⟩;refine(CallsIn.inRound l (callsIn_wide.2 HK.out)).mono ?_;rintro e w2 ⟨A2,c2,rfl,p1,p2,p3,p4⟩;have HP:=aQ (HPOST.out · w2 A2 c2 ((Below.refl _ _).drew.trans p4) p1 p2 p3);obtain⟨y0,y1,y2⟩:=HJC.out w2 p4;clear p1 p2 p3 p4)
  all_goals gi_wp2
  all_goals exact HP.out _
 case done=>
  clear hst;rintro D ys W hDs rfl hI hKD;obtain⟨o1,o2,A',c',k1,k2,k3,k4⟩:=hI;have hbk:back (Fs.drop m) cur (vl (fs.drop m).length (fs.drop m).length)=res:=by
   rw[hgl];exact zg8 HD.out.2.2.2.2.2.2.2.2 HD.out.2.2.2.2.2.1 HRES.out.1 HRES.out.2
  rw[hbk]at k1 k2 k4;clear hbk;have hJd:J<D:=by omega
  have hDc:W.heap[D]? =some (.deferred (some [])):=hKD;have HK0:=aQ hKD;have HO1:Hid (Off n0 w1 W/\(∀b,b<w1.heap.size->b≠J->W.heap[b]? =w1.heap[b]?)/\W.heap[J]? =some (.cells #[.slice A' res.length c',.slice R hs.length cr] 92 (0,0))/\res.length<=c'/\c'<=maxLen/\PrsX n0 W A' c' res):=⟨o1,o2,k1,k2,k3,k4⟩;obtain⟨j0,j1,j2,j3⟩:=kO k1;have hcb:W.drew.cell? ⟨w.heap.size,0,none⟩=some (.pointer (some ⟨J,0,none⟩)):=by
   show W.cell? _=_;rw[yp (a:=⟨w.heap.size,0,none⟩) (w:=w1) (o2 _ (by show w.heap.size<_;omega) (by show w.heap.size≠J;omega))];simp[World.cell?,HB1.out.2.2.1]
  have hRW:Rws n0 W 154 (.slice R hs.length cr) hs.length fs:=(HD.out.2.2.2.2.1.on HB1.out.1).keep fun g hg=>o2 g (HDl.out g (.inr hg)).1 (HDl.out g (.inr hg)).2;have HRW:=aQ hRW;have KM:Hid (Calls prog 27 #[.pointer (some ⟨J,0,none⟩)] W.drew fun e w'=>e=.returned (.int .i64 hs.length)/\W.drew=w'):=zk4 W.drew J R hs.length cr j1;have KD:Hid (Calls prog 81 #[.slice R hs.length cr,.int .i64 (m:Nat),.int .i64 hs.length] W.drew (Deld n0 R m cr fs W.drew)):=zlw n0 W.drew R hs.length m cr fs (hRW.on (Below.refl _ _).drew) HRES.out.1 hlen;have hobk:∀b,(Value.slice R m cr).ownBlock=some b->b<w.heap.size/\b≠J/\b≠w.heap.size/\Jb w J b:=fun b hb=>by
   have hb':(Value.slice R hs.length cr).ownBlock=some b:=by cases R<;>exact hb
   have h1:=(HD.out.2.2.2.2.1.1.lt b hb').2;exact⟨h1,(HDl.out b (.inr hb')).2,by omega,.inr ⟨_,b,g1,hb',rfl⟩⟩
  have HS5:Hid (∀w5,W.drew.grownBy w5 (Value.slice R m cr).ownBlock->w5.cell? ⟨J,1,none⟩=some (.slice R hs.length cr)/\w5.frozen? ⟨J,1,none⟩=false/\w5.cell? ⟨w.heap.size,0,none⟩=some (.pointer (some ⟨J,0,none⟩))):=fun w5 hg=>by
   have hJ5:w5.heap[J]? =W.heap[J]?:=hg.block J (by have:=o1.size;show J<W.heap.size;omega) fun e=>(hobk J e.symm).2.1 rfl;have hJ6:=kO (hJ5.trans k1);refine⟨hJ6.2.1,hJ6.2.2.2,?_⟩;exact hg.cell hcb fun e=>(hobk _ e.symm).2.2.1 rfl
  have HFIN:Hid (∀w5,Rws n0 w5 154 (.slice R m cr) m (fs.take m)->Off n0 W.drew w5->W.drew.grownBy w5 (Value.slice R m cr).ownBlock ->
    (w5.setCell ⟨J,1,none⟩ (.slice R m cr)).cell? ⟨w.heap.size,0,none⟩=some (.pointer (some ⟨J,0,none⟩))/\(w5.setCell ⟨J,1,none⟩ (.slice R m cr)).heap[D]? =some (.deferred (some []))/\Chd n0 J w (hs.take m) res ((w5.setCell ⟨J,1,none⟩ (.slice R m cr)).putObj D (.deferred none))):=fun w5 d1 d2 d3=>by
   have hJ5:w5.heap[J]? =some (.cells #[.slice A' res.length c',.slice R hs.length cr] 92 (0,0)):=(d3.block J (by have:=o1.size;show J<W.heap.size;omega) fun e=>(hobk J e.symm).2.1 rfl).trans k1;have hJ6:=(kL hJ5 (.slice R m cr)).2;have hs2:Off n0 w5 (w5.setCell ⟨J,1,none⟩ (.slice R m cr)):=Off.set2 ⟨H.out.hJ,_,92,_,hJ5,.inl rfl,xR⟩ ⟨H.out.hJ,_,92,_,hJ6,.inl rfl,xR⟩;have hDW:D<W.heap.size:=(aU.1 HK0.out).1;have hD5:w5.heap[D]? =some (.deferred (some [])):=(d3.block D hDW fun e=>by have:=(hobk D e.symm).1;omega).trans HK0.out;have hD6:(w5.setCell ⟨J,1,none⟩ (.slice R m cr)).heap[D]? =some (.deferred (some [])):=(zf _ _ _ _ _ (by omega)).trans hD5;have hD7:Off n0 (w5.setCell ⟨J,1,none⟩ (.slice R m cr)) ((w5.setCell ⟨J,1,none⟩ (.slice R m cr)).putObj D (.deferred none)):=.other (grownBy_putObj' _ D _) (zgc hD6 rfl) (by have:=H.out.hJ;omega);have hoW:Off n0 W ((w5.setCell ⟨J,1,none⟩ (.slice R m cr)).putObj D (.deferred none)):=(((Off.of (Below.refl _ _).drew).trans d2).trans hs2).trans hD7;have how:Off n0 w ((w5.setCell ⟨J,1,none⟩ (.slice R m cr)).putObj D (.deferred none)):=((Off.of HB1.out.1).trans o1).trans hoW;have hput:∀b,b≠D->((w5.setCell ⟨J,1,none⟩ (.slice R m cr)).putObj D (.deferred none)).heap[b]? =(w5.setCell ⟨J,1,none⟩ (.slice R m cr)).heap[b]?:=fun b hb=>World.putObj_heap_other hb;have hlt:(hs.take m).length=m:=by rw[aI];omega
   refine⟨?_,hD6,how,⟨fun b hb hnb=>?_,fun b hb=>?_⟩,H.out.hJ,by rw[hlt];omega,fun s hs'=>?_,A',c',R,cr,fs.take m,Fs.take m,?_,k2,k3,k4.off hoW,?_,by rw[hlt,aI,HD.out.2.2.2.2.2.1];omega,fun i f F g1 g2=>?_,fun F hF=>HD.out.2.2.2.2.2.2.2.1 F (List.mem_of_mem_take hF),zbp HD.out.2.2.2.2.2.2.2.2 HRES.out.1 HRES.out.2⟩
   ·rw[yp (a:=⟨w.heap.size,0,none⟩) (w:=w5) (zf _ _ _ _ _ (by show w.heap.size≠J;omega))];exact d3.cell hcb fun e=>(hobk _ e.symm).2.2.1 rfl
   ·have hbJ:b≠J:=fun e=>hnb (.inl e);rw[hput b (by omega),zf _ _ _ _ _ hbJ,d3.block b (by have:=o1.size;show b<W.heap.size;omega) fun e=>hnb (hobk b e.symm).2.2.2];exact(o2 b (by omega) hbJ).trans (HB1.out.1.block b hb)
   ·rcases hb with rfl|⟨v,g,e1,e2,rfl⟩
    ·exact .inl (.inl rfl)
    ·have e3:((w5.setCell ⟨J,1,none⟩ (.slice R m cr)).putObj D (.deferred none)).cell? ⟨J,1,none⟩=some (.slice R m cr):=by
      rw[yp (a:=⟨J,1,none⟩) (w:=w5.setCell ⟨J,1,none⟩ (.slice R m cr)) (hput J (by omega))];simp[World.cell?,hJ6]
     rw[e3]at e1;injection e1 with e1
     subst e1;exact .inl (hobk b e2).2.2.2
   ·rcases List.mem_append.1 hs' with e|e
    ·exact H.out.right s (List.mem_append_left _ (List.mem_of_mem_take e))
    ·obtain rfl:s=res:=by simpa using e
     exact H.out.right s (wM HRES.out.2)
   ·rw[hput J (by omega),hJ6,hlt]
   ·rw[hlt];exact d1.keep fun g hg=>by
     have:=hobk g hg;rw[hput g (by omega),zf _ _ _ _ _ this.2.1]
   ·rw[List.getElem?_take]at g1 g2
    split at g1
    ·rw[if_pos (by assumption)]at g2;exact(HD.out.2.2.2.2.2.2.1 i f F g1 g2).off how
    ·cases g1
  clear k1 k2 k3 k4 o1 o2 hRW hobk hKD hDc HC HDl HSM HACT hgb hgl hbox hbs hB1 hsz1 HD HB1 HO1 HRW H HRES HM HB0 HK0 g0 g1 g2 g3 hjl hfl hn0 hJd hDs
  (go_wp2_with fail);refine zeh ?_;refine wp_region_held_drew (S:=fun w'=>w'.cell? ⟨w.heap.size,0,none⟩=some (.pointer (some ⟨J,0,none⟩))) (by kernel_rfl) hcb (fun hHeld=>?_);refine aO 0 ?_
  try simp only[Act.put,zzs]
  refine aO 1 ?_
  try simp only[Act.put,zzs]
  refine aO 2 ?_
  try simp only[Act.put,zzs]
  refine aO 3 ?_
  try simp only[Act.put,zzs]
  refine aO 5 ?_
  try simp only[Act.put,zzs]
  refine aO 6 ?_
  try simp only[Act.put,zzs]
  refine ab 4 7 rfl rfl (fun K hK=>?_) fun K hK=>?_
  ·skip
   go_simp;refine hK.out _ _ hHeld (fun hHeld=>?_);clear hK K;refine aa 7 rfl fun K hK=>?_;go_simp
   (with_reducible refine KM.out.mono ?_)
   rintro e w4⟨rfl,rfl⟩
   (go_wp2_with fail);refine hK.out _ _ hHeld (fun hHeld=>?_);clear hK K;refine aa 8 rfl fun K hK=>?_
   go_simp
   (with_reducible refine KD.out.mono ?_)
   rintro e w5⟨rfl,hd1,hd2,hd3⟩;have HF:=aQ (HFIN.out w5 hd1 hd2 hd3);obtain⟨y1,y2,y3⟩:=HS5.out w5 hd3;clear hd1 hd2 hd3
   (go_wp2_with fail);refine hK.out _ _ y3 (fun hHeld=>?_);clear hK K;refine aO 9 ?_
   try simp only[Act.put,zzs]
   refine aO 10 ?_
   try simp only[Act.put,zzs]
   refine aa 11 rfl fun K hK=>?_;go_simp;refine hK.out _ _ HF.out.1 (fun hHeld=>?_);clear hK K;refine aJ (by kernel_rfl) ?_ _;refine⟨rfl,?_⟩;have hKD:=HF.out.2.1;have HFF:=aQ HF.out.2.2;clear HF hHeld y1 y2 y3;go_wp2;refine⟨by simp,.inl ⟨_,_,rfl,run_takeDeferred hKD,?_⟩⟩;exact⟨_,results_tmp rfl _ _ _,rfl,HFF.out⟩
  ·skip
   go_simp
   (with_reducible refine KM.out.mono ?_)
   rintro e w4⟨rfl,rfl⟩
   (go_wp2_with fail);refine hK.out _ _ hHeld (fun hHeld=>?_);clear hK K;refine aa 4 rfl fun K hK=>?_
   go_simp;refine hK.out _ _ hHeld (fun hHeld=>?_);clear hK K;refine aa 8 rfl fun K hK=>?_;go_simp
   (with_reducible refine KD.out.mono ?_)
   rintro e w5⟨rfl,hd1,hd2,hd3⟩;have HF:=aQ (HFIN.out w5 hd1 hd2 hd3);obtain⟨y1,y2,y3⟩:=HS5.out w5 hd3;clear hd1 hd2 hd3
   (go_wp2_with fail);refine hK.out _ _ y3 (fun hHeld=>?_);clear hK K;refine aO 9 ?_
   try simp only[Act.put,zzs]
   refine aO 10 ?_
   try simp only[Act.put,zzs]
   refine aa 11 rfl fun K hK=>?_;go_simp;refine hK.out _ _ HF.out.1 (fun hHeld=>?_);clear hK K;refine aJ (by kernel_rfl) ?_ _;refine⟨rfl,?_⟩;have hKD:=HF.out.2.1;have HFF:=aQ HF.out.2.2;clear HF hHeld y1 y2 y3;go_wp2;refine⟨by simp,.inl ⟨_,_,rfl,run_takeDeferred hKD,?_⟩⟩;exact⟨_,results_tmp rfl _ _ _,rfl,HFF.out⟩
end
end
end Go.Proofs.YtcilgkdnjgmogaaGreatDoor
