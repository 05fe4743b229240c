/- A part of the proof. -/
import Derived.Test.YtcilgkdnjgmogaaGreatDoorXN
import Derived.Defers
import Derived.Recover
import Derived.Deep.DeepCutAuto
import Derived.Test.YtcilgkdnjgmogaaGreatDoorXJ
namespace Go.Proofs.YtcilgkdnjgmogaaGreatDoor
set_option maxRecDepth 100000
set_option maxHeartbeats 12800000
set_option linter.all false
variable {D D':Nat->Prop} {R z:Nat} {l r s:List Nat} {w:World}
section
section
theorem ze3 {P:Tok->Prop} (h:∀ p,p < l.length->(qC (l.drop p)).err =0->P ⟨(qC (l.drop p)).kind,(qC (l.drop p)).text,(qC (l.drop p)).num,p⟩) :
  ∀ (f p:Nat) (ts:List Tok),(∀ t∈ts,P t)->∀ t∈(vy l f p ts).toks,P t
 | 0,_,_,hts=>hts
 | f+1,p,ts,hts=>by
  intro t ht;unfold vy at ht
  split at ht
  ·rename_i hp
   split at ht
   ·cases ht
   ·rename_i he
    split at ht
    ·cases ht
    ·refine ze3 h f _ _ ?_ t ht
     intro u hu;rcases List.mem_append.1 hu with h1|h1
     ·exact hts u h1
     ·simp at h1
      subst h1;exact h p hp (by simpa using he)
  ·exact hts t ht
theorem zkf {P:Tok->Prop} (h:∀ p,p < l.length->(qC (l.drop p)).err =0->P ⟨(qC (l.drop p)).kind,(qC (l.drop p)).text,(qC (l.drop p)).num,p⟩):∀ t∈(xx l).toks,P t:=by
 unfold xx
 split
 ·intro t ht
  cases ht
 ·exact ze3 h _ _ _ (fun t ht=>by cases ht)
theorem zlm (h:(qC r).err =0) (hy:Byn r):Byn (qC r).text/\((qC r).kind =1->yz (qC r).text =false):=by
 have nilB:Byn []:=fun b hb=>by cases hb
 cases r with
 | nil=>exact ⟨nilB,fun h1=>by simp [qC,bad] at h1⟩
 | cons b r=>
  rw [vV] at h ⊢;by_cases h1:xO b =true
  ·rw [if_pos h1] at h ⊢
   unfold zer at h ⊢
   split at h
   ·simp [bad] at h
   ·rename_i hn
    rw [if_neg hn];refine ⟨hy.sub fun x hx=>List.mem_of_mem_take hx,fun hk=>?_⟩;dsimp only at hk ⊢;cases hw:yz (List.take (run kE (b::r)) (b::r)) with
    | false=>rfl
    | true=>rw [hw] at hk;simp at hk
  ·rw [if_neg h1] at h ⊢
   by_cases h2:qu b =true
   ·rw [if_pos h2] at h ⊢
    unfold numT at h ⊢;cases hv:kG (List.take (run qu (b::r)) (b::r)) 0 with
    | none=>rw [hv] at h;simp [bad] at h
    | some v=>exact ⟨nilB,fun hk=>by simp at hk⟩
   ·rw [if_neg h2] at h ⊢
    by_cases h3:b =34
    ·rw [if_pos h3] at h ⊢
     unfold jN at h ⊢
     split at h
     ·rename_i hq
      rw [if_pos hq]
      split at h
      ·simp [bad] at h
      ·rename_i hn
       rw [if_neg hn];exact ⟨hy.sub fun x hx=>List.mem_of_mem_drop (List.mem_of_mem_take hx),fun hk=>by simp at hk⟩
     ·simp [bad] at h
    ·rw [if_neg h3] at h ⊢
     unfold yu at h ⊢
     split at h
     ·simp [bad] at h
     ·rename_i hn
      rw [if_neg hn];exact ⟨zb4 hy,fun hk=>by simp at hk⟩
theorem zfe (hy:Byn l):∀ t∈(xx l).toks,Byn t.text/\(t.kind =1->yz t.text =false):=
 zkf fun _ _ he=>zlm he (hy.sub fun _ hx=>List.mem_of_mem_drop hx)
theorem zbt:∀ (f p:Nat) (ts:List Tok),ts.length<=2048->(vy l f p ts).toks.length<=2048
 | 0,_,_,h=>h
 | f+1,p,ts,h=>by
  unfold vy
  split
  ·split
   ·exact Nat.zero_le _
   ·split
    ·exact Nat.zero_le _
    ·exact zbt f _ _ (by simp;omega)
  ·exact h
theorem zi6 (l:List Nat):(xx l).toks.length<=2048:=by
 unfold xx
 split
 ·exact Nat.zero_le _
 ·exact zbt _ _ _ (Nat.zero_le _)
end
section
open Go.RowKit
theorem zlt (w:World):(binOp .eql 20 .nilIface .nilIface).run Tryz.prog w =.ok (.bool true) w:=by
 have h:∀ d:Nat,(Op.equalIn (d+1) 20 .nilIface .nilIface).run Tryz.prog w =.ok true w:=fun d=>by simp [Op.equalIn,run_underlying Tryz.underlying20]
 simp only [binOp];simp [Op.equal,Op.maxDepth,h 9999]
theorem zgl (w:World) (u:TypeId) (v:Value):(binOp .eql 20 (.iface u v) .nilIface).run Tryz.prog w =.ok (.bool false) w:=by
 have h:∀ d:Nat,(Op.equalIn (d+1) 20 (.iface u v) .nilIface).run Tryz.prog w =.ok false w:=fun d=>by simp [Op.equalIn,run_underlying Tryz.underlying20]
 simp only [binOp];simp [Op.equal,Op.maxDepth,h 9999]
theorem zms (w:World) (v:Value):(Instr.typeAssert (.iface 75 v) 20 75 true).run Tryz.prog w =.ok (.tuple #[v,.bool true]) w:=by
 simp [Instr.typeAssert,run_underlying Tryz.underlying75]
theorem zkn (a b c v:Value):#[a,b,c]++((Array.replicate 19 undef).setIfInBounds 3 v).setIfInBounds 0 v =#[a,b,c,v,undef,undef,v,undef,undef,undef,undef,undef,undef,undef,undef,undef,undef,undef,undef,undef,undef,undef]:=by kernel_rfl
theorem zgy {P:Program} {fn:Func} {c₀:Frame} {cs:List Frame} {R:Ending->FrameMode->World->Prop} {a:Act} {v:Value} {c:Frame} (hc:c ={ c₀ with mode:=c.mode }) (hv:(results fn a.tmps).run P w =.ok v w) (hd:a.defers =[]) (hR:R (.returned v) c.mode w) :
  bodyPostS P fn c₀ cs R Exit.ret a (c::cs) w:=by
 exact ⟨hd,c.mode,by rw [<- hc],v,hv,hR⟩
theorem zek {P:Program} {fn:Func} {c₀:Frame} {cs:List Frame} {R:Ending->FrameMode->World->Prop} {a:Act} {v:Value} {c:Frame} (hc:c ={ c₀ with mode:=c.mode }) (hv:(results fn a.tmps).run P w =.ok v w) (hd:a.defers =[]) (hR:R (.returned v) c.mode w) :
  bodyPostS P fn c₀ cs R Exit.normal a (c::cs) w:=by
 exact ⟨hd,c.mode,by rw [<- hc],v,hv,hR⟩
theorem zii (a b c:Addr) (w:World) :
  CallsD Tryz.prog 34 #[.pointer (some a),.pointer (some b),.pointer (some c)] .returning w fun e u' w'=>e =.returned (.tuple #[])/\u' =.returning/\w' =w:=by
 have hen:=zlt;refine callsD_of_wpS Tryz.func34 rfl fun c₀ cs hu=>?_;apply wpS_seq;apply wpS_region;generalize hQ:Exit.thenS _ _ =Q';simp only [Tryz.ntmps34];simp [wpOpsS,go_sem,recoverD,hu];rw [<- hQ];simp only [Exit.thenS];clear hQ;refine wpS_of_wp ?_;rw [zkn]
 go_wp2
 refine zgy (v:=.tuple #[]) rfl ?_ rfl ?_
 ·simp [results,Tryz.results34]
 ·exact ⟨rfl,hu,rfl⟩
theorem wH (a b c:Nat) (code place:Nat) (older:List PanicEntry) (w:World) (u0:Value) (x0 y0:Int) (ha:qj w a [u0]) (hb:qj w b [.int .i64 x0]) (hc:qj w c [.int .i64 y0]) (hab:a≠b) (hac:a≠c) (hbc:b≠c) :
  CallsD Tryz.prog 34 #[.pointer (some ⟨a,0,none⟩),.pointer (some ⟨b,0,none⟩),.pointer (some ⟨c,0,none⟩)] (.panicking ({ v:=.iface 75 (.agg #[.int .i64 code,.int .i64 place]),recovered:=false }::older)) w fun e u' w'=>
   e =.returned (.tuple #[])/\u' =.panicking ({ v:=.iface 75 (.agg #[.int .i64 code,.int .i64 place]),recovered:=true }::older)/\qj w' a [.slice none 0 0]/\qj w' b [.int .i64 code]/\qj w' c [.int .i64 place]/\∀ B,B<=a->B<=b->B<=c->Below B w w':=by
 have hes:=zgl;have has:=zms;have la:=ha.lt (by simp);have lb:=hb.lt (by simp);have lc:=hc.lt (by simp);obtain ⟨a1,a2⟩:=ha.cell 0 _ rfl;obtain ⟨b1,b2⟩:=hb.cell 0 _ rfl;obtain ⟨c1,c2⟩:=hc.cell 0 _ rfl;have HA:=zz9 ha;have HB:=zz9 hb;have HC:=zz9 hc;clear ha hb hc;refine callsD_of_wpS Tryz.func34 rfl fun c₀ cs hu=>?_;apply wpS_seq;apply wpS_region;generalize hQ:Exit.thenS _ _ =Q';simp only [Tryz.ntmps34];simp [wpOpsS,go_sem,recoverD,hu];rw [<- hQ];simp only [Exit.thenS];clear hQ;refine wpS_of_wp ?_;rw [zkn]
 go_wp2_with fail
 go_region
 have va:=((HA.out.set 0 (.slice none 0 0)).of (zo (b:=b) (i:=0) (u:=.int .i64 code) a hab)).of (zo (b:=c) (i:=0) (u:=.int .i64 place) a hac);have vb:=((HB.out.of (zo (b:=a) (i:=0) (u:=.slice none 0 0) b (Ne.symm hab))).set 0 (.int .i64 code)).of (zo (b:=c) (i:=0) (u:=.int .i64 place) b hbc);have vc:=((HC.out.of (zo (b:=a) (i:=0) (u:=.slice none 0 0) c (Ne.symm hac))).of (zo (b:=b) (i:=0) (u:=.int .i64 code) c (Ne.symm hbc))).set 0 (.int .i64 place);have hsz:(((w.setCell ⟨a,0,none⟩ (.slice none 0 0)).setCell ⟨b,0,none⟩ (.int .i64 code)).setCell ⟨c,0,none⟩ (.int .i64 place)).heap.size =w.heap.size:=by rw [zB,zB,zB]
 have hbel:∀ B,B<=a->B<=b->B<=c->Below B w (((w.setCell ⟨a,0,none⟩ (.slice none 0 0)).setCell ⟨b,0,none⟩ (.int .i64 code)).setCell ⟨c,0,none⟩ (.int .i64 place)):=fun B h1 h2 h3=>
  (((Below.refl B w).setCell (p:=⟨a,0,none⟩) h1 _).setCell (p:=⟨b,0,none⟩) h2 _).setCell (p:=⟨c,0,none⟩) h3 _
 generalize ((w.setCell ⟨a,0,none⟩ (.slice none 0 0)).setCell ⟨b,0,none⟩ (.int .i64 code)).setCell ⟨c,0,none⟩ (.int .i64 place) =w3 at *
 have hblk:∀ k,k < w3.heap.size->(w3.alloc (.cells #[.int .i64 code,.int .i64 place] 75)).drew.heap[k]? =w3.heap[k]?:=fun k hk=>Below.heap_alloc _ _ _ hk;refine zek (v:=.tuple #[]) (c:={ c₀ with mode:=.panicking ({ v:=.iface 75 (.agg #[.int .i64 code,.int .i64 place]),recovered:=true }::older) }) rfl ?_ rfl ?_
 ·simp [results,Tryz.results34]
 ·exact ⟨rfl,rfl,va.of (hblk a (by omega)),vb.of (hblk b (by omega)),vc.of (hblk c (by omega)),fun B h1 h2 h3=>((hbel B h1 h2 h3).alloc (by omega) _).drew⟩
end
section
open Go.RowKit
def zty (w:World) (o:zkj) (e:Ending) (w':World):Prop:=
 ∃ V,e =.returned (.tuple #[.agg #[V],.int .i64 o.err,.int .i64 o.place])/\FusC w' (Rng w.heap.size w'.heap.size) o.funcs V/\Below w.heap.size w w'
theorem zq8 {base:Nat} {v:Value} {ts:List Tok} (h:w.ownsRow base 134 4 v ts.length (yF ts)) (hy:∀ t∈ts,Byn t.text) (hR:w.heap.size<=R):∃ S:Src,S.all =ts/\S.z =z/\S.V =v/\S.Ok w R:=by
 rcases h.2 with ⟨rfl,h2⟩|⟨g,cap,cur,rfl,hb,hg,hn,hm,_⟩
 ·have:ts =[]:=List.eq_nil_of_length_eq_zero h2
  subst this;exact ⟨⟨none,0,[],z⟩,rfl,rfl,rfl,zzA0 _,Nat.zero_le _,hy,fun _=>rfl,fun g h=>by cases h⟩
 ·refine ⟨⟨some g,cap,ts,z⟩,rfl,rfl,rfl,hn,hm,hy,(fun h=>by cases h),fun g' hg'=>?_⟩
  injection hg' with hg'
  subst hg';refine ⟨zzA1 (h.lt g rfl).2 hR,fun i t ht=>?_⟩;have key:∀ j u,j < 4->(tokC t)[j]? =some u->w.cell? ⟨g,i*4+j,none⟩ =some u:=fun j u hj hu=>by
   have h1:=h.cells rfl (i*4+j) u ((zdq ts i j t ht hj).trans hu);rw [Addr.add_lit,Nat.zero_add] at h1;exact h1
  exact ⟨key 0 _ (by omega) rfl,key 1 _ (by omega) rfl,key 2 _ (by omega) rfl,key 3 _ (by omega) rfl⟩
theorem wY (tmps:Array Value) (w:World) (p q r:Nat) (V:Value) (x y:Int) (h2:tmps.getD 2 undef =.pointer (some ⟨p,0,none⟩)) (h3:tmps.getD 3 undef =.pointer (some ⟨q,0,none⟩)) (h4:tmps.getD 4 undef =.pointer (some ⟨r,0,none⟩)) (hV:qj w p [V]) (hx:qj w q [.int .i64 x]) (hy:qj w r [.int .i64 y]) :
  (results Tryz.f12 tmps).run Tryz.prog w =.ok (.tuple #[.agg #[V],.int .i64 x,.int .i64 y]) w:=by
 have h2':tmps[2]?.getD undef =.pointer (some ⟨p,0,none⟩):=by simpa using h2
 have h3':tmps[3]?.getD undef =.pointer (some ⟨q,0,none⟩):=by simpa using h3
 have h4':tmps[4]?.getD undef =.pointer (some ⟨r,0,none⟩):=by simpa using h4
 have c0:=(hV.cell 0 _ rfl).1;have c1:=(hx.cell 0 _ rfl).1;have c2:=(hy.cell 0 _ rfl).1;simp [results,Tryz.results12,h2',h3',h4',asAddr,go_sem,c0,c1,c2]
end
section
open Go.RowKit
def zn4:Res (List Fu)->zkj
 | .ok fs _=>⟨0,fs,0⟩
 | .bad c p=>⟨c,[],p⟩
theorem zjk (h:(xx l).err =0):jS l =zn4 (ja l.length (xx l).toks):=by
 unfold jS;rw [if_pos h];cases ja l.length (xx l).toks <;> rfl
theorem zvm (A:Option Addr) (l:List Nat) (c:Nat) (w:World) (hc:l.length<=c) (hcm:c<=maxLen) (hl:Lies w w.heap.size A c (bts l)) (hy:Byn l) (ht:Tab w) :
  Calls Tryz.prog 12 #[.slice A l.length c] w (zty w (jS l)):=by
 have hmf:∀ (fn:Fn) (first cap:Array Value) (w:World),(Instr.makeFunc fn first cap).run Tryz.prog w =.ok (.func fn first cap) w:=fun _ _ _ _=>rfl;have hcm':=hcm;unfold maxLen at hcm';have b2:=wG (Below.refl w.heap.size w) (zzA0 _) (.cells #[.slice none 0 0] 26) (.cells #[.int .i64 0] 27);have s2:((w.alloc (.cells #[.slice none 0 0] 26)).alloc (.cells #[.int .i64 0] 27)).heap.size =w.heap.size+2:=by simp
 have bt:=za ((w.alloc (.cells #[.slice none 0 0] 26)).alloc (.cells #[.int .i64 0] 27)) (.cells #[.int .i64 0] 3);have b3:=b2.trans (bt.mono b2.size);have n0:(((w.alloc (.cells #[.slice none 0 0] 26)).alloc (.cells #[.int .i64 0] 27)).alloc (.cells #[.int .i64 0] 3)).heap[w.heap.size]? =some (.cells #[.slice none 0 0] 26):=by
  rw [Below.heap_alloc _ _ _ (by simp;omega),Below.heap_alloc _ _ _ (by simp)];exact heap_alloc_new w _
 have n1:(((w.alloc (.cells #[.slice none 0 0] 26)).alloc (.cells #[.int .i64 0] 27)).alloc (.cells #[.int .i64 0] 3)).heap[w.heap.size+1]? =some (.cells #[.int .i64 0] 27):=by
  rw [Below.heap_alloc _ _ _ (by simp)];have:=heap_alloc_new (w.alloc (.cells #[.slice none 0 0] 26)) (.cells #[.int .i64 0] 27);simpa using this
 have n2:(((w.alloc (.cells #[.slice none 0 0] 26)).alloc (.cells #[.int .i64 0] 27)).alloc (.cells #[.int .i64 0] 3)).heap[w.heap.size+1+1]? =some (.cells #[.int .i64 0] 3):=by
  have:=heap_alloc_new ((w.alloc (.cells #[.slice none 0 0] 26)).alloc (.cells #[.int .i64 0] 27)) (.cells #[.int .i64 0] 3);simpa using this
 have K:=zz9 (lex A l c _ hc hcm ((hl.below b3).more b3.size) hy (ht.below b3 ht.1));have HB:=zz9 b3;have HN:Hid (qj (((w.alloc (.cells #[.slice none 0 0] 26)).alloc (.cells #[.int .i64 0] 27)).alloc (.cells #[.int .i64 0] 3)) w.heap.size [.slice none 0 0]/\qj (((w.alloc (.cells #[.slice none 0 0] 26)).alloc (.cells #[.int .i64 0] 27)).alloc (.cells #[.int .i64 0] 3)) (w.heap.size+1) [.int .i64 0]/\qj (((w.alloc (.cells #[.slice none 0 0] 26)).alloc (.cells #[.int .i64 0] 27)).alloc (.cells #[.int .i64 0] 3)) (w.heap.size+1+1) [.int .i64 0]):=⟨qj.block (cs:=[_]) n0,qj.block (cs:=[_]) n1,qj.block (cs:=[_]) n2⟩;have s3:(((w.alloc (.cells #[.slice none 0 0] 26)).alloc (.cells #[.int .i64 0] 27)).alloc (.cells #[.int .i64 0] 3)).heap.size =w.heap.size+3:=by simp
 have HY:=zz9 hy;clear hl hy ht b2 bt b3 n0 n1 n2 s2 hcm
 go_enter_defers Tryz.func12,Tryz.ntmps12
 go_wp2_with fail
 generalize ((w.alloc (.cells #[.slice none 0 0] 26)).alloc (.cells #[.int .i64 0] 27)).alloc (.cells #[.int .i64 0] 3) =w0 at *
 refine K.out.mono ?_;clear K;rintro e' w1 ⟨v,rfl,hown,hb1⟩;obtain ⟨Av,cv,rfl⟩:=qm hown;have s1:=hb1.size;have V0:=HN.out.1.of (hb1.block _ (by omega));have V1:=HN.out.2.1.of (hb1.block _ (by omega));have V2:=HN.out.2.2.of (hb1.block _ (by omega));obtain ⟨e1,f1⟩:=V1.cell 0 _ rfl;obtain ⟨e2,f2⟩:=V2.cell 0 _ rfl;by_cases herr:(xx l).err =0
 ·have hne:((((xx l).err:Nat):Int) != 0) =false:=by rw [herr];rfl
  have HP:=zz9 (zjk herr);have HV:Hid (qj w1 w.heap.size [.slice none 0 0]/\qj w1 (w.heap.size+1) [.int .i64 0]/\qj w1 (w.heap.size+1+1) [.int .i64 0]):=⟨V0,V1,V2⟩;have HB1:=zz9 (HB.out.trans (hb1.mono (by omega)));have HO:=zz9 hown;have hmany:=zi6 l;have HNm:=zz9 (zfe HY.out);clear hown hb1 V0 V1 V2 herr
  generalize (xx l).err =er at *
  generalize (xx l).place =pl at *
  generalize (xx l).toks =ts at *
  go_upto_region 4 with fail
  have vb:=(HV.out.2.1.set 0 (.int .i64 er)).of (zo (b:=w.heap.size+1+1) (i:=0) (u:=.int .i64 pl) _ (by omega));have vc:=(HV.out.2.2.of (zo (b:=w.heap.size+1) (i:=0) (u:=.int .i64 er) _ (by omega))).set 0 (.int .i64 pl);have va:=(HV.out.1.of (zo (b:=w.heap.size+1) (i:=0) (u:=.int .i64 er) _ (by omega))).of (zo (b:=w.heap.size+1+1) (i:=0) (u:=.int .i64 pl) _ (by omega));have hB3:=(HB1.out.setCell (p:=⟨w.heap.size+1,0,none⟩) (by show w.heap.size<=w.heap.size+1;omega) (.int .i64 er)).setCell (p:=⟨w.heap.size+1+1,0,none⟩) (by show w.heap.size<=w.heap.size+1+1;omega) (.int .i64 pl);have hsz:((w1.setCell ⟨w.heap.size+1,0,none⟩ (.int .i64 er)).setCell ⟨w.heap.size+1+1,0,none⟩ (.int .i64 pl)).heap.size =w1.heap.size:=by rw [zB,zB]
  have hO3:((w1.setCell ⟨w.heap.size+1,0,none⟩ (.int .i64 er)).setCell ⟨w.heap.size+1+1,0,none⟩ (.int .i64 pl)).ownsRow w0.heap.size 134 4 (.slice Av ts.length cv) ts.length (yF ts):=by
   refine ⟨HO.out.1,?_⟩;rcases HO.out.2 with h'|⟨g,cap,cur,e,hb,hg,rest⟩
   ·exact .inl h'
   ·exact .inr ⟨g,cap,cur,e,hb,by rw [zo g (by omega),zo g (by omega)];exact hg,rest⟩
  clear e1 f1 e2 f2 HV HO HB1
  generalize (w1.setCell ⟨w.heap.size+1,0,none⟩ (.int .i64 er)).setCell ⟨w.heap.size+1+1,0,none⟩ (.int .i64 pl) =w3 at *
  obtain ⟨S,hS1,hS2,hS3,hS4⟩:=zq8 (z:=l.length) (R:=w3.heap.size) hO3 (fun t h=>(HNm.out t h).1) (zzA0 _);have bR:=za w3 (.cells #[.slice Av ts.length cv,.int .i64 0,.int .i64 l.length] 79);have hAt:At (w3.alloc (.cells #[.slice Av ts.length cv,.int .i64 0,.int .i64 l.length] 79)) w3.heap.size S ts:=by
   refine ⟨hS4.of fun k hk=>bR.block k hk,0,Nat.zero_le _,by rw [hS1];rfl,?_⟩;rw [heap_alloc_new];unfold rdO;rw [hS3,hS2];rfl
  have K:=zz9 (program w3.heap.size S (by rw [hS1];omega) ts _ hAt);rw [hS2] at K;have HV3:Hid (qj w3 w.heap.size [.slice none 0 0]/\qj w3 (w.heap.size+1) [.int .i64 er]/\qj w3 (w.heap.size+1+1) [.int .i64 pl]):=⟨va,vb,vc⟩;have HB3:=zz9 (hB3.trans (bR.mono hB3.size));have sR:(w3.alloc (.cells #[.slice Av ts.length cv,.int .i64 0,.int .i64 l.length] 79)).heap.size =w3.heap.size+1:=by simp
  have HbR:=zz9 bR;have HSZ:=zz9 hsz;have HSR:=zz9 sR;have HS3:=zz9 s3;clear va vb vc hB3 hO3 hS1 hS3 hS4 bR hAt hsz sR s3
  go_wp2_with fail
  generalize w3.alloc (.cells #[.slice Av ts.length cv,.int .i64 0,.int .i64 l.length] 79) =wR at *
  (with_reducible refine K.out.mono ?_)
  clear K;rintro e' w5 ⟨hm,⟨fs,r5,pv,hr,rfl,hq,ha5⟩|⟨cc,q,hr,rfl⟩⟩
  ·have hsz:=HSZ.out
   have sR:=HSR.out;have s3:=HS3.out
   have VR:qj w5 w.heap.size [.slice none 0 0]/\qj w5 (w.heap.size+1) [.int .i64 er]/\qj w5 (w.heap.size+1+1) [.int .i64 pl]:=
    ⟨HV3.out.1.of ((hm.block' (by omega) (by omega)).trans (HbR.out.block _ (by omega))),HV3.out.2.1.of ((hm.block' (by omega) (by omega)).trans (HbR.out.block _ (by omega))),HV3.out.2.2.of ((hm.block' (by omega) (by omega)).trans (HbR.out.block _ (by omega)))⟩
   obtain ⟨V,rfl,hF⟩:=hq;obtain ⟨aV,nV,cV,rfl⟩:∃ a n c,V =.slice a n c:=by
    obtain ⟨_,_,⟨a,c,h,_⟩,_⟩:=hF;exact ⟨a,_,c,h⟩
   have HP2:Hid (jS l =⟨0,fs,0⟩):=by show _ =_;rw [HP.out,hr];rfl
   have HB5:Hid (Below w.heap.size w w5):=HB3.out.trans ⟨hm.os,hm.tape,hm.output,hm.size,fun k hk=>hm.block' (by omega) (by omega)⟩;have HF:Hid (FusC w5 (Rng (w.heap.size+3) w5.heap.size) fs (.slice aV nV cV)):=hF.more fun k hk=>⟨by have:=hk.1;omega,hk.2⟩;have HVR:=zz9 VR;clear hm hr hsz sR s3 hF ha5 VR
   go_wp2_with (refine zc zf3 rfl (.tmp 2) (.tmp 25) rfl rfl w.heap.size rfl [_] rfl rfl HVR.out.1.2 (by simp [Value.oneCell']) ?_;intro w7 g1 g2 g3 g4 g5;refine Hid.out ?_)
   refine zz9 ?_;have v1:=HVR.out.2.1.of (g4 (w.heap.size+1) (by omega));have v2:=HVR.out.2.2.of (g4 (w.heap.size+1+1) (by omega));obtain ⟨e1,f1⟩:=v1.cell 0 _ rfl;obtain ⟨e2,f2⟩:=v2.cell 0 _ rfl
   have HG:Hid (qj w7 w.heap.size [.slice aV nV cV]/\qj w7 (w.heap.size+1) [.int .i64 er]/\qj w7 (w.heap.size+1+1) [.int .i64 pl]/\Below w.heap.size w w7/\FusC w7 (Rng (w.heap.size+3) w7.heap.size) fs (.slice aV nV cV)):=
    ⟨⟨g1,g2⟩,v1,v2,HB5.out.trans g3,(HF.out.same fun q h=>g4 q (by have:=h.1;omega)).more fun q h=>⟨h.1,by rw [g5];exact h.2⟩⟩
   clear g1 g2 g3 g4 g5 v1 v2
   go_wp2
   have va:=(HG.out.1.of (zo (b:=w.heap.size+1) (i:=0) (u:=.int .i64 0) _ (by omega))).of (zo (b:=w.heap.size+1+1) (i:=0) (u:=.int .i64 0) _ (by omega));have vb:=(HG.out.2.1.set 0 (.int .i64 0)).of (zo (b:=w.heap.size+1+1) (i:=0) (u:=.int .i64 0) _ (by omega));have vc:=(HG.out.2.2.1.of (zo (b:=w.heap.size+1) (i:=0) (u:=.int .i64 0) _ (by omega))).set 0 (.int .i64 0);have hbe:=(HG.out.2.2.2.1.setCell (p:=⟨w.heap.size+1,0,none⟩) (by show w.heap.size<=w.heap.size+1;omega) (.int .i64 0)).setCell (p:=⟨w.heap.size+1+1,0,none⟩) (by show w.heap.size<=w.heap.size+1+1;omega) (.int .i64 0)
   have hfu:FusC ((w7.setCell ⟨w.heap.size+1,0,none⟩ (.int .i64 0)).setCell ⟨w.heap.size+1+1,0,none⟩ (.int .i64 0)) (Rng (w.heap.size+3) w7.heap.size) fs (.slice aV nV cV):=
    HG.out.2.2.2.2.same fun q h=>by rw [zo q (by have:=h.1;omega),zo q (by have:=h.1;omega)]
   have hsz7:((w7.setCell ⟨w.heap.size+1,0,none⟩ (.int .i64 0)).setCell ⟨w.heap.size+1+1,0,none⟩ (.int .i64 0)).heap.size =w7.heap.size:=by rw [zB,zB]
   generalize (w7.setCell ⟨w.heap.size+1,0,none⟩ (.int .i64 0)).setCell ⟨w.heap.size+1+1,0,none⟩ (.int .i64 0) =w8 at *
   refine leaves_cons (f:=34) (args:=#[.pointer (some ⟨w.heap.size,0,none⟩),.pointer (some ⟨w.heap.size+1,0,none⟩),.pointer (some ⟨w.heap.size+1+1,0,none⟩)]) (by simp) (by simp [go_sem]) ?_;refine (zii ⟨w.heap.size,0,none⟩ ⟨w.heap.size+1,0,none⟩ ⟨w.heap.size+1+1,0,none⟩ w8).mono ?_;rintro e' u' w9 ⟨rfl,rfl,rfl⟩;exact ⟨_,wY _ _ w.heap.size (w.heap.size+1) (w.heap.size+1+1) (.slice aV nV cV) 0 0 rfl rfl rfl va vb vc,.slice aV nV cV,by rw [HP2.out];rfl,by rw [HP2.out];exact hfu.more fun q h=>⟨by have:=h.1;omega,by rw [hsz7];exact h.2⟩,hbe⟩
  ·have hsz:=HSZ.out
   have sR:=HSR.out;have s3:=HS3.out
   have VR:qj w5 w.heap.size [.slice none 0 0]/\qj w5 (w.heap.size+1) [.int .i64 er]/\qj w5 (w.heap.size+1+1) [.int .i64 pl]:=
    ⟨HV3.out.1.of ((hm.block' (by omega) (by omega)).trans (HbR.out.block _ (by omega))),HV3.out.2.1.of ((hm.block' (by omega) (by omega)).trans (HbR.out.block _ (by omega))),HV3.out.2.2.of ((hm.block' (by omega) (by omega)).trans (HbR.out.block _ (by omega)))⟩
   have HP2:Hid (jS l =⟨cc,[],q⟩):=by show _ =_;rw [HP.out,hr];rfl
   have HB5:Hid (Below w.heap.size w w5):=HB3.out.trans ⟨hm.os,hm.tape,hm.output,hm.size,fun k hk=>hm.block' (by omega) (by omega)⟩;clear hm hr hsz sR s3
   go_wp2
   refine leaves_cons (f:=34) (args:=#[.pointer (some ⟨w.heap.size,0,none⟩),.pointer (some ⟨w.heap.size+1,0,none⟩),.pointer (some ⟨w.heap.size+1+1,0,none⟩)]) (by simp) (by simp [go_sem]) ?_;refine (wH w.heap.size (w.heap.size+1) (w.heap.size+1+1) cc q [] w5 _ _ _ VR.1 VR.2.1 VR.2.2 (by omega) (by omega) (by omega)).mono ?_;rintro e' u' w6 ⟨rfl,rfl,v1,v2,v3,hbel⟩;refine ⟨_,wY _ _ w.heap.size (w.heap.size+1) (w.heap.size+1+1) (.slice none 0 0) cc q rfl rfl rfl v1 v2 v3,.slice none 0 0,by rw [HP2.out],by rw [HP2.out];exact FusC.nothing _ _,HB5.out.trans (hbel _ (zzA0 _) (by omega) (by omega))⟩
 ·have hne:((((xx l).err:Nat):Int) != 0) =true:=by rw [bne_iff_ne];omega
  have HO:=zz9 hown;have HV:Hid (qj w1 w.heap.size [.slice none 0 0]/\qj w1 (w.heap.size+1) [.int .i64 0]/\qj w1 (w.heap.size+1+1) [.int .i64 0]):=⟨V0,V1,V2⟩;have HB1:=zz9 (HB.out.trans (hb1.mono (by omega)));have HP:Hid (jS l =⟨(xx l).err,[],(xx l).place⟩):=by show _ =_;unfold jS;rw [if_neg herr]
  obtain ⟨e0,f0⟩:=V0.cell 0 _ rfl;clear hown hb1 V0 V1 V2 herr
  generalize (xx l).err =er at *
  generalize (xx l).place =pl at *
  go_wp2_with fail
  go_region
  go_wp2
  have va:=((((HV.out.1.of (zo (b:=w.heap.size+1) (i:=0) (u:=.int .i64 er) _ (by omega))).of (zo (b:=w.heap.size+1+1) (i:=0) (u:=.int .i64 pl) _ (by omega))).set 0 (.slice none 0 0)).of (zo (b:=w.heap.size+1) (i:=0) (u:=.int .i64 er) _ (by omega))).of (zo (b:=w.heap.size+1+1) (i:=0) (u:=.int .i64 pl) _ (by omega));have vb:=((((HV.out.2.1.set 0 (.int .i64 er)).of (zo (b:=w.heap.size+1+1) (i:=0) (u:=.int .i64 pl) _ (by omega))).of (zo (b:=w.heap.size) (i:=0) (u:=.slice none 0 0) _ (by omega))).set 0 (.int .i64 er)).of (zo (b:=w.heap.size+1+1) (i:=0) (u:=.int .i64 pl) _ (by omega));have vc:=((((HV.out.2.2.of (zo (b:=w.heap.size+1) (i:=0) (u:=.int .i64 er) _ (by omega))).set 0 (.int .i64 pl)).of (zo (b:=w.heap.size) (i:=0) (u:=.slice none 0 0) _ (by omega))).of (zo (b:=w.heap.size+1) (i:=0) (u:=.int .i64 er) _ (by omega))).set 0 (.int .i64 pl);refine ⟨_,wY _ _ w.heap.size (w.heap.size+1) (w.heap.size+1+1) (.slice none 0 0) er pl rfl rfl rfl (va.of rfl) (vb.of rfl) (vc.of rfl),.slice none 0 0,by rw [HP.out],by rw [HP.out];exact FusC.nothing _ _,?_⟩;exact (((((HB1.out.setCell (p:=⟨w.heap.size+1,0,none⟩) (by show w.heap.size<=w.heap.size+1;omega) _).setCell (p:=⟨w.heap.size+1+1,0,none⟩) (by show w.heap.size<=w.heap.size+1+1;omega) _).setCell (p:=⟨w.heap.size,0,none⟩) (zzA0 _) _).setCell (p:=⟨w.heap.size+1,0,none⟩) (by show w.heap.size<=w.heap.size+1;omega) _).setCell (p:=⟨w.heap.size+1+1,0,none⟩) (by show w.heap.size<=w.heap.size+1+1;omega) _).drew
end
section
open Go.RowKit
theorem zxj:Tryz.prog.cellsOf 5 =1:=by kernel_rfl
theorem zf4 (a:Array Obj) (x:Obj) (f:Obj->Obj):(a.push x).modify a.size f =a.push (f x):=by
 apply Array.ext
 ·simp
 ·intro i h1 h2
  simp only [Array.getElem_modify,Array.getElem_push];by_cases h:a.size =i
  ·subst h
   simp
  ·have hi:i < a.size:=by simp at h1;omega
   simp [h,hi]
theorem yj (w:World) (C:Array Value) (n c:Nat) :
  (convert 22 22 (.slice (some ⟨w.heap.size,0,none⟩) n c)).run Tryz.prog (w.alloc (.cells C 5)) =.ok (.slice (some ⟨w.heap.size,0,none⟩) n c) (w.alloc (.cells C 5 (C.size,C.size+1))):=by
 have hsh:(w.alloc (.cells C 5)).shape? w.heap.size =some (5,C.size):=by
  have:(w.alloc (.cells C 5)).heap[w.heap.size]? =some (.cells C 5):=heap_alloc_new w _;unfold World.shape?;rw [this]
 have hfr:(w.alloc (.cells C 5)).freeze ⟨w.heap.size,C.size,none⟩ 1 =w.alloc (.cells C 5 (C.size,C.size+1)):=by
  unfold World.freeze;rw [if_neg (by decide)];show ({ w.alloc (.cells C 5) with heap:=(w.heap.push (.cells C 5)).modify w.heap.size _ }:World) =_;rw [zf4];rfl
 simp [convert,run_underlying Tryz.underlying22,run_underlying Tryz.underlying5,markStringish,hsh];exact hfr
theorem zcv (w:World) (l:List Nat) (c:Nat) (t:TypeId) (fr:Nat×Nat):Lies (w.alloc (.cells (bts l).toArray t fr)) (w.heap.size+1) (some ⟨w.heap.size,0,none⟩) c (bts l):=by
 refine ⟨(fun e=>by cases e),fun j u hu=>⟨_,rfl,by simp,?_⟩⟩;have hb:(w.alloc (.cells (bts l).toArray t fr)).heap[w.heap.size]? =some (.cells (bts l).toArray t fr):=heap_alloc_new w _;rw [Addr.add_lit,cell_of_row _ _ _ _ _ _ hb];simpa using hu
def zt7 (w:World) (fs:List Fu) (ze zp:Int) (e:Ending) (w':World):Prop:=
 ∃ V,e =.returned (.tuple #[.agg #[V],.int .i64 ze,.int .i64 zp])/\FusC w' (Rng w.heap.size w'.heap.size) fs V/\Below w.heap.size w w'
theorem zrx (A:Option Addr) (l:List Nat) (n c:Nat) (w:World) (hn:l.length =n) (hc:n<=c) (hcm:c<=maxLen) (hl:Lies w w.heap.size A c (bts l)) (hy:Byn l) (ht:Tab w) (err place:Nat) (fs:List Fu) (hp:jS l =⟨err,fs,place⟩) (ze zp:Int) (h1:ze =err) (h2:zp =place) :
  Calls Tryz.prog 12 #[.slice A n c] w (zt7 w fs ze zp):=by
 subst hn h1 h2;have h:=zvm A l c w hc hcm hl hy ht;rw [hp] at h;exact h
end
end
section
section
open Go.RowKit
mutual
def toXe:Ex->Xe
 | .mk op num text kids place=>.mk op num text (yD kids) place
def yD:List Ex->List Xe
 | []=>[]
 | e::l=>toXe e::yD l
end
mutual
def toXs:St->Xs
 | .mk op text exprs body els place=>.mk op text (yD exprs) (vT body) (vT els) place
def vT:List St->List Xs
 | []=>[]
 | s::l=>toXs s::vT l
end
def toXf (f:Fu):Xf:=⟨f.name,f.params.map fun p=>(p.1,(p.2:Int)),f.result,vT f.body,f.place⟩
theorem vN:∀ l,yD l =l.map toXe
 | []=>by simp [yD]
 | e::l=>by simp [yD,vN l]
theorem vA:∀ l,vT l =l.map toXs
 | []=>by simp [vT]
 | e::l=>by simp [vT,vA l]
def bynB (s:List Nat):Bool:=s.all fun b=>decide (b < 256)
theorem yQ:bynB s =true ↔ Byn s:=by simp [bynB,Byn]
mutual
def okE:Ex->Bool
 | .mk _ _ text kids _=>bynB text && okEs kids
def okEs:List Ex->Bool
 | []=>true
 | e::l=>okE e && okEs l
end
mutual
def okS:St->Bool
 | .mk _ text exprs body els _=>bynB text && okEs exprs && okSs body && okSs els
def okSs:List St->Bool
 | []=>true
 | e::l=>okS e && okSs l
end
def okF (f:Fu):Bool:=bynB f.name && f.params.all (fun p=>bynB p.1) && okSs f.body
theorem zc5:∀ {l:List Ex},okEs l =true->∀ e∈l,okE e =true
 | [],_,e,h=>by simp at h
 | x::r,hl,e,h=>by
  simp [okEs] at hl;rcases List.mem_cons.1 h with rfl|h
  ·exact hl.1
  ·exact zc5 hl.2 e h
theorem zce:∀ {l:List St},okSs l =true->∀ e∈l,okS e =true
 | [],_,e,h=>by simp at h
 | x::r,hl,e,h=>by
  simp [okSs] at hl;rcases List.mem_cons.1 h with rfl|h
  ·exact hl.1
  ·exact zce hl.2 e h
theorem zho:∀ (l:List Ex) (ks:List Value),xesC (yD l) ks =exsC l ks
 | [],_=>by simp [xesC,exsC,yD]
 | _::_,[]=>by simp [xesC,exsC,yD]
 | .mk op num text kids place::l,k::ks=>by
  have:=zho l ks
  unfold xesC exsC at *
  simp only [yD,List.zipWith_cons_cons,List.flatten_cons,this];simp [xeC,exC,toXe,Xe.op,Xe.num,Xe.text,Xe.place,Ex.op,Ex.num,Ex.text,Ex.place]
theorem ze0 (l:List Ex):(yD l).length =l.length:=by rw [vN];simp
theorem zep (l:List St):(vT l).length =l.length:=by rw [vA];simp
theorem ExsC.toX {l:List Ex} {V:Value} (h:ExsC w D l V):okEs l =true->XesC w D (yD l) V:=by
 induction h with
 | mk l ks V hk h1 _ ih=>
  intro ho;refine .mk _ ks V (by rw [ze0];exact hk) (by rw [ze0,zho];exact h1) ?_ ?_
  ·intro e he
   rw [vN] at he;obtain ⟨x,hx,rfl⟩:=List.mem_map.1 he;have:=zc5 ho x hx;obtain ⟨op,num,text,kids,place⟩:=x;simp [okE] at this;exact yQ.1 this.1
  ·intro i e k he hk'
   rw [vN,List.getElem?_map] at he;cases hx:l[i]? with
   | none=>rw [hx] at he;cases he
   | some x=>
    rw [hx] at he;injection he with he
    subst he;have h3:=ih i x k hx hk';have:=zc5 ho x (List.mem_of_getElem? hx);obtain ⟨op,num,text,kids,place⟩:=x;simp [okE] at this;exact h3 this.2
theorem zhc:∀ (l:List St) (ks:List qM),xssC (vT l) ks =stsC l ks
 | [],_=>by simp [xssC,stsC,vT]
 | _::_,[]=>by simp [xssC,stsC,vT]
 | .mk op text exprs body els place::l,k::ks=>by
  have:=zhc l ks
  unfold xssC stsC at *
  simp only [vT,List.zipWith_cons_cons,List.flatten_cons,this];simp [xsC,stC,toXs,Xs.op,Xs.text,Xs.place,St.op,St.text,St.place]
theorem StsC.toX {l:List St} {V:Value} (h:StsC w D l V):okSs l =true->XssC w D (vT l) V:=by
 induction h with
 | mk l ks V hk h1 he _ _ ib iF=>
  intro ho;refine .mk _ ks V (by rw [zep];exact hk) (by rw [zep,zhc];exact h1) ?_ ?_ ?_ ?_
  ·intro e he
   rw [vA] at he;obtain ⟨x,hx,rfl⟩:=List.mem_map.1 he;have:=zce ho x hx;obtain ⟨op,text,exprs,body,els,place⟩:=x;simp [okS] at this;exact yQ.1 this.1.1.1
  all_goals
   intro i e k hq hk';rw [vA,List.getElem?_map] at hq;cases hx:l[i]? with
   | none=>rw [hx] at hq;cases hq
   | some x=>
    rw [hx] at hq;injection hq with hq
    subst hq;have h3:=ib i x k hx hk';have h4:=iF i x k hx hk';have h5:=he i x k hx hk';have:=zce ho x (List.mem_of_getElem? hx);obtain ⟨op,text,exprs,body,els,place⟩:=x;simp [okS] at this
    first|exact ExsC.toX h5 this.1.1.2|exact h3 this.1.2|exact h4 this.2
theorem znb (l:List (List Nat×Nat)):xpsC (l.map fun p=>(p.1,(p.2:Int))) =pasC l:=by
 simp [xpsC,pasC,List.flatMap_map,xpC];rfl
theorem zgj:∀ (l:List Fu) (ks:List Two),xfsC (l.map toXf) ks =fusC l ks
 | [],_=>by simp [xfsC,fusC]
 | _::_,[]=>by simp [xfsC,fusC]
 | f::l,k::ks=>by
  have:=zgj l ks
  unfold xfsC fusC at *
  simp only [List.map_cons,List.zipWith_cons_cons,List.flatten_cons,this];simp [xfC,fuC,toXf]
theorem FusC.toX {l:List Fu} {V:Value} (h:FusC w D l V) (ho:∀ f∈l,okF f =true):∃ ks,XfsC w D (l.map toXf) ks V:=by
 obtain ⟨ks,h1,h2,h3⟩:=h;refine ⟨ks,by simpa using h1,by rw [zgj];simpa using h2,fun i f k hf hk=>?_⟩;rw [List.getElem?_map] at hf;cases hx:l[i]? with
 | none=>rw [hx] at hf;cases hf
 | some x=>
  rw [hx] at hf;injection hf with hf
  subst hf;obtain ⟨g1,g2⟩:=h3 i x k hx hk;have:=ho x (List.mem_of_getElem? hx);simp only [okF,Bool.and_eq_true] at this;refine ⟨yQ.1 this.1.1,?_,?_,g2.toX this.2⟩
  ·show RowF w D (x.params.map _).length (xpsC (x.params.map _)) k.p
   rw [znb];simpa using g1
  ·intro p hp
   simp only [toXf] at hp;obtain ⟨q,hq,rfl⟩:=List.mem_map.1 hp;exact yQ.1 (by have h9:=List.all_eq_true.1 this.1.2 q hq;exact h9)
theorem XfsC.more {l:List Xf} {ks:List Two} {V:Value} (h:XfsC w D l ks V) (g1:∀ k,D k->D' k):XfsC w D' l ks V:=by
 have hX:∀ {l:List Xe} {V:Value},XesC w D l V->XesC w D' l V:=by
  intro l V h
  induction h with
  | mk l ks V hk h1 ht _ ih=>exact .mk l ks V hk (h1.more g1) ht ih
 have hS:∀ {l:List Xs} {V:Value},XssC w D l V->XssC w D' l V:=by
  intro l V h
  induction h with
  | mk l ks V hk h1 ht he _ _ ib iF=>exact .mk l ks V hk (h1.more g1) ht (fun i s k a b=>hX (he i s k a b)) ib iF
 exact ⟨h.1,h.2.1.more g1,fun i f k a b=>⟨(h.2.2 i f k a b).name,(h.2.2 i f k a b).params.more g1,(h.2.2 i f k a b).names,hS (h.2.2 i f k a b).body⟩⟩
structure zo1 where
 funcs:List Fu
 err:Int
 place:Int
def yB (err:Nat) (fs:List Fu) (place:Nat):zo1:=
 if err =0 then (if (je (fs.map toXf)).1 =0 then ⟨fs,0,0⟩ else ⟨[],(je (fs.map toXf)).1,(je (fs.map toXf)).2⟩) else ⟨[],err,place⟩
def zr7 (w:World) (r:zo1) (e:Ending) (w':World):Prop:=∃ V,e =.returned (.tuple #[.agg #[V],.int .i64 r.err,.int .i64 r.place])/\FusC w' (Rng w.heap.size w'.heap.size) r.funcs V/\Below w.heap.size w w'
theorem vR {fn:Func} {s T u v:Nat} {d:TypeDesc} {cs:List Value} (h:fn.results =#[.cell s T,.tmp u,.tmp v]) (hu:Tryz.prog.underlying T =some d) (hd:d.isRow =true) (hi:(Tryz.prog.info? T).map (·.size) =some cs.length) (tmps:Array Value) (w:World) (g:Nat) (hp:tmps.getD s undef =.pointer (some ⟨g,0,none⟩)) (hr:w.rangeAt g 0 cs) :
  (results fn tmps).run Tryz.prog w =.ok (.tuple #[.agg cs.toArray,tmps.getD u undef,tmps.getD v undef]) w:=by
 have hp':tmps[s]?.getD undef =.pointer (some ⟨g,0,none⟩):=by simpa using hp
 have h1:=run_loadVar_mid (P:=Tryz.prog) w g 0 T cs _ hr hu hd hi;simp [results,h,hp',asAddr,h1]
theorem yk:(Tryz.prog.info? 26).map (·.size) =some 1:=by kernel_rfl
theorem zal {l:List Fu} {V:Value} (h:FusC w D l V):∃ A c,V =.slice A l.length c:=by
 obtain ⟨ks,_,h2,_⟩:=h;exact h2.slice5
theorem zr5 (A:Option Addr) (l:List Nat) (n c:Nat) (w:World) (hn:l.length =n) (hc:n<=c) (hcm:c<=maxLen) (hl:Lies w w.heap.size A c (bts l)) (hy:Byn l) (ht:Tab w) (err place:Nat) (fs:List Fu) (hp:jS l =⟨err,fs,place⟩) (hok:∀ f∈fs,okF f =true) :
  Calls Tryz.prog 25 #[.slice A n c] w (zr7 w (yB err fs place)):=by
 have BA:=za w (.cells #[.slice none 0 0] 26);have HB0:=zz9 BA;have K:=zz9 (zrx A l n c (w.alloc (.cells #[.slice none 0 0] 26)) hn hc hcm ((hl.below BA).more (by simp)) hy (ht.below BA ht.1) err place fs hp err place rfl rfl);have HT2:Hid ((w.alloc (.cells #[.slice none 0 0] 26)).there w.heap.size 0 1):=zD (cs:=[_]) (heap_alloc_new w _) rfl;have HL0:Hid (w.heap.size+1<=(w.alloc (.cells #[.slice none 0 0] 26)).heap.size):=by show _<=_;simp
 have HOk:=zz9 hok;clear hl hy ht hp BA hok;go_enter Tryz.func25,Tryz.ntmps25
 go_wp2_with fail
 generalize w.alloc (.cells #[.slice none 0 0] 26) =w0 at *
 with_reducible refine K.out.mono ?_
 rintro e w1 ⟨V,rfl,hF,b1⟩;obtain ⟨AV,cV,rfl⟩:=zal hF;have T1:=zz9 (zw HT2.out b1 (by have:=HL0.out;omega));have HB1:=zz9 (zd HB0.out b1 HB0.out.size);have HF:=zz9 hF;have HL1:Hid (w.heap.size+1<=w1.heap.size):=zzA2 HL0.out b1.size;clear hF b1 K HT2;by_cases he:err =0
 ·have q:((err:Int) == 0) =true:=by rw [he];rfl
  have q2:((err:Int) =0):=by omega
  have b2:=za w1 (.cells #[.slice AV fs.length cV] 26);obtain ⟨ks,hX⟩:=FusC.toX HF.out HOk.out;have hX1:XfsC w1 (Lo w1.heap.size) (fs.map toXf) ks (.slice AV fs.length cV):=hX.more fun k hk=>hk.2;have KC:=zpj (fs.map toXf) ks AV cV _ w1.heap.size b2.size (by rw [List.length_map];exact hX1.same (zk b2 (zzA0 _)));rw [List.length_map] at KC;have HKC:=zz9 KC;have T2:=zz9 (zw T1.out b2 (by have:=HL1.out;omega));have HB2:=zz9 (zd HB1.out b2 HB1.out.size);have HF2:Hid (FusC (w1.alloc (.cells #[.slice AV fs.length cV] 26)) (Rng w0.heap.size w1.heap.size) fs (.slice AV fs.length cV)):=HF.out.same fun k hk=>b2.block k hk.2;have x0:(w1.alloc (.cells #[.slice AV fs.length cV] 26)).cell? ⟨w1.heap.size,0,none⟩ =some (.slice AV fs.length cV):=by rw [cell_of_row _ _ _ _ _ _ (heap_alloc_new w1 _)];rfl
  have HS1:Hid (w1.heap.size < (w1.alloc (.cells #[.slice AV fs.length cV] 26)).heap.size):=by show _ < _;simp
  have HR:Hid (yB err fs place =if (je (fs.map toXf)).1 =0 then ⟨fs,0,0⟩ else ⟨[],(je (fs.map toXf)).1,(je (fs.map toXf)).2⟩):=by show _ =_;unfold yB;rw [if_pos he]
  clear hX hX1 KC b2 T1 HB1 he q2
  go_upto_region 2 with fail
  generalize w1.alloc (.cells #[.slice AV fs.length cV] 26) =w2 at *
  generalize je (fs.map toXf) =cm at *
  go_wp2_with fail
  with_reducible refine HKC.out.mono ?_
  rintro e w3 ⟨rfl,b3⟩;have T3:=zz9 (zw T2.out b3 (by have:=HL1.out;have:=HS1.out;omega));have y0:=zb x0 b3;have HB3:=zz9 (zd HB2.out b3 HB2.out.size);have HF3:Hid (FusC w3 (Rng w0.heap.size w1.heap.size) fs (.slice AV fs.length cV)):=HF2.out.same fun k hk=>b3.block k (by have:=hk.2;have:=HS1.out;omega);have HS3:Hid (w1.heap.size < w3.heap.size):=zzA1 HS1.out b3.size;clear x0 b3 HKC T2 HB2 HF2;obtain ⟨c1,c2⟩:=cm
  simp only at *
  by_cases h1:c1 =0
  ·have q3:(c1 != 0) =false:=by rw [h1];rfl
   have HR2:Hid (yB err fs place =⟨fs,0,0⟩):=HR.out.trans (if_pos h1);clear h1
   go_wp2_with (refine zc yk rfl (.tmp 2) (.tmp 26) rfl rfl w.heap.size rfl [_] rfl rfl T3.out (by simp [Value.oneCell']) ?_;intro w4 g1 g2 g3 g4 g5)
   refine bodyPost_ret (vR (cs:=[_]) Tryz.results25 Tryz.underlying26 rfl yk _ _ w.heap.size rfl g1) rfl ?_;refine ⟨.slice AV fs.length cV,by rw [HR2.out];rfl,?_,HB3.out.trans g3⟩;rw [HR2.out];exact (HF3.out.same fun k hk=>g4 k (by have:=hk.1;have:=HL0.out;omega)).more fun k hk=>⟨by have:=hk.1;have:=HL0.out;omega,by rw [g5];have:=hk.2;have:=HS3.out;omega⟩
  ·have q3:(c1 != 0) =true:=by rw [bne_iff_ne];exact h1
   have HR2:Hid (yB err fs place =⟨[],c1,c2⟩):=HR.out.trans (if_neg h1);clear h1
   go_wp2_with (refine zc yk rfl (.tmp 2) (.tmp 23) rfl rfl w.heap.size rfl [_] rfl rfl T3.out (by simp [Value.oneCell']) ?_;intro w4 g1 g2 g3 g4 g5)
   refine bodyPost_ret (vR (cs:=[_]) Tryz.results25 Tryz.underlying26 rfl yk _ _ w.heap.size rfl g1) rfl ?_;refine ⟨.slice none 0 0,by rw [HR2.out];rfl,?_,HB3.out.trans g3⟩;rw [HR2.out];exact FusC.nothing _ _
 ·have q:((err:Int) == 0) =false:=by rw [beq_eq_false_iff_ne];omega
  have q3:((err:Int) != 0) =true:=by rw [bne_iff_ne];omega
  have HR2:Hid (yB err fs place =⟨[],err,place⟩):=by show _ =_;unfold yB;rw [if_neg he]
  have b2:=za w1 (.cells #[.slice AV fs.length cV] 26);have T2:=zz9 (zw T1.out b2 (by have:=HL1.out;omega));have HB2:=zz9 (zd HB1.out b2 HB1.out.size);clear b2 T1 HB1 he
  go_upto_region 2 with fail
  generalize w1.alloc (.cells #[.slice AV fs.length cV] 26) =w2 at *
  go_wp2_with (refine zc yk rfl (.tmp 2) (.tmp 23) rfl rfl w.heap.size rfl [_] rfl rfl T2.out (by simp [Value.oneCell']) ?_;intro w4 g1 g2 g3 g4 g5)
  refine bodyPost_ret (vR (cs:=[_]) Tryz.results25 Tryz.underlying26 rfl yk _ _ w.heap.size rfl g1) rfl ?_;refine ⟨.slice none 0 0,by rw [HR2.out];rfl,?_,HB2.out.trans g3⟩;rw [HR2.out];exact FusC.nothing _ _
end
end
end Go.Proofs.YtcilgkdnjgmogaaGreatDoor
