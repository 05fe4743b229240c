/- A part of the proof. -/
import Derived.Deep.RegionHeld2
import Derived.Test.YtcilgkdnjgmogaaGreatDoorXX
namespace Go.Proofs.YtcilgkdnjgmogaaGreatDoor
set_option maxRecDepth 100000
set_option maxHeartbeats 12800000
set_option linter.all false
variable {A A0:Option Addr} {D:Nat->Prop} {K1 K2 K3 q:Value} {c cp g i kb ko m n0 o:Nat} {eo:Array Value} {n1 t0:Int} {w w' w0 w1 w2 wb:World}
section
open Go.RowKit Go.MapKept
variable [Prt]
theorem RetV.var {o:Option Va} {x:Value} {t n:Int} (h:RetV w o x) (hv:VSt g t n (.slice A m cp) w w') {m0 cp0:Nat} (hw:w.heap[g]? =some (.cells #[.int .i64 t0,.int .i64 n1,.slice A0 m0 cp0] 41 (0,0))):RetV w' o x:=by
 cases o with
 | none=>exact h
 | some v=>obtain ⟨u,e,k⟩:=h;exact ⟨u,e,k.var hv hw⟩
theorem RetV.on {o:Option Va} {x:Value} (h:RetV w o x) (hb:Below w.heap.size w w'):RetV w' o x:=by
 cases o with
 | none=>exact h
 | some v=>obtain ⟨u,e,k⟩:=h;exact ⟨u,e,k.on hb⟩
theorem ScAt.var {p:Value} {ms:List Nat} {env:Env} {t n:Int} (h:ScAt n0 w p ms env) (hv:VSt g t n (.slice A m cp) w w') {m0 cp0:Nat} (hw:w.heap[g]? =some (.cells #[.int .i64 t0,.int .i64 n1,.slice A0 m0 cp0] 41 (0,0))):ScAt n0 w' p ms env:=by
 induction h with
 | nil=>exact .nil
 | cons hb hm h0 hne _ ih=>
  refine .cons ?_ ?_ h0 hne ih
  ·rw [hv.far _ (jV hb hw (by decide))];exact hb
  ·obtain ⟨es,h1,h2⟩:=hm
   obtain ⟨arr,c,ho⟩:=h1.obj;refine ⟨es,h1.of (hv.far _ fun e=>?_),h2.off (n0:=0) (hv.off (Nat.zero_le _) xF hw xF)⟩;rw [e,hw] at ho;cases ho
theorem qY {X:Cx10} {σ:Stt} {g b:Nat} {ms:List Nat} {o:Option Va} {env:Env} {t n:Int} {m0 cp0:Nat} {r:Ou (Option Va×Env)} {x:Value} (hr:r =.ok (o,env) σ) (hs:RunS X c σ w1) (hm:Mv X.n0 (·∈ms) w w1) (hq:RetV w1 o x) (hsc:ScAt X.n0 w1 (.pointer (some ⟨b,0,none⟩)) ms env) (hg:w.heap.size<=g) (hw:w1.heap[g]? =some (.cells #[.int .i64 t0,.int .i64 n1,.slice A0 m0 cp0] 41 (0,0))) (hV:VSt g t n (.slice A m cp) w1 w2) (hn:X.n0<=w.heap.size) :
  qR X c (·∈ms) (QB10 X b ms) w r (.returned x) w2:=
 wJ hr (hm.under (hV.below hg)) ⟨hq.var hV hw,hsc.var hV hw⟩ (hs.var hV (zzA2 hn hg) hw)
theorem XssC.getV {l:List Xs} {V:Value} (h:XssC w D l V) {s:Xs} (he:l[i]? =some s):∃ (kb ko c:Nat) (A1 A2 A3:Option Addr) (c1 c2 c3:Nat),V =.slice (some ⟨kb,ko,none⟩) l.length c/\l.length<=c/\c<=maxLen /\
  w.rangeAt kb (ko+i*6) [.int .i64 s.op,.string (strN s.text),.slice A1 s.exprs.length c1,.slice A2 s.body.length c2,.slice A3 s.els.length c3,.int .i64 s.place]/\XsV w D s (.agg #[.int .i64 s.op,.string (strN s.text),.slice A1 s.exprs.length c1,.slice A2 s.body.length c2,.slice A3 s.els.length c3,.int .i64 s.place]):=by
 obtain ⟨ks,hst⟩:=h.ks;have hi:=(List.getElem?_eq_some_iff.1 he).1;obtain ⟨k,hk'⟩:∃ k,ks[i]? =some k:=⟨ks[i]'(by rw [hst.len];exact hi),List.getElem?_eq_getElem _⟩;have hg:=fun j hj=>ky (f:=fun (s:Xs) (k:qM)=>xsC s k.e k.b k.f) (m:=6) (fun _ _=>rfl) l ks i j s k he hk' hj;have x1:=hst.e i s k he hk';have x2:=hst.b i s k he hk';have x3:=hst.f i s k he hk';have x4:=hst.txt s (List.mem_of_getElem? he);obtain ⟨A1,c1,e1⟩:=zz x1;obtain ⟨A2,c2,e2⟩:=zt x2;obtain ⟨A3,c3,e3⟩:=zt x3
 obtain ⟨b,o,c,rfl,a1,a2,a3,a4⟩:=hst.row.plain5 (by
  intro e0;have:=hg 0 (by omega);unfold xssC at e0;rw [e0] at this
  simp [xsC] at this)
 refine ⟨b,o,c,A1,A2,A3,c1,c2,c3,rfl,a1,a2,fun j v hv=>?_,⟨k,?_,x4,x1,x2,x3⟩⟩
 ·have hj:j < 6:=by
   have:=(List.getElem?_eq_some_iff.1 hv).1;simpa using this
  rw [Nat.add_assoc];refine a4 _ v ((hg j hj).trans ?_);show (xsC s k.e k.b k.f)[j]? =_;rw [e1,e2,e3];exact hv
 ·rw [e1,e2,e3];rfl
theorem zli:∀ {l:List Xs} {i:Nat} {e:Xs},shB l =true->l[i]? =some e->shS e =true
 | x::l,0,e,h,he=>by
  unfold shB at h;simp at h he;rw [<- he];exact h.1
 | x::l,i+1,e,h,he=>by
  unfold shB at h;simp at h;exact zli h.2 (by simpa using he)
 | [],i,e,h,he=>by simp at he
theorem zhe:(Tryz.prog.info? 145).map (·.size) =some 6:=by kernel_rfl
def BlS (X:Cx10) (c n:Nat) (l:List Xs) (r:Ou (Option Va×Env)) (w:World) (b:Nat) (ms:List Nat) (k:Nat) (i:Value) (wr:World):Prop:=
 ∃ (env:Env) (σ':Stt) (j m:Nat),i =.int .i64 j/\k+j =l.length/\m<=n/\RunS X c σ' wr/\ScAt X.n0 wr (.pointer (some ⟨b,0,none⟩)) ms env/\Mv X.n0 (·∈ms) w wr/\wr.heap[w.heap.size]? =some (.cells #[.int .i64 0,.int .i64 0,.slice none 0 0] 41 (0,0))/\qS X.lim X.F m c env (l.drop j) σ' =some r
theorem zrk (X:Cx10) (n:Nat) (hS:∀ m,m < n->SOk X m):BOk X n:=by
 intro c env l σ r w b ms V hc hr hs hgm hl hsh hm;obtain ⟨A,lc,rfl⟩:=zt hl;have hn0:=hr.hn;have HN:=zz9 hn0;obtain ⟨w0,hw0⟩:∃ w0,w.alloc zO =w0:=⟨_,rfl⟩;have B0:Below w.heap.size w w0:=by rw [<- hw0];exact za _ _
 have Z0:=zpz w;rw [hw0] at Z0;have HW0:=zz9 hw0;have HST:Hid (BlS X c n l r w b ms l.length (.int .i64 0) w0):=⟨env,σ,0,n,rfl,rfl,zzA0 _,hr.on B0,hs.on B0,.of B0,Z0,hm⟩;have HL:=zz9 hl;have HSS:=zz9 hS;have HSH:=zz9 hsh;have HGM:=zz9 hgm;have hln:l.length<=9223372036854775807:=by
  obtain ⟨_,h1⟩:=hl.ks;exact h1.row.len5
 clear hr hs hl hS hm hsh hgm hw0 B0 Z0;go_enter Tryz.func85,Tryz.ntmps85
 go_upto_region 1 with fail
 rw [HW0.out]
 go_wp2_with fail
 go_loopg [14] l.length (fun k i wr=>BlS X c n l r w b ms k i wr)
 case atStart=>exact HST.out
 case round=>
  obtain ⟨env',σ',j,m,rfl,hk,hmn,hR,hSc,hM,hz,hmr⟩:=hrel;by_cases hlt:j < l.length
  ·obtain ⟨s,he⟩:∃ s,l[j]? =some s:=⟨l[j],List.getElem?_eq_getElem hlt⟩
   have hlt':(j:Int) < (l.length:Int):=by omega
   rw [xw he] at hmr;obtain ⟨m',rfl⟩:∃ m',m =m'+1:=by
    cases m with
    | zero=>unfold qS at hmr;cases hmr
    | succ m=>exact ⟨m,rfl⟩
   have hL:=HL.out.same (xk hM hn0);obtain ⟨kb,ko,kc,A1,A2,A3,c1,c2,c3,hsl,q1,q2,hrg,hxs⟩:=hL.getV he;injection hsl with hA _ hcc
   subst hA hcc;have HRG:=zz9 hrg;obtain ⟨z0,z1,z2,z3,z4,z5⟩:=qA wr s.op s.text (.slice A1 s.exprs.length c1) (.slice A2 s.body.length c2) (.slice A3 s.els.length c3) s.place;have HB:=zz9 (za wr (xsO s.op s.text (.slice A1 s.exprs.length c1) (.slice A2 s.body.length c2) (.slice A3 s.els.length c3) s.place));have hse:shS s =true:=zli HSH.out he;unfold qS at hmr;have hwr:X.n0<=wr.heap.size:=hR.hn;have hK:=fun ro h=>HSS.out m' (by omega) c env' s σ' ro _ b ms _ hc (hR.on HB.out) (hSc.on HB.out) HGM.out (hxs.same (xj HB.out hwr)) hse h;have HF:=zz9 (And.intro hk (And.intro hmn (And.intro hM hz)));clear hk hmn hR hSc hM hz hxs hrg hL he hse;rcases qF hmr with ⟨t,τ,h1,h2⟩|⟨p,τ,h1,h2⟩
   ·have K:=zz9 (hK _ h1)
    have H2:=zz9 h2;clear hK hmr h1 h2
    go_wp2_with (first|(refine wpList_load_mid rfl 145 (.tmp 16) rfl kb (ko+j*6) rfl [.int .i64 s.op,.string (strN s.text),.slice A1 s.exprs.length c1,.slice A2 s.body.length c2,.slice A3 s.els.length c3,.int .i64 s.place] _ HRG.out Tryz.underlying145 rfl zhe ?_;refine Hid.out ?_)|fail)
    refine zz9 ?_
    go_wp2_with fail
    (with_reducible refine K.out.mono ?_)
    rintro e w2 ⟨hM2,rfl,c',hs⟩;exact ⟨rfl,zy H2.out (HF.out.2.2.1.trans ((Mv.of HB.out).trans hM2)) hs⟩
   ·have K:=zz9 (hK _ h1)
    have H2:=zz9 h2;clear hK hmr h1 h2
    go_wp2_with (first|(refine wpList_load_mid rfl 145 (.tmp 16) rfl kb (ko+j*6) rfl [.int .i64 s.op,.string (strN s.text),.slice A1 s.exprs.length c1,.slice A2 s.body.length c2,.slice A3 s.els.length c3,.int .i64 s.place] _ HRG.out Tryz.underlying145 rfl zhe ?_;refine Hid.out ?_)|fail)
    refine zz9 ?_
    go_wp2_with fail
    (with_reducible refine K.out.mono ?_)
    rintro e w2 ⟨hM2,x,rfl,⟨hq,hsc⟩,hs⟩;obtain ⟨o,env2⟩:=p;dsimp only at hq hsc;have HM2:=zz9 (HF.out.2.2.1.trans ((Mv.of HB.out).trans hM2));have HZ2:=zz9 (hM2.kept (zg HB.out HF.out.2.2.2 (zz7.1 HF.out.2.2.2).1) (by decide));clear hM2 K z0 z1 z2 z3 z4 z5;cases o with
    | none=>
     have hx:x =.tuple #[VV 0 0 kB,.bool false]:=hq;subst hx;have B3:=za w2 (.cells #[.int .i64 0,.int .i64 0,.slice none 0 0] 41);have HM3:=zz9 (HM2.out.then B3);have HZ3:=zz9 (zg B3 HZ2.out (zz7.1 HZ2.out).1);have HS3:=zz9 (And.intro (hs.on B3) (hsc.on B3));clear hs hsc B3 hq;dsimp only
     go_wp2_with fail
     go_roundg (l.length-(j+1))
     case measure=>have:=HF.out.1;omega
     case rel=>exact ⟨env2,τ,j+1,m',by simp,by have:=HF.out.1;omega,by have:=HF.out.2.1;omega,HS3.out.1,HS3.out.2,HM3.out,HZ3.out,H2.out⟩
    | some v=>
     have HQ:=zz9 hq;have H3:Hid (r =.ok (some v,env2) τ):=by
      show _ =_;have:=H2.out;injection this with h
      exact h.symm
     obtain ⟨u,rfl,hv⟩:=hq;obtain ⟨A4,c4,rfl,_,_⟩:=xM hv;have B3:=za w2 (.cells #[.int .i64 v.t,.int .i64 v.n,.slice A4 v.s.length c4] 41);obtain ⟨y0,y1,y2⟩:=qr (heap_alloc_new w2 (.cells #[.int .i64 v.t,.int .i64 v.n,.slice A4 v.s.length c4] 41));have HM3:=zz9 (HM2.out.then B3);have HZ3:=zz9 (zg B3 HZ2.out (zz7.1 HZ2.out).1);have HS3:=zz9 (And.intro (hs.on B3) (And.intro (hsc.on B3) (HQ.out.on B3)));clear hs hsc B3 HQ hv;dsimp only
     go_wp2_with (refine zm rfl (.tmp 6) (.tmp 26) rfl rfl w.heap.size rfl v.t v.n A4 v.s.length c4 rfl HZ3.out ?_;intro w6 g1)
     refine bodyPost_ret (qW Tryz.results85 _ _ w.heap.size rfl g1.here) rfl ?_;exact qY (o:=some v) (env:=env2) H3.out HS3.out.1 HM3.out HS3.out.2.2 HS3.out.2.1 (zzA0 _) HZ3.out g1 HN.out
  ·have hj:j =l.length:=by omega
   have hnlt:¬ (j:Int) < (l.length:Int):=by omega
   have HR2:Hid (r =.ok (none,env') σ'):=by
    show _ =_;rw [hj,List.drop_length] at hmr;cases m with
    | zero=>unfold qS at hmr;cases hmr
    | succ m=>
     unfold qS at hmr;have h:some (Ou.ok (none,env') σ') =some r:=hmr;injection h with h
     exact h.symm
   have HF:=zz9 (And.intro hR (And.intro hSc (And.intro hM hz)));clear hk hmn hR hSc hM hz hmr hj hlt
   go_wp2_with (refine zm rfl (.tmp 6) (.tmp 28) rfl rfl w.heap.size rfl 0 0 none 0 0 rfl HF.out.2.2.2 ?_;intro w6 g1)
   refine bodyPost_ret (qW Tryz.results85 _ _ w.heap.size rfl g1.here) rfl ?_;exact qY (o:=none) (env:=env') HR2.out HF.out.1 HF.out.2.2.1 rfl HF.out.2.1 (zzA0 _) HF.out.2.2.2 g1 HN.out
end
section
open Go.RowKit Go.MapKept
variable [Prt]
theorem yx (X:Cx10) (n c:Nat) (env:Env) (l:List Xs) (σ:Stt) (r:Ou (Option Va×Env)) (w w1:World) (b:Nat) (ms:List Nat) (q:Value) (bms:List Nat) (V:Value) (hB:∀ m,m < n->BOk X m) (hc:c<=16) (hr:RunS X c σ w) (hs:ScAt X.n0 w (.pointer (some ⟨b,0,none⟩)) ms env) (hg:X.g ∉ ms) (hb:zc0 w (some ⟨b,0,none⟩) ms env q bms) (hl:XssC w (Lo X.n0) l V) (hsh:shB l =true) (hm:xe X.lim X.F n c env l σ =some r)
  (b1:Below w.heap.size w w1) (h1:w1.heap[w.heap.size+1]? =some (.cells #[.map (some w.heap.size),q] 206 (0,0))) (h2:qs w1 w.heap.size []) :
  Calls Tryz.prog 85 #[.pointer (some ⟨X.R,0,none⟩),V,.pointer (some ⟨w.heap.size+1,0,none⟩)] w1 (fun e w2=>qR X c (·∈ms) (QB10 X b ms) w r e w2/\Mv X.n0 (·∈w.heap.size::bms) w1 w2):=by
 cases n with
 | zero=>unfold xe at hm;cases hm
 | succ n=>
  unfold xe at hm;have hq:=zk0 hs hb;obtain ⟨a,rfl⟩:=hq.ptr;have hbeg:=ScAt.begin hq b1 h1 h2 hr.hn;have hgn:X.g ∉ w.heap.size::bms:=by
   intro h;rcases List.mem_cons.1 h with h|h
   ·have:=hr.tab.lt;omega
   ·exact hg (yR hb _ h)
  obtain ⟨ro,g1,HRO⟩:=xh hm;refine (hB n (by omega) c _ l σ ro w1 (w.heap.size+1) _ V hc (hr.on b1) hbeg hgn (hl.same (xj b1 hr.hn)) hsh g1).mono ?_;rintro e w2 ⟨hM,hG⟩;have hMw:Mv X.n0 (·∈ms) w w2:=((Mv.of b1).trans hM).less fun k hk h=>by
   rcases List.mem_cons.1 h with h|h
   ·omega
   ·exact yR hb _ h
  refine ⟨⟨hMw,?_⟩,hM⟩;rcases ro with ⟨p,τ⟩|⟨t,τ⟩
  ·obtain ⟨x,rfl,⟨hq2,hsc⟩,hrun⟩:=hG
   have h3:=HRO.out.2 _ _ rfl;have h4:r =.ok (p.1,jj env p.2.tail) τ:=by injection h3 with h;exact h.symm
   subst h4;refine ⟨x,rfl,⟨hq2,?_⟩,hrun⟩;have hk:=hM.kept h1 (by decide);generalize hp2:p.2 =pe at hsc;cases hsc with
   | cons hb2 hm2 h02 hne2 hr2=>
    rw [hk] at hb2;injection hb2 with hb2
    injection hb2 with hb2 _ _
    simp at hb2;obtain ⟨_,rfl⟩:=hb2;refine zd9 (M:=(·∈w.heap.size::bms)) hs hb ((Mv.of b1).trans hM) (fun m hm h=>?_) hr2;rcases List.mem_cons.1 h with h|h
    ·have:=(hs.ms m hm).2.1;omega
    ·exact h
  ·obtain ⟨rfl,c',hrun⟩:=hG
   have h3:=HRO.out.1 _ _ rfl;subst h3;exact ⟨rfl,c',hrun⟩
theorem wQ (X:Cx10) (n c:Nat) (env:Env) (l:List Xs) (σ:Stt) (r:Ou (Option Va×Env)) (w w1:World) (b:Nat) (ms:List Nat) (q:Value) (bms:List Nat) (V:Value) (hB:∀ m,m < n->BOk X m) (hc:c<=16) (hr:RunS X c σ w) (hs:ScAt X.n0 w (.pointer (some ⟨b,0,none⟩)) ms env) (hg:X.g ∉ ms) (hb:zc0 w (some ⟨b,0,none⟩) ms env q bms) (hl:XssC w (Lo X.n0) l V) (hsh:shB l =true) (hm:xe X.lim X.F n c env l σ =some r)
  (b1:Below w.heap.size w w1) (h1:w1.heap[w.heap.size+1]? =some (.cells #[.map (some w.heap.size),q] 206 (0,0))) (h2:qs w1 w.heap.size []) :
  Calls Tryz.prog 85 #[.pointer (some ⟨X.R,0,none⟩),V,.pointer (some ⟨w.heap.size+1,0,none⟩)] w1 (qR X c (·∈ms) (QB10 X b ms) w r):=
 (yx X n c env l σ r w w1 b ms q bms V hB hc hr hs hg hb hl hsh hm b1 h1 h2).mono fun _ _ h=>h.1
structure Ks (X:Cx10) (c:Nat) (τ:Stt) (w:World) (eo:Array Value) (b:Nat) (ms:List Nat) (env:Env) (w1:World):Prop where
 run:RunS X c τ w1
 mv:Mv X.n0 (·∈ms) w w1
 e:w1.heap[w.heap.size]? =some (.cells eo 145 (0,0))
 z:w1.heap[w.heap.size+1]? =some (.cells #[.int .i64 0,.int .i64 0,.slice none 0 0] 41 (0,0))
 sc:ScAt X.n0 w1 (.pointer (some ⟨b,0,none⟩)) ms env
theorem Ks.on {X:Cx10} {τ:Stt} {b:Nat} {ms:List Nat} {env:Env} (h:Ks X c τ w eo b ms env w1) (hb:Below w1.heap.size w1 w2):Ks X c τ w eo b ms env w2:=
 ⟨h.run.on hb,h.mv.then hb,zg hb h.e (zz7.1 h.e).1,zg hb h.z (zz7.1 h.z).1,h.sc.on hb⟩
theorem Ks.go {X:Cx10} {τ τ':Stt} {b:Nat} {ms:List Nat} {env:Env} (h:Ks X c τ w eo b ms env w1) (hm:Mv X.n0 NoM w1 w2) (hr:RunS X c τ' w2):Ks X c τ' w eo b ms env w2:=
 ⟨hr,h.mv.trans (NoM.mono hm),hm.kept h.e (by decide),hm.kept h.z (by decide),h.sc.mv hm (fun _ _ h=>h)⟩
theorem Ks.block {X:Cx10} {τ τ':Stt} {b:Nat} {ms:List Nat} {env env':Env} (h:Ks X c τ w eo b ms env w1) (hm:Mv X.n0 (·∈ms) w1 w2) (hr:RunS X c τ' w2) (hs:ScAt X.n0 w2 (.pointer (some ⟨b,0,none⟩)) ms env'):Ks X c τ' w eo b ms env' w2:=
 ⟨hr,h.mv.trans hm,hm.kept h.e (by decide),hm.kept h.z (by decide),hs⟩
theorem yH {b:Nat} {op:Int} {s:ByteArray} {place:Int} (h:w.heap[b]? =some (.cells #[.int .i64 op,.string s,K1,K2,K3,.int .i64 place] 145 (0,0))) :
  w.cell? ⟨b,0,none⟩ =some (.int .i64 op)/\w.cell? ⟨b,1,none⟩ =some (.string s)/\w.cell? ⟨b,2,none⟩ =some K1/\w.cell? ⟨b,3,none⟩ =some K2/\w.cell? ⟨b,4,none⟩ =some K3/\w.cell? ⟨b,5,none⟩ =some (.int .i64 place):=by
 refine ⟨?_,?_,?_,?_,?_,?_⟩ <;> simp [World.cell?,h]
theorem Ks.s3 {X:Cx10} {τ:Stt} {op place:Int} {s:ByteArray} {b:Nat} {ms:List Nat} {env:Env} (h:Ks X c τ w #[.int .i64 op,.string s,K1,K2,K3,.int .i64 place] b ms env w1):w1.cell? ⟨w.heap.size,3,none⟩ =some K2:=(yH h.e).2.2.2.1
theorem Ks.s4 {X:Cx10} {τ:Stt} {op place:Int} {s:ByteArray} {b:Nat} {ms:List Nat} {env:Env} (h:Ks X c τ w #[.int .i64 op,.string s,K1,K2,K3,.int .i64 place] b ms env w1):w1.cell? ⟨w.heap.size,4,none⟩ =some K3:=(yH h.e).2.2.2.2.1
theorem zgz {x y z u:Value} (h:w1.cell? ⟨w.heap.size,o,none⟩ =some u):(((w1.setCell ⟨w.heap.size+1,0,none⟩ x).setCell ⟨w.heap.size+1,1,none⟩ y).setCell ⟨w.heap.size+1,2,none⟩ z).cell? ⟨w.heap.size,o,none⟩ =some u:=qw h (by omega)
structure ztj (w:World) (eo:Obj) (w0:World):Prop where
 e:w0.heap[w.heap.size]? =some eo
 z:w0.heap[w.heap.size+1]? =some (.cells #[.int .i64 0,.int .i64 0,.slice none 0 0] 41 (0,0))
 b:Below w.heap.size w w0
theorem yq (w:World) (eo:Obj):ztj w eo ((w.alloc eo).alloc zO):=⟨(qO w eo).e,(qO w eo).z,(qO w eo).b⟩
theorem zn2 (X:Cx10) (n:Nat) (hE:EOk X n) (hB:∀ m,m < n->BOk X m) (c:Nat) (env:Env) (text:List Nat) (e:Xe) (body els:List Xs) (place:Int) (σ:Stt) (r:Ou (Option Va×Env)) (w:World) (b:Nat) (ms:List Nat) (A1 A2 A3:Option Addr) (c1 c2 c3:Nat)
  (hc:c<=16) (hr:RunS X c σ w) (hs:ScAt X.n0 w (.pointer (some ⟨b,0,none⟩)) ms env) (hgm:X.g ∉ ms) (hx:XesC w (Lo X.n0) [e] (.slice A1 1 c1)) (hy:XssC w (Lo X.n0) body (.slice A2 body.length c2)) (hf:XssC w (Lo X.n0) els (.slice A3 els.length c3)) (hse:shE e =true) (hsb:shB body =true) (hsf:shB els =true)
  (hm:(qD X.lim X.F n c env e σ).bind (fun v σ=>if v.n =1 then xe X.lim X.F n c env body σ else xe X.lim X.F n c env els σ) =some r) :
  Calls Tryz.prog 153 #[.pointer (some ⟨X.R,0,none⟩),.agg #[.int .i64 3,.string (strN text),.slice A1 1 c1,.slice A2 body.length c2,.slice A3 els.length c3,.int .i64 place],.pointer (some ⟨b,0,none⟩)] w (qR X c (·∈ms) (QB10 X b ms) w r):=by
 obtain ⟨kb,ko,kc,A0,c0,hsl,p1,p2,hrg,hxe⟩:=hx.get5 (i:=0) (e:=e) rfl;have hrg':w.rangeAt kb (ko+0) [.int .i64 e.op,.int .i64 e.num,.string (strN e.text),.slice A0 e.kids.length c0,.int .i64 e.place]:=by simpa [xeC] using hrg
 have hkd:=kid5 hrg';injection hsl with hA hlen hcc
 subst hA hcc;clear hlen;have hkb:Lo X.n0 kb:=zpd hx;have hn0:=hr.hn;have HN:=zz9 hn0;have H3:=yq w (xsO 3 text (.slice (some ⟨kb,ko,none⟩) 1 c1) (.slice A2 body.length c2) (.slice A3 els.length c3) place);obtain ⟨w0,hw0⟩:∃ w0,(w.alloc (xsO 3 text (.slice (some ⟨kb,ko,none⟩) 1 c1) (.slice A2 body.length c2) (.slice A3 els.length c3) place)).alloc zO =w0:=⟨_,rfl⟩;rw [hw0] at H3;have HW0:=zz9 hw0;have hK0:Ks X c σ w #[.int .i64 3,.string (strN text),.slice (some ⟨kb,ko,none⟩) 1 c1,.slice A2 body.length c2,.slice A3 els.length c3,.int .i64 place] b ms env w0:=⟨hr.on H3.b,.of H3.b,H3.e,H3.z,hs.on H3.b⟩;obtain ⟨e0,e1,e2,e3,e4,e5⟩:=yH hK0.e;obtain ⟨k0,k1,k2,k3,k4⟩:=zcn hkd (H3.b.mono hn0) hkb;obtain ⟨ro,g1,HRO⟩:=xh hm;have hxe0:=hxe.same (xj H3.b hn0);unfold xeC at hxe0;have K:=zz9 (hE c env e σ ro w0 _ ms _ hc hK0.run hK0.sc hxe0 hse g1);have HY:=zz9 (And.intro hy (And.intro hf (And.intro hsb (And.intro hsf hgm))));have HB:=zz9 hB;have KC:=zz9 hK0;clear hx hy hf hse hsb hsf hm hrg hrg' hkd hxe hxe0 hK0 H3 hw0 hr hs hE g1 hB hkb hgm;go_enter Tryz.func153,Tryz.ntmps153
 go_upto_region 1 with fail
 rw [HW0.out]
 go_wp2_with fail
 (with_reducible refine K.out.mono ?_)
 rintro e' w1 hG;rcases ro with ⟨v,τ⟩|⟨t,τ⟩
 rotate_left
 ·obtain ⟨hM,rfl,c',hs⟩:=hG
  exact ⟨rfl,zy (HRO.out.1 _ _ rfl) (KC.out.mv.trans (NoM.mono hM)) hs⟩
 obtain ⟨hM,u,rfl,hv,hs⟩:=hG;obtain ⟨A4,c4,rfl,_,_⟩:=xM hv;replace KC:=zz9 (KC.out.go hM hs);have h2:=HRO.out.2 _ _ rfl;clear K hM hv hs e0 e1 e2 e3 e4 e5 k0 k1 k2 k3 k4 HRO
 go_wp2_with fail
 refine (zch _ _ _ _).mono ?_;rintro e2 w2 ⟨rfl,b2⟩;replace KC:=zz9 (KC.out.on b2);clear b2;by_cases hv1:v.n =1
 ·rw [if_pos hv1] at h2
  have hb:(v.n == 1) =true:=by rw [hv1];rfl
  rw [hb];clear hb;have KI0:=KC.out.on (Below.refl w2.heap.size w2).drew;obtain ⟨q,bms,hbp,hin⟩:=zci X.n0 w2.drew _ ms env KI0.sc (by intro h;subst h;cases KI0.sc);have KI:=zz9 hin
  have KB:Hid (∀ w3,Below w2.drew.heap.size w2.drew w3->w3.heap[w2.drew.heap.size+1]? =some (.cells #[.map (some w2.drew.heap.size),q] 206 (0,0))->qs w3 w2.drew.heap.size []->Calls Tryz.prog 85 #[.pointer (some ⟨X.R,0,none⟩),.slice A2 body.length c2,.pointer (some ⟨w2.drew.heap.size+1,0,none⟩)] w3 (qR X c (·∈ms) (QB10 X b ms) w2.drew r)):=fun w3 b1 g1 g2=>
   wQ X n c env body τ r w2.drew w3 b ms q bms _ HB.out hc KI0.run KI0.sc HY.out.2.2.2.2 hbp (HY.out.1.same (xk KI0.mv HN.out)) HY.out.2.2.1 h2 b1 g1 g2
  have KD:=zz9 KI0;clear KI0 hin h2 hv1
  go_upto_region 2 with fail
  go_region_held2 (fun w'=>w'.cell? ⟨w.heap.size,3,none⟩ =some (.slice A2 body.length c2))
   (first|(with_reducible exact Ks.s3 KF.out)|(with_reducible exact zgz (Ks.s3 KF.out))|(with_reducible exact Ks.s3 KE.out)|(with_reducible exact Ks.s3 KD.out))
   (first
    | (go_at_call 190;refine KI.out.mono ?_;rintro e3 w3 ⟨rfl,g1,g2,g3⟩;have KE:=zz9 (KD.out.on g3);have KBB:=zz9 (KB.out w3 g3 g1 g2);clear g1 g2 g3)
    | (go_at_call 85;refine KBB.out.mono ?_;rintro e4 w4 hG;(rcases r with ⟨⟨o,env2⟩,τ2⟩|⟨t2,τ2⟩ <;> (try (obtain ⟨hM,he,c',hs⟩:=hG;subst he;exact ⟨rfl,zy rfl (KD.out.mv.trans hM) hs⟩)));obtain ⟨hM,x,rfl,⟨hq,hsc⟩,hs⟩:=hG;dsimp only at hq hsc;obtain ⟨A5,c5,bb,rfl,_,rfl⟩:=zb2 hq;have KF:=zz9 (KD.out.block hM hs hsc);have HQ5:=zz9 hq;obtain ⟨⟨u0,u1,u2⟩,v0,v1,v2⟩:=ka KF.out.z;clear hM hs hsc hq))
  all_goals
   have HS9:=zz9 (xa KF.out.z (o.getD qe).t (o.getD qe).n (.slice A5 (o.getD qe).s.length c5))
   go_wp2
   refine bodyPost_ret (qW Tryz.results153 _ _ (w.heap.size+1) rfl HS9.out.here) rfl ?_;exact qY (o:=o) (env:=env2) rfl KF.out.run KF.out.mv HQ5.out KF.out.sc (by omega) KF.out.z HS9.out HN.out
 ·rw [if_neg hv1] at h2
  have hb:(v.n == 1) =false:=by rw [beq_eq_false_iff_ne];exact hv1
  rw [hb];clear hb;have KI0:=KC.out.on (Below.refl w2.heap.size w2).drew;obtain ⟨q,bms,hbp,hin⟩:=zci X.n0 w2.drew _ ms env KI0.sc (by intro h;subst h;cases KI0.sc);have KI:=zz9 hin
  have KB:Hid (∀ w3,Below w2.drew.heap.size w2.drew w3->w3.heap[w2.drew.heap.size+1]? =some (.cells #[.map (some w2.drew.heap.size),q] 206 (0,0))->qs w3 w2.drew.heap.size []->Calls Tryz.prog 85 #[.pointer (some ⟨X.R,0,none⟩),.slice A3 els.length c3,.pointer (some ⟨w2.drew.heap.size+1,0,none⟩)] w3 (qR X c (·∈ms) (QB10 X b ms) w2.drew r)):=fun w3 b1 g1 g2=>
   wQ X n c env els τ r w2.drew w3 b ms q bms _ HB.out hc KI0.run KI0.sc HY.out.2.2.2.2 hbp (HY.out.2.1.same (xk KI0.mv HN.out)) HY.out.2.2.2.1 h2 b1 g1 g2
  have KD:=zz9 KI0;clear KI0 hin h2 hv1
  go_upto_region 3 with fail
  go_region_held2 (fun w'=>w'.cell? ⟨w.heap.size,4,none⟩ =some (.slice A3 els.length c3))
   (first|(with_reducible exact Ks.s4 KF.out)|(with_reducible exact zgz (Ks.s4 KF.out))|(with_reducible exact Ks.s4 KE.out)|(with_reducible exact Ks.s4 KD.out))
   (first
    | (go_at_call 190;refine KI.out.mono ?_;rintro e3 w3 ⟨rfl,g1,g2,g3⟩;have KE:=zz9 (KD.out.on g3);have KBB:=zz9 (KB.out w3 g3 g1 g2);clear g1 g2 g3)
    | (go_at_call 85;refine KBB.out.mono ?_;rintro e4 w4 hG;(rcases r with ⟨⟨o,env2⟩,τ2⟩|⟨t2,τ2⟩ <;> (try (obtain ⟨hM,he,c',hs⟩:=hG;subst he;exact ⟨rfl,zy rfl (KD.out.mv.trans hM) hs⟩)));obtain ⟨hM,x,rfl,⟨hq,hsc⟩,hs⟩:=hG;dsimp only at hq hsc;obtain ⟨A5,c5,bb,rfl,_,rfl⟩:=zb2 hq;have KF:=zz9 (KD.out.block hM hs hsc);have HQ5:=zz9 hq;obtain ⟨⟨u0,u1,u2⟩,v0,v1,v2⟩:=ka KF.out.z;clear hM hs hsc hq))
  all_goals
   have HS9:=zz9 (xa KF.out.z (o.getD qe).t (o.getD qe).n (.slice A5 (o.getD qe).s.length c5))
   go_wp2
   refine bodyPost_ret (qW Tryz.results153 _ _ (w.heap.size+1) rfl HS9.out.here) rfl ?_;exact qY (o:=o) (env:=env2) rfl KF.out.run KF.out.mv HQ5.out KF.out.sc (by omega) KF.out.z HS9.out HN.out
end
section
open Go.RowKit Go.MapKept
variable [Prt]
theorem zod {w0 w1 w2:World} {b:Nat} {ms:List Nat} {env pe:Env} {bms:List Nat} (hs:ScAt n0 w0 (.pointer (some ⟨b,0,none⟩)) ms env) (hb:zc0 w0 (some ⟨b,0,none⟩) ms env q bms) (b1:Below w0.heap.size w0 w1) (h1:w1.heap[w0.heap.size+1]? =some (.cells #[.map (some w0.heap.size),q] 206 (0,0))) (hM:Mv n0 (·∈w0.heap.size::bms) w1 w2)
  (hsc:ScAt n0 w2 (.pointer (some ⟨w0.heap.size+1,0,none⟩)) (w0.heap.size::bms) pe):ScAt n0 w2 (.pointer (some ⟨b,0,none⟩)) ms (jj env pe.tail):=by
 have hk:=hM.kept h1 (by decide);cases hsc with
 | cons hb2 hm2 h02 hne2 hr2=>
  rw [hk] at hb2;injection hb2 with hb2
  injection hb2 with hb2 _ _
  simp at hb2;obtain ⟨_,rfl⟩:=hb2;refine zd9 (M:=(·∈w0.heap.size::bms)) hs hb ((Mv.of b1).trans hM) (fun m hm h=>?_) hr2;rcases List.mem_cons.1 h with h|h
  ·have:=(hs.ms m hm).2.1;omega
  ·exact h
theorem zq3 {w0 w1 w2:World} {a:Option Addr} {ms:List Nat} {env:Env} {bms:List Nat} (hb:zc0 w0 a ms env q bms) (b1:Below w0.heap.size w0 w1) (hM:Mv n0 (·∈w0.heap.size::bms) w1 w2):Mv n0 (·∈ms) w0 w2:=
 ((Mv.of b1).trans hM).less fun k hk h=>by
  rcases List.mem_cons.1 h with h|h
  ·omega
  ·exact yR hb _ h
theorem ArgX.two {V:Value} {x y:Va} (h:ArgX n0 w V [x,y]):∃ (kb ko c:Nat),V =.slice (some ⟨kb,ko,none⟩) 2 c/\2<=c/\c<=maxLen/\fits x.n/\fits y.n /\
  ∀ (w':World),Mv n0 (fun b=>n0<=b) w w'->w'.cell? ⟨kb,ko+1,none⟩ =some (.int .i64 x.n)/\w'.cell? ⟨kb,ko+3+1,none⟩ =some (.int .i64 y.n):=by
 obtain ⟨kb,ko,c,A0,c0,rfl,h1,h2,⟨_,a2,_⟩,⟨_,_,_,v1⟩,k1⟩:=h.getk (i:=0) (v:=x) rfl;obtain ⟨kb',ko',c',A0',c0',e,_,_,⟨_,b2,_⟩,⟨_,_,_,v2⟩,k2⟩:=h.getk (i:=1) (v:=y) rfl;injection e with e1 _ e3
 injection e1 with e1
 injection e1 with e1 e2 _
 subst e1 e2;refine ⟨kb,ko,c,rfl,h1,h2,v1.1,v2.1,fun w' hm=>?_⟩;have hk:=k1 _ w' hm (fun b h=>h);have hc:∀ o,w'.cell? ⟨kb,o,none⟩ =w.cell? ⟨kb,o,none⟩:=fun o=>by simp only [World.cell?,hk]
 exact ⟨by rw [hc];simpa using a2,by rw [hc];simpa using b2⟩
structure Lk (X:Cx10) (c:Nat) (τ:Stt) (w wb:World) (eo:Array Value) (cb:Nat) (ms:List Nat) (env:Env) (kb ko:Nat) (x y:Va) (w1:World):Prop where
 run:RunS X c τ w1
 mv:Mv X.n0 (·∈ms) wb w1
 e:w1.heap[w.heap.size]? =some (.cells eo 145 (0,0))
 z:w1.heap[w.heap.size+1]? =some (.cells #[.int .i64 0,.int .i64 0,.slice none 0 0] 41 (0,0))
 sc:ScAt X.n0 w1 (.pointer (some ⟨cb,0,none⟩)) ms env
theorem Lk.on {X:Cx10} {τ:Stt} {b:Nat} {ms:List Nat} {env:Env} {x y:Va} (h:Lk X c τ w wb eo b ms env kb ko x y w1) (hb:Below w1.heap.size w1 w2):Lk X c τ w wb eo b ms env kb ko x y w2:=
 ⟨h.run.on hb,h.mv.then hb,zg hb h.e (zz7.1 h.e).1,zg hb h.z (zz7.1 h.z).1,h.sc.on hb⟩
theorem Lk.go {X:Cx10} {τ τ':Stt} {b:Nat} {ms:List Nat} {env:Env} {x y:Va} (h:Lk X c τ w wb eo b ms env kb ko x y w1) (hm:Mv X.n0 NoM w1 w2) (hr:RunS X c τ' w2):Lk X c τ' w wb eo b ms env kb ko x y w2:=
 ⟨hr,h.mv.trans (NoM.mono hm),hm.kept h.e (by decide),hm.kept h.z (by decide),h.sc.mv hm (fun _ _ h=>h)⟩
theorem Lk.block {X:Cx10} {τ τ':Stt} {b:Nat} {ms:List Nat} {env env':Env} {x y:Va} (h:Lk X c τ w wb eo b ms env kb ko x y w1) (hm:Mv X.n0 (·∈ms) w1 w2) (hr:RunS X c τ' w2) (hs:ScAt X.n0 w2 (.pointer (some ⟨b,0,none⟩)) ms env'):Lk X c τ' w wb eo b ms env' kb ko x y w2:=
 ⟨hr,h.mv.trans hm,hm.kept h.e (by decide),hm.kept h.z (by decide),hs⟩
theorem Lk.s1 {X:Cx10} {τ:Stt} {op place:Int} {s:ByteArray} {b:Nat} {ms:List Nat} {env:Env} {x y:Va} (h:Lk X c τ w wb #[.int .i64 op,.string s,K1,K2,K3,.int .i64 place] b ms env kb ko x y w1):w1.cell? ⟨w.heap.size,1,none⟩ =some (.string s):=(yH h.e).2.1
theorem Lk.s3 {X:Cx10} {τ:Stt} {op place:Int} {s:ByteArray} {b:Nat} {ms:List Nat} {env:Env} {x y:Va} (h:Lk X c τ w wb #[.int .i64 op,.string s,K1,K2,K3,.int .i64 place] b ms env kb ko x y w1):w1.cell? ⟨w.heap.size,3,none⟩ =some K2:=(yH h.e).2.2.2.1
theorem Lk.var {X:Cx10} {τ:Stt} {b:Nat} {ms:List Nat} {env:Env} {x y:Va} {t n:Int} (h:Lk X c τ w wb eo b ms env kb ko x y w1) (hv:VSt g t n (.slice A m cp) w1 w2) {m0 cp0:Nat} (hw:w1.heap[g]? =some (.cells #[.int .i64 t0,.int .i64 n1,.slice A0 m0 cp0] 41 (0,0))) (hg:wb.heap.size<=g) (hs:w.heap.size+1 < wb.heap.size) (hn:X.n0<=w.heap.size):Lk X c τ w wb eo b ms env kb ko x y w2:=
 ⟨h.run.var hv (by omega) hw,h.mv.under (hv.below hg),by rw [hv.far _ (by omega)];exact h.e,by rw [hv.far _ (by omega)];exact h.z,h.sc.var hv hw⟩
structure Inn (w0:World) (q:Value) (w1:World):Prop where
 b:Below w0.heap.size w0 w1
 s:w1.heap[w0.heap.size+1]? =some (.cells #[.map (some w0.heap.size),q] 206 (0,0))
 m:qs w1 w0.heap.size []
theorem Inn.on (h:Inn w0 q w1) (hb:Below w1.heap.size w1 w2):Inn w0 q w2:=
 ⟨h.b.trans (hb.mono h.b.size),zg hb h.s (zz7.1 h.s).1,h.m.of (hb.block _ h.m.lt)⟩
theorem zle (n0:Nat) (w:World) (cb:Nat) (ms:List Nat) (f:List (List Nat×Va)) (env:Env) (hs:ScAt n0 w (.pointer (some ⟨cb,0,none⟩)) ms (f::env)) (hf:f≠[]) :
  Calls Tryz.prog 190 #[.pointer (some ⟨cb,0,none⟩)] w fun e w'=>e =.returned (.pointer (some ⟨w.heap.size+1,0,none⟩))/\Inn w (.pointer (some ⟨cb,0,none⟩)) w':=by
 obtain ⟨q,bms,hb,hc⟩:=zci n0 w _ ms _ hs (by simp);rcases hb with ⟨r,b,m,e,_⟩|⟨_,rfl,rfl⟩
 ·injection e with e _
  exact absurd e hf
 ·exact hc.mono fun e w' ⟨h1,h2,h3,h4⟩=>⟨h1,h4,h2,h3⟩
theorem zpw (f:List (List Nat×Va)) (s:List Nat) (v:Va):updF f s v≠[]:=by
 cases f with
 | nil=>simp [updF]
 | cons p f=>obtain ⟨k,u⟩:=p;unfold updF;split <;> simp
theorem zkr {cb:Nat} {ms:List Nat} {f:List (List Nat×Va)} {env:Env} (hf:f≠[]):zc0 w (some ⟨cb,0,none⟩) ms (f::env) (.pointer (some ⟨cb,0,none⟩)) ms:=.inr ⟨fun r h=>by injection h with h _;exact hf h,rfl,rfl⟩
theorem zk1 (w:World):(w.alloc (.cells #[.int .i64 0,.int .i64 0,.slice none 0 0] 41)).heap[w.heap.size]? =some (.cells #[.int .i64 0,.int .i64 0,.slice none 0 0] 41 (0,0)):=heap_alloc_new w _
def LpS (X:Cx10) (c:Nat) (N:Nat) (w wb:World) (eo:Array Value) (cb:Nat) (ms:List Nat) (kb ko:Nat) (x y:Va) (text:List Nat) (body:List Xs) (ro:Ou (Option Va×Env)) (k:Nat) (iv:Value) (wr:World):Prop:=
 ∃ (env:Env) (σ:Stt) (i:Int),iv =.int .i64 i/\k<=N/\fits i/\Lk X c σ w wb eo cb ms env kb ko x y wr/\k7 X.lim X.F k c i y.n text body env σ =some ro
theorem zsv (X:Cx10) (n:Nat) (hEs:EsOk X n) (hB:∀ m,m < n->BOk X m) (c:Nat) (env:Env) (text:List Nat) (exprs:List Xe) (body els:List Xs) (place:Int) (σ:Stt) (r:Ou (Option Va×Env)) (w:World) (b:Nat) (ms:List Nat) (A1 A2 A3:Option Addr) (c1 c2 c3:Nat)
  (hc:c<=16) (hr:RunS X c σ w) (hs:ScAt X.n0 w (.pointer (some ⟨b,0,none⟩)) ms env) (hgm:X.g ∉ ms) (ht:Byn text) (hx:XesC w (Lo X.n0) exprs (.slice A1 exprs.length c1)) (hy:XssC w (Lo X.n0) body (.slice A2 body.length c2)) (hse:shL exprs =true) (hsb:shB body =true)
  (hm:(qK X.lim X.F n c env exprs σ).bind (fun vs σ=>match vs with
    | [a,b]=>(k7 X.lim X.F n c a.n b.n text body ([]::zap env) σ).bind fun r σ=>qv (r.1,jj env r.2.tail) σ
    | _=>none) =some r) :
  Calls Tryz.prog 154 #[.pointer (some ⟨X.R,0,none⟩),.agg #[.int .i64 4,.string (strN text),.slice A1 exprs.length c1,.slice A2 body.length c2,.slice A3 els.length c3,.int .i64 place],.pointer (some ⟨b,0,none⟩)] w (qR X c (·∈ms) (QB10 X b ms) w r):=by
 have hn0:=hr.hn;have HN:=zz9 hn0;have H3:=yq w (xsO 4 text (.slice A1 exprs.length c1) (.slice A2 body.length c2) (.slice A3 els.length c3) place);obtain ⟨w0,hw0⟩:∃ w0,(w.alloc (xsO 4 text (.slice A1 exprs.length c1) (.slice A2 body.length c2) (.slice A3 els.length c3) place)).alloc zO =w0:=⟨_,rfl⟩;rw [hw0] at H3;have HW0:=zz9 hw0;have hK0:Ks X c σ w #[.int .i64 4,.string (strN text),.slice A1 exprs.length c1,.slice A2 body.length c2,.slice A3 els.length c3,.int .i64 place] b ms env w0:=⟨hr.on H3.b,.of H3.b,H3.e,H3.z,hs.on H3.b⟩;obtain ⟨e0,e1,e2,e3,e4,e5⟩:=yH hK0.e;obtain ⟨ro,g1,HRO⟩:=xh hm;have K:=zz9 (hEs c env exprs σ ro w0 _ ms _ hc hK0.run hK0.sc (hx.same (xj H3.b hn0)) hse g1);have HY:=zz9 (And.intro hy (And.intro ht (And.intro hsb hgm)));have HB:=zz9 hB;have KC:=zz9 hK0;clear hx hy hse hsb hm hK0 H3 hw0 hr hs hEs g1 hB hgm ht;go_enter Tryz.func154,Tryz.ntmps154
 go_upto_region 1 with fail
 rw [HW0.out]
 go_wp2_with fail
 (with_reducible refine K.out.mono ?_)
 rintro e' w1 hG;rcases ro with ⟨vs,τ⟩|⟨t,τ⟩
 rotate_left
 ·obtain ⟨hM,rfl,c',hs⟩:=hG
  exact ⟨rfl,zy (HRO.out.1 _ _ rfl) (KC.out.mv.trans (NoM.mono hM)) hs⟩
 obtain ⟨hM,V,rfl,hO,hs⟩:=hG;have h2:=HRO.out.2 _ _ rfl;clear K HRO
 match vs,h2,hO with
 | [x,y],h2,hO=>
  dsimp only at h2;replace KC:=zz9 (KC.out.go hM hs);obtain ⟨kb,ko,vc,rfl,p1,p2,fx,fy,hcells⟩:=(OwnV.argX (n0:=X.n0) hO).two;obtain ⟨ro,g1,HRO⟩:=xh h2;obtain ⟨q,bms,hbp,hin⟩:=zci X.n0 w1 _ ms env KC.out.sc (by intro h;subst h;cases KC.out.sc);have KI:=zz9 hin;have HBP:=zz9 hbp;have HG1:=zz9 g1;have HCE:=zz9 hcells;have HFF:=zz9 (And.intro fx fy);clear hM hs hO h2 hbp hin g1 hcells e0 e1 e2 e3 e4 e5 fx fy
  go_wp2_with fail
  (with_reducible refine KI.out.mono ?_)
  rintro e3 wb ⟨rfl,i1,i2,i3⟩;obtain ⟨a0,a1⟩:=HCE.out wb (.of i3);have HM1:=zz9 KC.out.mv;have HBM:Hid (∀ w2,Mv X.n0 (·∈w1.heap.size::bms) wb w2->Mv X.n0 (·∈ms) w w2):=fun w2 h=>HM1.out.trans (zq3 HBP.out i3 h);have HBF:Hid (∀ w2 pe,Mv X.n0 (·∈w1.heap.size::bms) wb w2->ScAt X.n0 w2 (.pointer (some ⟨w1.heap.size+1,0,none⟩)) (w1.heap.size::bms) pe->ScAt X.n0 w2 (.pointer (some ⟨b,0,none⟩)) ms (jj env pe.tail)):=fun w2 pe h h'=>zod KC.out.sc HBP.out i3 i1 h h';have hq:=zk0 KC.out.sc HBP.out;obtain ⟨qa,rfl⟩:=hq.ptr
  have HST:Hid (LpS X c n w wb #[.int .i64 4,.string (strN text),.slice A1 exprs.length c1,.slice A2 body.length c2,.slice A3 els.length c3,.int .i64 place] (w1.heap.size+1) (w1.heap.size::bms) kb ko x y text body ro n (.int .i64 x.n) wb):=
   ⟨_,τ,x.n,rfl,zzA0 _,HFF.out.1,⟨KC.out.run.on i3,.refl _ _ _,zg i3 KC.out.e (zz7.1 KC.out.e).1,zg i3 KC.out.z (zz7.1 KC.out.z).1,ScAt.begin hq i3 i1 i2 KC.out.run.hn⟩,HG1.out⟩
  have HGN:Hid (X.g ∉ w1.heap.size::bms):=by
   show X.g ∉ _;intro h;rcases List.mem_cons.1 h with h|h
   ·have:=KC.out.run.tab.lt;omega
   ·exact HY.out.2.2.2 (yR HBP.out _ h)
  have HCB:Hid (∀ w2,Mv X.n0 (·∈w1.heap.size::bms) wb w2->w2.cell? ⟨kb,ko+1,none⟩ =some (.int .i64 x.n)/\w2.cell? ⟨kb,ko+3+1,none⟩ =some (.int .i64 y.n)):=fun w2 h=>
   HCE.out w2 ((Mv.of i3).trans (h.less fun k _ hk=>by
    rcases List.mem_cons.1 hk with e|e
    ·rw [e];exact KC.out.run.hn
    ·exact (hq.ms _ e).1))
  have HSZ:Hid (w.heap.size+1 < wb.heap.size):=(zz7.1 (zg i3 KC.out.z (zz7.1 KC.out.z).1)).1;clear hq i1 i2 i3 KI
  go_wp2_with fail
  go_loopg [10] n (fun k i wr=>LpS X c n w wb #[.int .i64 4,.string (strN text),.slice A1 exprs.length c1,.slice A2 body.length c2,.slice A3 els.length c3,.int .i64 place] (w1.heap.size+1) (w1.heap.size::bms) kb ko x y text body ro k i wr)
  case atStart=>exact HST.out
  case round=>
   obtain ⟨env',σ',i,rfl,hkn,hfi,hL,hl⟩:=hrel;obtain ⟨m',rfl⟩:∃ m',gk =m'+1:=by
    cases gk with
    | zero=>unfold k7 at hl;cases hl
    | succ m=>exact ⟨m,rfl⟩
   unfold k7 at hl;obtain ⟨d0,d1⟩:=HCB.out wr hL.mv;by_cases hlt:i < y.n
   ·rw [if_pos hlt] at hl
    obtain ⟨ru,g1,HRU⟩:=xh hl;have K1:=zz9 (xY X c σ' wr 1 (by decide) (by decide) _ hL.run g1);have KL:=zz9 hL;clear hl g1 hL
    go_wp2_with fail
    (with_reducible refine K1.out.mono ?_)
    rintro e4 w2 hG;rcases ru with ⟨_,τ2⟩|⟨t,τ2⟩
    rotate_left
    ·obtain ⟨hM,rfl,c',hs⟩:=hG
     exact ⟨rfl,zy (HRO.out.1 _ _ (HRU.out.1 _ _ rfl)) (HBM.out _ (KL.out.mv.trans (NoM.mono hM))) hs⟩
    obtain ⟨hM,u,rfl,hu,hs⟩:=hG;replace KL:=zz9 (KL.out.go hM hs);have h3:=HRU.out.2 _ _ rfl;clear K1 hM hs hu HRU d0 d1;obtain ⟨f,rest,rfl⟩:∃ f rest,env' =f::rest:=by
     cases env' with
     | nil=>exact absurd KL.out.sc (by intro h;cases h)
     | cons f rest=>exact ⟨f,rest,rfl⟩
    have KN:Hid (∀ w',Calls Tryz.prog 191 #[.int .i64 i] w' fun e w''=>e =.returned (VV 1 i kB)/\Below w'.heap.size w' w''):=fun w'=>numC i w';have KDc:Hid (∀ w',Lk X c τ2 w wb #[.int .i64 4,.string (strN text),.slice A1 exprs.length c1,.slice A2 body.length c2,.slice A3 els.length c3,.int .i64 place] (w1.heap.size+1) (w1.heap.size::bms) (f::rest) kb ko x y w'->Calls Tryz.prog 84 #[.pointer (some ⟨w1.heap.size+1,0,none⟩),.string (strN text),VV 1 i kB] w' fun e w''=>e =.returned (.tuple #[])/\Lk X c τ2 w wb #[.int .i64 4,.string (strN text),.slice A1 exprs.length c1,.slice A2 body.length c2,.slice A3 els.length c3,.int .i64 place] (w1.heap.size+1) (w1.heap.size::bms) (updF f text (intV i)::rest) kb ko x y w''):=fun w' h=>by
     refine (ww X c τ2 w' (w1.heap.size+1) w1.heap.size bms f rest text (intV i) _ h.run h.sc (by intro e;exact HGN.out (by simp [e])) HY.out.2.1 ⟨_,rfl,SB.nil _ _,hfi,by simp [intV]⟩).mono ?_;rintro e w'' ⟨rfl,g1,g2,g3⟩;exact ⟨rfl,h.block (g1.less fun b _ e=>by simp [e]) g3 g2⟩
    replace KL:=zz9 (KL.out.on (Below.refl w2.heap.size w2).drew);have H3:=zz9 h3;clear h3;dsimp only
    go_upto_region 7 with fail
    go_region_held2 (fun w'=>w'.cell? ⟨w.heap.size,1,none⟩ =some (.string (strN text)))
     (first|(with_reducible exact Lk.s1 KP.out)|(with_reducible exact Lk.s1 KM.out)|(with_reducible exact Lk.s1 KL.out))
     (first
      | (go_at_call 191;refine (KN.out _).mono ?_;rintro e5 w3 ⟨rfl,b5⟩;have KM:=zz9 (KL.out.on b5);clear b5)
      | (go_at_call 84;refine (KDc.out _ KM.out).mono ?_;rintro e6 w4 ⟨rfl,hk6⟩;have KP:=zz9 hk6;clear hk6))
    obtain ⟨r2,g2,HR2⟩:=xh H3.out;have hne:=zpw f text (intV i);have h4:xe X.lim X.F m' c (updF f text (intV i)::rest) body τ2 =some r2:=g2;replace KP:=zz9 (KP.out.on (Below.refl w4.heap.size w4).drew)
    generalize updF f text (intV i) =f2 at *
    have KI:Hid (∀ w',Lk X c τ2 w wb #[.int .i64 4,.string (strN text),.slice A1 exprs.length c1,.slice A2 body.length c2,.slice A3 els.length c3,.int .i64 place] (w1.heap.size+1) (w1.heap.size::bms) (f2::rest) kb ko x y w'->Calls Tryz.prog 190 #[.pointer (some ⟨w1.heap.size+1,0,none⟩)] w' fun e w''=>e =.returned (.pointer (some ⟨w'.heap.size+1,0,none⟩))/\Inn w' (.pointer (some ⟨w1.heap.size+1,0,none⟩)) w''):=fun w' h=>zle X.n0 w' _ _ f2 rest h.sc hne;have KB:Hid (∀ w' w'' (p:Nat),p =w'.heap.size+1->Lk X c τ2 w wb #[.int .i64 4,.string (strN text),.slice A1 exprs.length c1,.slice A2 body.length c2,.slice A3 els.length c3,.int .i64 place] (w1.heap.size+1) (w1.heap.size::bms) (f2::rest) kb ko x y w'->Inn w' (.pointer (some ⟨w1.heap.size+1,0,none⟩)) w''->Calls Tryz.prog 85 #[.pointer (some ⟨X.R,0,none⟩),.slice A2 body.length c2,.pointer (some ⟨p,0,none⟩)] w'' fun e w3=>qR X c (·∈w1.heap.size::bms) (QB10 X (w1.heap.size+1) (w1.heap.size::bms)) w' r2 e w3/\Mv X.n0 (·∈w'.heap.size::w1.heap.size::bms) w'' w3):=fun w' w'' p hp h hj=>by
     subst hp;exact yx X m' c (f2::rest) body τ2 r2 w' w'' (w1.heap.size+1) (w1.heap.size::bms) _ _ _ (fun m hm=>HB.out m (by omega)) hc h.run h.sc HGN.out (zkr hne) (HY.out.1.same (xk (HBM.out _ h.mv) HN.out)) HY.out.2.2.1 h4 hj.b hj.s hj.m
    have HL4:Hid (w.heap.size < w4.heap.size):=(zz7.1 KP.out.e).1;have HL5:Hid (wb.heap.size<=w4.heap.size):=KP.out.mv.size;have HL6:Hid (w.heap.size+1 < wb.heap.size):=HSZ.out;clear g2 h4 KM KL KN KDc H3 hne
    go_upto_region 8 with fail
    go_region_held2 (fun w'=>w'.cell? ⟨w.heap.size,3,none⟩ =some (.slice A2 body.length c2))
     (first|(with_reducible exact Lk.s3 KF.out)|(with_reducible exact Lk.s3 (KF.out.on (za _ _)))|(with_reducible exact qw (Lk.s3 KF.out) (Nat.ne_of_lt (zz7.1 KQ.out.e).1))|(with_reducible exact qw (Lk.s3 KF.out) (Nat.ne_of_lt HL4.out))|(with_reducible exact qw (Lk.s3 (KF.out.on (za _ _))) (Nat.ne_of_lt (zz7.1 KF.out.e).1))|(with_reducible exact Lk.s3 KQ.out)|(with_reducible exact Lk.s3 (KQ.out.on (za _ _)))|(with_reducible exact Lk.s3 KP.out)|(with_reducible exact Lk.s3 (KP.out.on (za _ _))))
     (first
      | (go_at_call 190;(first|(with_reducible refine (KI.out _ KP.out).mono ?_)|(have HZ:Hid ((w4.drew.alloc (.cells #[.int .i64 0,.int .i64 0,.slice none 0 0] 41)).heap[w4.heap.size]? =some (.cells #[.int .i64 0,.int .i64 0,.slice none 0 0] 41 (0,0))):=zk1 w4.drew;replace KP:=zz9 (KP.out.on (za _ (.cells #[.int .i64 0,.int .i64 0,.slice none 0 0] 41)));refine (KI.out _ KP.out).mono ?_));rintro e5 w5 ⟨rfl,g1⟩;have KJ:=zz9 g1;have KQ:=zz9 (KP.out.on g1.b);(try replace HZ:=zz9 (zg g1.b HZ.out (zz7.1 HZ.out).1));clear g1)
      | (go_at_call 85;(first|(with_reducible refine (KB.out _ _ _ ?_ KP.out KJ.out).mono ?_;focus (first|rfl|(simp;done)))|(have HZ:=zz9 (zk1 w5);replace KJ:=zz9 (KJ.out.on (za _ (.cells #[.int .i64 0,.int .i64 0,.slice none 0 0] 41)));with_reducible refine (KB.out _ _ _ ?_ KP.out KJ.out).mono ?_;focus (first|rfl|(simp;done))));rintro e6 w6 ⟨hG,hM6⟩;(rcases r2 with ⟨⟨o,env2⟩,τ3⟩|⟨t2,τ3⟩ <;> (try (obtain ⟨hM,he,c',hs⟩:=hG;subst he;exact ⟨rfl,zy (HRO.out.1 _ _ (HR2.out.1 _ _ rfl)) (HBM.out _ (KP.out.mv.trans hM)) hs⟩)));obtain ⟨hM,x5,rfl,⟨hq,hsc⟩,hs⟩:=hG;dsimp only at hq hsc;obtain ⟨A5,c5,bb,rfl,hv5,rfl⟩:=zb2 hq;have KF:=zz9 (KP.out.block hM hs hsc);have HQ5:=zz9 hq;(try (replace HZ:=zz9 (hM6.kept HZ.out (by decide));obtain ⟨⟨u0,u1,u2⟩,v0,v1,v2⟩:=ka HZ.out));clear hM hs hsc hq hv5 hM6))
    all_goals
     first
     | (have HV:VSt (w5.heap.size) (o.getD qe).t (o.getD qe).n (.slice A5 (o.getD qe).s.length c5) w6 (((w6.setCell ⟨w5.heap.size,0,none⟩ (.int .i64 (o.getD qe).t)).setCell ⟨w5.heap.size,1,none⟩ (.int .i64 (o.getD qe).n)).setCell ⟨w5.heap.size,2,none⟩ (.slice A5 (o.getD qe).s.length c5)):=xa HZ.out _ _ _
        have KW:=zz9 (KF.out.var HV HZ.out KQ.out.mv.size HL6.out HN.out);have HGW:=zz9 HV.here;have HQW:=zz9 (HQ5.out.var HV HZ.out);clear HV HZ v0 v1 v2 u0 u1 u2
        generalize (((w6.setCell ⟨w5.heap.size,0,none⟩ (.int .i64 (o.getD qe).t)).setCell ⟨w5.heap.size,1,none⟩ (.int .i64 (o.getD qe).n)).setCell ⟨w5.heap.size,2,none⟩ (.slice A5 (o.getD qe).s.length c5)) =W at *
        generalize w5.heap.size =gW at *)
     | (have HV:VSt (w4.heap.size) (o.getD qe).t (o.getD qe).n (.slice A5 (o.getD qe).s.length c5) w6 (((w6.setCell ⟨w4.heap.size,0,none⟩ (.int .i64 (o.getD qe).t)).setCell ⟨w4.heap.size,1,none⟩ (.int .i64 (o.getD qe).n)).setCell ⟨w4.heap.size,2,none⟩ (.slice A5 (o.getD qe).s.length c5)):=xa HZ.out _ _ _
        have KW:=zz9 (KF.out.var HV HZ.out HL5.out HL6.out HN.out);have HGW:=zz9 HV.here;have HQW:=zz9 (HQ5.out.var HV HZ.out);clear HV HZ v0 v1 v2 u0 u1 u2
        generalize (((w6.setCell ⟨w4.heap.size,0,none⟩ (.int .i64 (o.getD qe).t)).setCell ⟨w4.heap.size,1,none⟩ (.int .i64 (o.getD qe).n)).setCell ⟨w4.heap.size,2,none⟩ (.slice A5 (o.getD qe).s.length c5)) =W at *
        generalize w4.heap.size =gW at *)
     | (have KW:=zz9 (KF.out.on (za w6 (.cells #[.int .i64 (o.getD qe).t,.int .i64 (o.getD qe).n,(.slice A5 (o.getD qe).s.length c5)] 41)))
        have HGW:=zz9 (heap_alloc_new w6 (.cells #[.int .i64 (o.getD qe).t,.int .i64 (o.getD qe).n,(.slice A5 (o.getD qe).s.length c5)] 41));have HQW:=zz9 (HQ5.out.on (za w6 (.cells #[.int .i64 (o.getD qe).t,.int .i64 (o.getD qe).n,(.slice A5 (o.getD qe).s.length c5)] 41)))
        generalize w6.alloc (.cells #[.int .i64 (o.getD qe).t,.int .i64 (o.getD qe).n,(.slice A5 (o.getD qe).s.length c5)] 41) =W at *
        generalize w6.heap.size =gW at *)
    all_goals
     clear KF HQ5;have hi1:i+1<=9223372036854775807:=by have:=HFF.out.2;unfold fits at this;omega
     have hi0:-9223372036854775808<=i+1:=by unfold fits at hfi;omega
     obtain ⟨u0,u1,u2⟩:=qr HGW.out;cases o with
     | none=>
      have H5:Hid (k7 X.lim X.F m' c (i+1) y.n text body env2 τ3 =some ro):=HR2.out.2 _ _ rfl
      simp only [Option.getD_none,Option.isSome_none] at *
      go_wp2_with fail
      go_roundg m'
      case measure=>omega
      case rel=>exact ⟨env2,τ3,i+1,rfl,by omega,⟨hi0,hi1⟩,KW.out,H5.out⟩
     | some v=>
      have h5:some (Ou.ok (some v,env2) τ3) =some ro:=HR2.out.2 _ _ rfl;injection h5 with h5
      have h6:=HRO.out.2 _ _ h5.symm;have H6:Hid (r =.ok (some v,jj env env2.tail) τ3):=by
       show _ =_;injection h6 with h
       exact h.symm
      clear h5 h6
      simp only [Option.getD_some,Option.isSome_some] at *
      go_wp2_with (refine zm rfl (.tmp 6) (.tmp 50) rfl rfl (w.heap.size+1) rfl v.t v.n A5 v.s.length c5 rfl KW.out.z ?_;intro w7 g1)
      refine bodyPost_ret (qW Tryz.results154 _ _ (w.heap.size+1) rfl g1.here) rfl ?_;exact qY (o:=some v) (env:=jj env env2.tail) H6.out KW.out.run (HBM.out _ KW.out.mv) HQW.out (HBF.out _ _ KW.out.mv KW.out.sc) (by omega) KW.out.z g1 HN.out
   ·rw [if_neg hlt] at hl
    have h5:some (Ou.ok (none,env') σ') =some ro:=hl;injection h5 with h5
    have h6:=HRO.out.2 _ _ h5.symm;have H6:Hid (r =.ok (none,jj env env'.tail) σ'):=by
     show _ =_;injection h6 with h
     exact h.symm
    have KW:=zz9 hL;clear hl h5 h6 hL
    go_wp2_with (refine zm rfl (.tmp 6) (.tmp 51) rfl rfl (w.heap.size+1) rfl 0 0 none 0 0 rfl KW.out.z ?_;intro w7 g1)
    refine bodyPost_ret (qW Tryz.results154 _ _ (w.heap.size+1) rfl g1.here) rfl ?_;exact qY (o:=none) (env:=jj env env'.tail) H6.out KW.out.run (HBM.out _ KW.out.mv) rfl (HBF.out _ _ KW.out.mv KW.out.sc) (by omega) KW.out.z g1 HN.out
end
end Go.Proofs.YtcilgkdnjgmogaaGreatDoor
