/- A part of the proof. -/
import Derived.Test.YtcilgkdnjgmogaaGreatDoorXV
namespace Go.Proofs.YtcilgkdnjgmogaaGreatDoor
set_option maxRecDepth 100000
set_option maxHeartbeats 12800000
set_option linter.all false
variable {A A0:Option Addr} {D M:Nat->Prop} {K:Value} {c cp g i m n o:Nat} {n1 t0:Int} {w w1 w2:World}
section
open Go.RowKit Go.MapKept
variable [Prt]
theorem zkd {lim:Int} {F:List Nat->Option Xf} {env:Env} {e:Xe} {σ τ:Stt} {v:Va} (h:qD lim F n c env e σ =some (.ok v τ)) (hu:σ.used<=lim):σ.used+1<=τ.used:=by
 have h1:=((zjq lim σ.used F n).e c env e σ hu).a (Int.le_refl _);rw [h] at h1;have h2:τ.used<=σ.used->qD σ.used F n c env e σ =some (.ok v τ):=h1.1;by_cases hle:τ.used<=σ.used
 ·exfalso
  have h3:=h2 hle;cases n with
  | zero=>unfold qD at h3;cases h3
  | succ n=>
   obtain ⟨op,num,text,kids,place⟩:=e;unfold qD useE at h3;rw [if_pos (by omega)] at h3;cases h3
 ·omega
theorem kr:(Tryz.prog.info? 202).map (·.size) =some 5:=by kernel_rfl
theorem zrr {a b:Int}:∀ u∈[Value.int .i64 a,.int .i64 b,.slice A n m],u.oneCell' =true:=by
 intro u hu;simp at hu;rcases hu with rfl|rfl|rfl <;> rfl
theorem zev:∀ {l:List Xe} {i:Nat} {e:Xe},shL l =true->l[i]? =some e->shE e =true
 | x::l,0,e,h,he=>by
  unfold shL at h;simp at h he;rw [<- he];exact h.1
 | x::l,i+1,e,h,he=>by
  unfold shL at h;simp at h;exact zev h.2 (by simpa using he)
 | [],i,e,h,he=>by simp at he
theorem zlh (m:Ev (List Va)) (v:Va) (vs:List Va):((m.bind fun us τ=>qv (v::us) τ).bind fun us τ=>qv (vs++us) τ) =m.bind fun us τ=>qv ((vs++[v])++us) τ:=by
 match m with
 | none=>rfl
 | some (.trap t τ)=>rfl
 | some (.ok us τ)=>show qv (vs++v::us) τ =qv ((vs++[v])++us) τ;simp
theorem zhv {α β γ:Type} (m:Ev α) (f:α->Stt->Ev β) (g:β->Stt->Ev γ):(m.bind f).bind g =m.bind fun a τ=>(f a τ).bind g:=by
 match m with
 | none=>rfl
 | some (.trap t τ)=>rfl
 | some (.ok a τ)=>rfl
theorem zt0 {t n:Int}:∀ x∈[Value.int .i64 t,.int .i64 n,.slice A m c],∀ (_:Unit) y,x≠Value.int .u8 y:=by
 intro x hx _ y e;simp at hx;rcases hx with rfl|rfl|rfl <;> cases e
theorem zmm:NoI (VV 0 0 kB).cells:=by
 intro x hx _ y e;simp [Value.cells] at hx;rcases hx with rfl|rfl|rfl <;> cases e
def EsS (X:Cx10) (c n:Nat) (env:Env) (l:List Xe) (r:Ou (List Va)) (w:World) (k:Nat) (i V:Value) (wr:World):Prop:=
 ∃ vs σ' m,i =.int .i64 vs.length/\k+vs.length =l.length/\m<=n/\(vs.length:Int)<=σ'.used/\OwnV w.heap.size wr V vs/\RunS X c σ' wr/\Mv X.n0 NoM w wr/\(qK X.lim X.F m c env (l.drop vs.length) σ').bind (fun us τ=>qv (vs++us) τ) =some r
theorem zrd (X:Cx10) (n:Nat) (hE:∀ m,m < n->EOk X m):EsOk X n:=by
 intro c env l σ r w a ms V hc hr hs hl hsh hm;obtain ⟨A,lc,rfl⟩:=zz hl;obtain ⟨i0,hi,hz0,hz1,hz2⟩:=info_parts ztf;have hn0:=hr.hn;have hu0:=hr.u0
 have HST:Hid (EsS X c n env l r w l.length (.int .i64 0) (.slice none 0 0) w):=⟨[],σ,n,rfl,rfl,zzA0 _,hu0,OwnV.nil _ _,hr,.refl _ _ _,by
  show (qK X.lim X.F n c env l σ).bind _ =_;rw [hm]
  cases r <;> rfl⟩
 have HS:=zz9 hs;have HL:=zz9 hl;have HE:=zz9 hE;have HSH:=zz9 hsh;have hln:l.length<=9223372036854775807:=by
  obtain ⟨_,_,_,_,h1,_⟩:=hl;exact h1.len5
 clear hr hs hl hE hm hsh;go_enter Tryz.func155,Tryz.ntmps155
 go_wp2_with fail
 go_loopg [12,7] l.length (fun k i V wr=>EsS X c n env l r w k i V wr)
 case atStart=>exact HST.out
 case round=>
  obtain ⟨vs,σ',m,rfl,hk,hmn,hvu,hO,hR,hM,hmr⟩:=hrel;obtain ⟨AV,cV,rfl⟩:=hO.shape;by_cases hlt:vs.length < l.length
  ·obtain ⟨e,he⟩:∃ e,l[vs.length]? =some e:=⟨l[vs.length],List.getElem?_eq_getElem hlt⟩
   have hlt':(vs.length:Int) < (l.length:Int):=by omega
   rw [xw he] at hmr;obtain ⟨m',rfl⟩:∃ m',m =m'+1:=by
    cases m with
    | zero=>unfold qK at hmr;cases hmr
    | succ m=>exact ⟨m,rfl⟩
   have hL:=HL.out.same (xk hM hn0);obtain ⟨kb,ko,kc,A0,c0,hsl,q1,q2,hrg,hxe⟩:=hL.get5 he;injection hsl with hA _ hcc
   subst hA hcc;have HQ:Hid (gk+vs.length =l.length/\m'+1<=n/\(vs.length:Int)<=σ'.used/\OwnV w.heap.size wr (.slice AV vs.length cV) vs/\RunS X c σ' wr/\Mv X.n0 NoM w wr):=⟨hk,hmn,hvu,hO,hR,hM⟩;have HMR:=zz9 hmr;have HX:=zz9 hxe;have HRG:=zz9 hrg;have hxc:=qx wr e.op e.num e.text (.slice A0 e.kids.length c0) e.place;obtain ⟨z0,z1,z2,z3,z4⟩:=hxc;have HB:=zz9 (za wr (xeO e.op e.num e.text (.slice A0 e.kids.length c0) e.place));have hse:shE e =true:=zev HSH.out he;have HSE:=zz9 hse;have hex:(qD X.lim X.F m' c env e σ').bind (fun v τ=>(qK X.lim X.F m' c env (l.drop (vs.length+1)) τ).bind fun us τ=>qv ((vs++[v])++us) τ) =some r:=by
    have h:=hmr;unfold qK at h;rw [zhv] at h;rw [<- h]
    congr 1
    funext v τ
    exact (zlh _ v vs).symm
   have hwr:X.n0<=wr.heap.size:=hR.hn;have hK:=fun ro h=>HE.out m' (by omega) c env e σ' ro _ a ms _ hc (hR.on HB.out) ((HS.out.mv hM (fun _ _ h=>h)).on HB.out) (hxe.same (xj HB.out hwr)) hse h;have hul:σ'.used<=X.lim:=hR.u1;have hl2:=hR.u2;unfold xeC at HRG HX hK;clear hk hmn hvu hO hR hM hmr hxe hrg hL he hse HMR HX;rcases qF hex with ⟨t,τ,h1,h2⟩|⟨v,τ,h1,h2⟩
   ·have K:=zz9 (hK _ h1)
    have H2:=zz9 h2;clear hK hex h1 h2
    go_wp2_with (first|(refine wpList_load_mid rfl 202 (.tmp 14) rfl kb (ko+vs.length*5) rfl [.int .i64 e.op,.int .i64 e.num,.string (strN e.text),.slice A0 e.kids.length c0,.int .i64 e.place] _ HRG.out Tryz.underlying202 rfl kr ?_;refine Hid.out ?_)|fail)
    refine zz9 ?_
    go_wp2_with fail
    (with_reducible refine K.out.mono ?_)
    rintro e w2 ⟨hM,rfl,c',hs⟩;exact ⟨rfl,zy H2.out (HQ.out.2.2.2.2.2.trans ((Mv.of HB.out).trans hM)) hs⟩
   ·have K:=zz9 (hK _ h1)
    have H2:=zz9 h2;have HU:Hid (σ'.used+1<=τ.used):=zkd h1 hul;clear hK hex h1 h2
    go_wp2_with (first|(refine wpList_load_mid rfl 202 (.tmp 14) rfl kb (ko+vs.length*5) rfl [.int .i64 e.op,.int .i64 e.num,.string (strN e.text),.slice A0 e.kids.length c0,.int .i64 e.place] _ HRG.out Tryz.underlying202 rfl kr ?_;refine Hid.out ?_)|fail)
    refine zz9 ?_
    go_wp2_with fail
    (with_reducible refine K.out.mono ?_)
    rintro e' w2 ⟨hM,u,rfl,hv,hs⟩;obtain ⟨k1,A1,c1,rfl,rfl,hkk,hok⟩:=zbj hv;have bt:=za w2 (.cells #[.int .i64 v.t,.int .i64 v.n,.slice A1 v.s.length c1] 41);have hM2:=HQ.out.2.2.2.2.2.trans ((Mv.of HB.out).trans hM);obtain ⟨ks,hks,h1,h3⟩:=(HQ.out.2.2.2.1.mv ((Mv.of HB.out).trans hM)).mv (Mv.of (n0:=X.n0) (M:=NoM) bt);have HO:=zz9 h1;have HO3:=zz9 h3;have HR3:=zz9 (hs.on bt);have HV3:=zz9 (hv.on bt);have HM3:=zz9 (hM2.then bt);have HN:Hid (∀ (j:Nat) (u:Value),[Value.int .i64 v.t,.int .i64 v.n,.slice A1 v.s.length c1][j]? =some u->(w2.alloc (.cells #[.int .i64 v.t,.int .i64 v.n,.slice A1 v.s.length c1] 41)).cell? ((Addr.mk w2.heap.size 0 none).add j) =some u):=fun j u hu=>by
     rw [Addr.add_mid];exact zZ (cs:=[Value.int .i64 v.t,.int .i64 v.n,.slice A1 v.s.length c1]) (heap_alloc_new w2 _) j u hu
    have hsz:w.heap.size<=(w2.alloc (.cells #[.int .i64 v.t,.int .i64 v.n,.slice A1 v.s.length c1] 41)).heap.size:=HM3.out.size;have hbnd:vs.length+1<=100001:=by have:=HQ.out.2.2.1;omega
    clear hM hv hs hkk hok bt hM2 h1 h3 K z0 z1 z2 z3 z4
    go_wp2_with (at_builtin;refine Rw3.wpList (lo:=w.heap.size) rfl (.tmp 16) (.tmp 21) 32 rfl 41 i0 _ 40 Tryz.underlying32 hi hz0 hz1 hz2 rfl zmm rfl HO.out ⟨w2.heap.size,0,none⟩ 1 [.int .i64 v.t,.int .i64 v.n,.slice A1 v.s.length c1] rfl rfl HN.out zrr zt0 (by unfold maxLen;omega) (by omega) hsz ?_;intro v6 w6 h6 hg6 hb6)
    obtain ⟨o1,o2,o3⟩:=OwnV.more HR3.out hn0 hsz hks HO.out HO3.out HV3.out h6 hg6 hb6;have HF:=zz9 (And.intro o1 (And.intro o2 o3));clear h6 hg6 hb6 o1 o2 o3
    go_roundg (l.length-(vs.length+1))
    case measure=>have:=HQ.out.1;omega
    case rel=>exact ⟨vs++[v],τ,m',by simp,by simp;omega,by have:=HQ.out.2.1;omega,by have:=HQ.out.2.2.1;have:=HU.out;simp;omega,HF.out.1,HF.out.2.1,HM3.out.under HF.out.2.2,by simpa using H2.out⟩
  ·have he:vs.length =l.length:=by omega
   have hnlt:¬ (vs.length:Int) < (l.length:Int):=by omega
   have HR2:Hid (r =.ok vs σ'):=by
    show _ =_;rw [he,List.drop_length] at hmr;cases m with
    | zero=>unfold qK at hmr;cases hmr
    | succ m=>
     unfold qK at hmr;have h:some (Ou.ok (vs++[]) σ') =some r:=hmr;rw [List.append_nil] at h;injection h with h
     exact h.symm
   have HF:=zz9 (And.intro hO (And.intro hR hM));clear hk hmn hvu hO hR hM hmr he
   go_wp2
   go_ret;exact wJ HR2.out HF.out.2.2 HF.out.1 HF.out.2.1
end
section
open Go.RowKit Go.MapKept
variable [Prt]
def oneM (lim:Int) (op:Int) (text:List Nat) (v:Va) (σ:Stt):Ev Va:=
 if op =7 then endE (oneE text v) σ
 else if v.t≠3 then none
 else if op =8 then (useE lim 2 σ).bind fun _ σ=>qv (ya (getM σ.cur v.s)) σ
 else if op =9 then (useE lim 2 σ).bind fun _ σ=>qv (xS (hasM σ.cur v.s)) σ
 else if op =10 then qv (intV v.s.length) σ
 else none
theorem zow {l:List PR} (h:qJ l) (k:List Int):(getM l k).length<=256:=by
 unfold getM;rw [List.getD_eq_getElem?_getD];cases hp:l[fnd k l]? with
 | none=>simp
 | some p=>exact (h.1 _ (List.mem_of_getElem? hp)).2
theorem zde (w:World) (b:Bool):VaC w (xS b) (VV 2 (b2i b) (.slice none 0 0)):=⟨_,rfl,SB.nil _ _,(by cases b <;> (show fits _;unfold fits xS;decide)),by simp [xS]⟩
theorem vG {p:Va} {t:Int} {σ:Stt} {r:Ou Va} (h:endE (some (p,t)) σ =some r):(t =0/\r =.ok p σ)\/(t≠0/\r =.trap t σ):=by
 unfold endE at h;by_cases ht:t =0
 ·dsimp only at h
  rw [if_pos ht] at h;injection h with h
  exact .inl ⟨ht,h.symm⟩
 ·dsimp only at h
  rw [if_neg ht] at h;injection h with h
  exact .inr ⟨ht,h.symm⟩
structure One3 (w:World) (eo vo:Obj) (w0:World):Prop where
 e:w0.heap[w.heap.size]? =some eo
 v:w0.heap[w.heap.size+1]? =some vo
 z:w0.heap[w.heap.size+2]? =some (.cells #[.int .i64 0,.int .i64 0,.slice none 0 0] 41 (0,0))
 b:Below w.heap.size w w0
 s:w0.heap.size =w.heap.size+3
theorem yW (w:World) (eo vo:Obj):One3 w eo vo (((w.alloc eo).alloc vo).alloc zO):=by
 have b1:=za w eo;have b2:=za (w.alloc eo) vo;have b3:=za ((w.alloc eo).alloc vo) zO;refine ⟨?_,?_,?_,(b1.trans (b2.mono b1.size)).trans (b3.mono (zzA2 b1.size b2.size)),by simp⟩
 ·rw [b3.block _ (by simp;omega),b2.block _ (by simp)]
  exact heap_alloc_new w eo
 ·rw [b3.block _ (by simp)]
  have:=heap_alloc_new (w.alloc eo) vo;simpa using this
 ·have:=heap_alloc_new ((w.alloc eo).alloc vo) zO
  simpa using this
theorem qQ {X:Cx10} {σ:Stt} {v:Va} {m0 cp0:Nat} {r:Ou Va} (hr:r =.ok v σ) (hs:RunS X c σ w1) (hm:Mv X.n0 M w w1) (hv:VaC w1 v (VV v.t v.n (.slice A m cp))) (hg:w.heap.size<=g) (hw:w1.heap[g]? =some (.cells #[.int .i64 t0,.int .i64 n1,.slice A0 m0 cp0] 41 (0,0))) (hV:VSt g v.t v.n (.slice A m cp) w1 w2) (hn:X.n0<=w.heap.size) :
  qR X c M VaC w r (.returned (VV v.t v.n (.slice A m cp))) w2:=
 wJ hr (hm.under (hV.below hg)) (hv.var hV hw) (hs.var hV (zzA2 hn hg) hw)
theorem zq0 (X:Cx10) (c:Nat) (σ:Stt) (w:World) (num:Int) (text:List Nat) (A:Option Addr) (n cp:Nat) (place:Int) (v:Va) (V:Value) (r:Ou Va) (hr:RunS X c σ w) (hv:VaC w v V) (hm:oneM X.lim 8 text v σ =some r) :
  Calls Tryz.prog 230 #[.pointer (some ⟨X.R,0,none⟩),.agg #[.int .i64 8,.int .i64 num,.string (strN text),.slice A n cp,.int .i64 place],V] w (qR X c NoM VaC w r):=by
 obtain ⟨B,d,rfl,hB,hok⟩:=xM hv;have H3:=yW w (.cells #[.int .i64 8,.int .i64 num,.string (strN text),.slice A n cp,.int .i64 place] 202) (.cells #[.int .i64 v.t,.int .i64 v.n,.slice B v.s.length d] 41);obtain ⟨w0,hw0⟩:∃ w0,((w.alloc (.cells #[.int .i64 8,.int .i64 num,.string (strN text),.slice A n cp,.int .i64 place] 202)).alloc (.cells #[.int .i64 v.t,.int .i64 v.n,.slice B v.s.length d] 41)).alloc zO =w0:=⟨_,rfl⟩;rw [hw0] at H3;have HW0:=zz9 hw0;have HN:=zz9 hr.hn;have HH:=zz9 H3;obtain ⟨e0,e1,e2,e3,e4⟩:=kA H3.e;obtain ⟨v0,v1,v2⟩:=qr H3.v;unfold oneM at hm;rw [if_neg (by decide)] at hm;by_cases ht:v.t≠3
 ·rw [if_pos ht] at hm;cases hm
 rw [if_neg ht,if_pos rfl] at hm;have hs0:=hr.on H3.b;have hB0:=hB.on H3.b;rcases qF hm with ⟨t,τ,h1,h2⟩|⟨a,τ,h1,h2⟩
 ·have K:=zz9 (zgs X c σ w0 _ v.s (.trap t τ) hs0 hB0 (by unfold getG;rw [h1];rfl))
  have H2:=zz9 h2;clear hr hv hB hm h1 h2 hs0 hB0 H3 hw0 hok ht;go_enter Tryz.func230,Tryz.ntmps230
  go_upto_region 1 with fail
  rw [HW0.out]
  go_wp2_with fail
  (with_reducible refine K.out.mono ?_)
  rintro e w1 ⟨hM,rfl,c',hs⟩;exact ⟨rfl,zy H2.out ((Mv.of HH.out.b).trans hM) hs⟩
 ·have K:=zz9 (zgs X c σ w0 _ v.s (.ok (getM τ.cur v.s,hasM τ.cur v.s) τ) hs0 hB0 (by unfold getG;rw [h1];rfl))
  have H2:Hid (r =.ok (ya (getM τ.cur v.s)) τ):=by show _ =_;injection h2 with h2;exact h2.symm
  clear hr hv hB hm h1 h2 hs0 hB0 H3 hw0 hok ht;go_enter Tryz.func230,Tryz.ntmps230
  go_upto_region 1 with fail
  rw [HW0.out]
  go_wp2_with fail
  (with_reducible refine K.out.mono ?_)
  rintro e w1 ⟨hM,x,rfl,⟨V2,rfl,hV2⟩,hs⟩;obtain ⟨A2,c2,e2,l1,l2,l3,l4⟩:=id hV2;dsimp only at e2 l1 l3 l4 hV2;subst e2;have hlen:=zow hs.jr.cur v.s;have K2:=zz9 (zul A2 (getM τ.cur v.s) (getM τ.cur v.s).length c2 rfl w1 l3 (by omega));have HS:=zz9 hs;have HM:=zz9 ((Mv.of (n0:=X.n0) (M:=NoM) HH.out.b).trans hM);have HZ1:=zz9 (hM.kept HH.out.z (by decide));have HB4:=zz9 l4;have HL:=zz9 hlen;clear hM hs hV2 l1 l2 l3 l4 K hlen
  generalize getM τ.cur v.s =gv at *
  generalize hasM τ.cur v.s =hv at *
  go_wp2_with fail
  (with_reducible refine K2.out.mono ?_)
  rintro e w2 ⟨A3,c3,rfl,q1,q2,q3,q4,q5⟩;have HS2:=zz9 (HS.out.on q5);have HM2:=zz9 (HM.out.then q5);have HZ2:=zz9 (zg q5 HZ1.out (zz7.1 HZ1.out).1);have HV3:Hid (VaC w2 (ya gv) (VV 3 0 (.slice A3 gv.length c3))):=⟨_,rfl,⟨A3,c3,rfl,q1,q2,q3,HB4.out⟩,(by show fits 0;unfold fits;decide),by show gv.length<=_;have:=HL.out;omega⟩;clear q1 q2 q3 q4 q5 K2
  go_wp2_with (refine zm rfl (.tmp 6) (.tmp 25) rfl rfl (w.heap.size+2) rfl 3 0 A3 gv.length c3 rfl HZ2.out ?_;intro w3 g1)
  refine bodyPost_ret (qH Tryz.results230 _ _ (w.heap.size+2) rfl g1.here) rfl ?_;exact qQ (v:=ya gv) H2.out HS2.out HM2.out HV3.out (by omega) HZ2.out g1 HN.out
theorem zrl (X:Cx10) (c:Nat) (σ:Stt) (w:World) (num:Int) (text:List Nat) (A:Option Addr) (n cp:Nat) (place:Int) (v:Va) (V:Value) (r:Ou Va) (hr:RunS X c σ w) (hv:VaC w v V) (hm:oneM X.lim 9 text v σ =some r) :
  Calls Tryz.prog 230 #[.pointer (some ⟨X.R,0,none⟩),.agg #[.int .i64 9,.int .i64 num,.string (strN text),.slice A n cp,.int .i64 place],V] w (qR X c NoM VaC w r):=by
 obtain ⟨B,d,rfl,hB,hok⟩:=xM hv;have H3:=yW w (.cells #[.int .i64 9,.int .i64 num,.string (strN text),.slice A n cp,.int .i64 place] 202) (.cells #[.int .i64 v.t,.int .i64 v.n,.slice B v.s.length d] 41);obtain ⟨w0,hw0⟩:∃ w0,((w.alloc (.cells #[.int .i64 9,.int .i64 num,.string (strN text),.slice A n cp,.int .i64 place] 202)).alloc (.cells #[.int .i64 v.t,.int .i64 v.n,.slice B v.s.length d] 41)).alloc zO =w0:=⟨_,rfl⟩;rw [hw0] at H3;have HW0:=zz9 hw0;have HN:=zz9 hr.hn;have HH:=zz9 H3;obtain ⟨e0,e1,e2,e3,e4⟩:=kA H3.e;obtain ⟨v0,v1,v2⟩:=qr H3.v;unfold oneM at hm;rw [if_neg (by decide)] at hm;by_cases ht:v.t≠3
 ·rw [if_pos ht] at hm;cases hm
 rw [if_neg ht,if_neg (by decide),if_pos rfl] at hm;have hs0:=hr.on H3.b;have hB0:=hB.on H3.b;rcases qF hm with ⟨t,τ,h1,h2⟩|⟨a,τ,h1,h2⟩
 ·have K:=zz9 (zgs X c σ w0 _ v.s (.trap t τ) hs0 hB0 (by unfold getG;rw [h1];rfl))
  have H2:=zz9 h2;clear hr hv hB hm h1 h2 hs0 hB0 H3 hw0 hok ht;go_enter Tryz.func230,Tryz.ntmps230
  go_upto_region 1 with fail
  rw [HW0.out]
  go_wp2_with fail
  (with_reducible refine K.out.mono ?_)
  rintro e w1 ⟨hM,rfl,c',hs⟩;exact ⟨rfl,zy H2.out ((Mv.of HH.out.b).trans hM) hs⟩
 ·have K:=zz9 (zgs X c σ w0 _ v.s (.ok (getM τ.cur v.s,hasM τ.cur v.s) τ) hs0 hB0 (by unfold getG;rw [h1];rfl))
  have H2:Hid (r =.ok (xS (hasM τ.cur v.s)) τ):=by show _ =_;injection h2 with h2;exact h2.symm
  clear hr hv hB hm h1 h2 hs0 hB0 H3 hw0 hok ht;go_enter Tryz.func230,Tryz.ntmps230
  go_upto_region 1 with fail
  rw [HW0.out]
  go_wp2_with fail
  (with_reducible refine K.out.mono ?_)
  rintro e w1 ⟨hM,x,rfl,⟨V2,rfl,hV2⟩,hs⟩;obtain ⟨A2,c2,e2,l1,l2,l3,l4⟩:=id hV2;dsimp only at e2;subst e2;dsimp only;have HS:=zz9 hs;have HM:=zz9 ((Mv.of (n0:=X.n0) (M:=NoM) HH.out.b).trans hM);have HZ1:=zz9 (hM.kept HH.out.z (by decide));clear hM hs hV2 l1 l2 l3 l4 K
  generalize getM τ.cur v.s =gv at *
  generalize hasM τ.cur v.s =hv at *
  go_wp2_with fail
  refine (zez hv w1).mono ?_;rintro e w2 ⟨rfl,q5⟩;have HS2:=zz9 (HS.out.on q5);have HM2:=zz9 (HM.out.then q5);have HZ2:=zz9 (zg q5 HZ1.out (zz7.1 HZ1.out).1);have HV3:Hid (VaC w2 (xS hv) (VV 2 (b2i hv) (.slice none 0 0))):=zde w2 hv;clear q5
  go_wp2_with (refine zm rfl (.tmp 6) (.tmp 36) rfl rfl (w.heap.size+2) rfl 2 (b2i hv) none 0 0 rfl HZ2.out ?_;intro w3 g1)
  refine bodyPost_ret (qH Tryz.results230 _ _ (w.heap.size+2) rfl g1.here) rfl ?_;exact qQ (v:=xS hv) H2.out HS2.out HM2.out HV3.out (by omega) HZ2.out g1 HN.out
theorem zps (X:Cx10) (c:Nat) (σ:Stt) (w:World) (num:Int) (text:List Nat) (A:Option Addr) (n cp:Nat) (place:Int) (v:Va) (V:Value) (r:Ou Va) (hr:RunS X c σ w) (hv:VaC w v V) (hm:oneM X.lim 10 text v σ =some r) :
  Calls Tryz.prog 230 #[.pointer (some ⟨X.R,0,none⟩),.agg #[.int .i64 10,.int .i64 num,.string (strN text),.slice A n cp,.int .i64 place],V] w (qR X c NoM VaC w r):=by
 obtain ⟨B,d,rfl,hB,hok⟩:=xM hv;have H3:=yW w (.cells #[.int .i64 10,.int .i64 num,.string (strN text),.slice A n cp,.int .i64 place] 202) (.cells #[.int .i64 v.t,.int .i64 v.n,.slice B v.s.length d] 41);obtain ⟨w0,hw0⟩:∃ w0,((w.alloc (.cells #[.int .i64 10,.int .i64 num,.string (strN text),.slice A n cp,.int .i64 place] 202)).alloc (.cells #[.int .i64 v.t,.int .i64 v.n,.slice B v.s.length d] 41)).alloc zO =w0:=⟨_,rfl⟩;rw [hw0] at H3;have HW0:=zz9 hw0;have HN:=zz9 hr.hn;have HH:=zz9 H3;obtain ⟨e0,e1,e2,e3,e4⟩:=kA H3.e;obtain ⟨v0,v1,v2⟩:=qr H3.v;unfold oneM at hm;rw [if_neg (by decide)] at hm;by_cases ht:v.t≠3
 ·rw [if_pos ht] at hm;cases hm
 rw [if_neg ht,if_neg (by decide),if_neg (by decide),if_pos rfl] at hm;have hs0:=zz9 (hr.on H3.b);have H2:Hid (r =.ok (intV v.s.length) σ):=by show _ =_;injection hm with h2;exact h2.symm
 have HL:Hid (v.s.length<=1000000):=hok.2;clear hr hv hB hm H3 hw0 hok ht;go_enter Tryz.func230,Tryz.ntmps230
 go_upto_region 1 with fail
 rw [HW0.out]
 go_wp2_with fail
 refine (numC (v.s.length:Int) w0).mono ?_;rintro e w2 ⟨rfl,q5⟩;have HS2:=zz9 (hs0.out.on q5);have HM2:=zz9 ((Mv.of (n0:=X.n0) (M:=NoM) HH.out.b).then q5);have HZ2:=zz9 (zg q5 HH.out.z (zz7.1 HH.out.z).1);have HV3:Hid (VaC w2 (intV v.s.length) (VV 1 v.s.length (.slice none 0 0))):=⟨_,rfl,SB.nil _ _,(by have:=HL.out;show fits (v.s.length:Int);unfold fits;omega),by simp [intV]⟩;clear q5
 go_wp2_with (refine zm rfl (.tmp 6) (.tmp 42) rfl rfl (w.heap.size+2) rfl 1 v.s.length none 0 0 rfl HZ2.out ?_;intro w3 g1)
 refine bodyPost_ret (qH Tryz.results230 _ _ (w.heap.size+2) rfl g1.here) rfl ?_;exact qQ (v:=intV v.s.length) H2.out HS2.out HM2.out HV3.out (by omega) HZ2.out g1 HN.out
theorem zpp (X:Cx10) (c:Nat) (σ:Stt) (w:World) (num:Int) (text:List Nat) (A:Option Addr) (n cp:Nat) (place:Int) (v:Va) (V:Value) (r:Ou Va) (hr:RunS X c σ w) (hy:Byn text) (hv:VaC w v V) (hm:oneM X.lim 7 text v σ =some r) :
  Calls Tryz.prog 230 #[.pointer (some ⟨X.R,0,none⟩),.agg #[.int .i64 7,.int .i64 num,.string (strN text),.slice A n cp,.int .i64 place],V] w (qR X c NoM VaC w r):=by
 obtain ⟨B,d,rfl,hB,hok⟩:=xM hv;have H3:=yW w (.cells #[.int .i64 7,.int .i64 num,.string (strN text),.slice A n cp,.int .i64 place] 202) (.cells #[.int .i64 v.t,.int .i64 v.n,.slice B v.s.length d] 41);obtain ⟨w0,hw0⟩:∃ w0,((w.alloc (.cells #[.int .i64 7,.int .i64 num,.string (strN text),.slice A n cp,.int .i64 place] 202)).alloc (.cells #[.int .i64 v.t,.int .i64 v.n,.slice B v.s.length d] 41)).alloc zO =w0:=⟨_,rfl⟩;rw [hw0] at H3;have HW0:=zz9 hw0;have HN:=zz9 hr.hn;have HH:=zz9 H3;obtain ⟨e0,e1,e2,e3,e4⟩:=kA H3.e;obtain ⟨v0,v1,v2⟩:=qr H3.v;unfold oneM at hm;rw [if_pos rfl] at hm;have hs0:=zz9 (hr.on H3.b);have hv0:=hv.on H3.b;cases ho:oneE text v with
 | none=>rw [ho] at hm;cases hm
 | some p=>
  rw [ho] at hm;have K:=zz9 (zn5 text v p ho w0 _ hv0);obtain ⟨pv,pt⟩:=p;have HP:Hid ((pt =0/\r =.ok pv σ)\/(pt≠0/\r =.trap pt σ)):=vG hm;clear hr hv hv0 hB hm H3 hw0 hok ho hy;go_enter Tryz.func230,Tryz.ntmps230
  go_upto_region 1 with fail
  rw [HW0.out]
  go_wp2_with fail
  (with_reducible refine K.out.mono ?_)
  rintro e w1 ⟨pt',pn,A2,m2,c2,rfl,hpv,hb⟩;dsimp only at hpv ⊢;obtain ⟨A3,c3,e3,hA3,hok3⟩:=xM hpv;injection e3 with e3
  simp only [Array.mk.injEq,List.cons.injEq,Value.int.injEq,Value.slice.injEq,true_and,and_true] at e3;obtain ⟨rfl,rfl,rfl,rfl,rfl⟩:=e3;have HS2:=zz9 (hs0.out.on hb);have HM2:=zz9 ((Mv.of (n0:=X.n0) (M:=NoM) HH.out.b).then hb);have HZ2:=zz9 (zg hb HH.out.z (zz7.1 HH.out.z).1);have HV2:=zz9 hpv;have BZ:=zz9 (za w1 (.cells #[.int .i64 pv.t,.int .i64 pv.n,.slice A2 pv.s.length c2] 41));obtain ⟨u0,u1,u2⟩:=qr (heap_alloc_new w1 (.cells #[.int .i64 pv.t,.int .i64 pv.n,.slice A2 pv.s.length c2] 41));clear hpv hb hA3 hok3 K
  go_wp2_with fail
  generalize w1.alloc (.cells #[.int .i64 pv.t,.int .i64 pv.n,.slice A2 pv.s.length c2] 41) =w2 at *
  have HS3:=zz9 (HS2.out.on BZ.out);have HM3:=zz9 (HM2.out.then BZ.out);have HZ3:=zz9 (zg BZ.out HZ2.out (zz7.1 HZ2.out).1);have HV3:=zz9 (HV2.out.on BZ.out);rcases HP.out with ⟨rfl,h2⟩|⟨h1,h2⟩
  ·have H2:=zz9 h2
   clear h2 HP;refine (yV _).mono ?_;rintro e w3 ⟨rfl,rfl⟩
   go_wp2_with (refine zm rfl (.tmp 6) (.tmp 52) rfl rfl (w.heap.size+2) rfl pv.t pv.n A2 pv.s.length c2 rfl HZ3.out ?_;intro w3 g1)
   refine bodyPost_ret (qH Tryz.results230 _ _ (w.heap.size+2) rfl g1.here) rfl ?_;exact qQ (v:=pv) H2.out HS3.out HM3.out HV3.out (by omega) HZ3.out g1 HN.out
  ·have H2:=zz9 h2
   clear h2 HP;refine (kt pt h1 _).mono ?_;rintro e w3 ⟨rfl,rfl⟩;exact ⟨rfl,zy H2.out HM3.out HS3.out⟩
end
section
open Go.RowKit Go.MapKept
variable [Prt]
def twoM (lim:Int) (F:List Nat->Option Xf) (n c:Nat) (env:Env) (text:List Nat) (a b:Xe) (σ:Stt):Ev Va:=
 (qD lim F n c env a σ).bind fun v σ=>
  if text =[38,38] then (if v.n =1 then qD lim F n c env b σ else qv (xS false) σ)
  else if text =[124,124] then (if v.n =1 then qv (xS true) σ else qD lim F n c env b σ)
  else (qD lim F n c env b σ).bind fun u σ=>
   if text =[43]/\v.t =3 then (useE lim (((v.s.length+u.s.length:Nat):Int) / 16) σ).bind fun _ σ=>endE (twoE text v u) σ
   else endE (twoE text v u) σ
structure Two2 (w:World) (eo:Obj) (w0:World):Prop where
 e:w0.heap[w.heap.size]? =some eo
 z:w0.heap[w.heap.size+1]? =some (.cells #[.int .i64 0,.int .i64 0,.slice none 0 0] 41 (0,0))
 b:Below w.heap.size w w0
 s:w0.heap.size =w.heap.size+2
theorem qO (w:World) (eo:Obj):Two2 w eo ((w.alloc eo).alloc zO):=by
 have b1:=za w eo;have b2:=za (w.alloc eo) zO;refine ⟨?_,?_,b1.trans (b2.mono b1.size),by simp⟩
 ·rw [b2.block _ (by simp)]
  exact heap_alloc_new w eo
 ·have:=heap_alloc_new (w.alloc eo) zO
  simpa using this
abbrev xO6 (op num:Int) (text:List Nat) (K:Value) (place:Int):Obj:=.cells #[.int .i64 op,.int .i64 num,.string (strN text),K,.int .i64 place] 202
theorem zk5 {l:List Xe} {V:Value} (h:XesC w D l V) {e:Xe} (he:l[i]? =some e) (ho:o =i*5):∃ (kb ko c:Nat) (A0:Option Addr) (c0:Nat),V =.slice (some ⟨kb,ko,none⟩) l.length c /\
  w.rangeAt kb (ko+o) [.int .i64 e.op,.int .i64 e.num,.string (strN e.text),.slice A0 e.kids.length c0,.int .i64 e.place]/\XeV w D e (.agg #[.int .i64 e.op,.int .i64 e.num,.string (strN e.text),.slice A0 e.kids.length c0,.int .i64 e.place]):=by
 subst ho;obtain ⟨kb,ko,c,A0,c0,h1,_,_,h2,h3⟩:=h.get5 he;exact ⟨kb,ko,c,A0,c0,h1,h2,h3⟩
theorem zlc {l:List Xe} {kb ko len cp:Nat} (h:XesC w D l (.slice (some ⟨kb,ko,none⟩) len cp)) {e:Xe} (he:l[i]? =some e) (ho:o =i*5):∃ (A0:Option Addr) (c0:Nat),
  w.rangeAt kb (ko+o) [.int .i64 e.op,.int .i64 e.num,.string (strN e.text),.slice A0 e.kids.length c0,.int .i64 e.place]/\XeV w D e (.agg #[.int .i64 e.op,.int .i64 e.num,.string (strN e.text),.slice A0 e.kids.length c0,.int .i64 e.place]):=by
 obtain ⟨kb',ko',c,A0,c0,h1,h2,h3⟩:=zk5 h he ho;injection h1 with h1 _ _
 injection h1 with h1
 injection h1 with h4 h5 _
 subst h4 h5;exact ⟨A0,c0,h2,h3⟩
structure Kp2 (X:Cx10) (c:Nat) (τ:Stt) (w:World) (eo:Obj) (p:Option Addr) (ms:List Nat) (env:Env) (l:List Xe) (V:Value) (w1:World):Prop where
 run:RunS X c τ w1
 mv:Mv X.n0 NoM w w1
 e:w1.heap[w.heap.size]? =some eo
 z:w1.heap[w.heap.size+1]? =some (.cells #[.int .i64 0,.int .i64 0,.slice none 0 0] 41 (0,0))
 sc:ScAt X.n0 w1 (.pointer p) ms env
 k:XesC w1 (Lo X.n0) l V
theorem Kp2.on {X:Cx10} {τ:Stt} {eo:Obj} {p:Option Addr} {ms:List Nat} {env:Env} {l:List Xe} {V:Value} (h:Kp2 X c τ w eo p ms env l V w1) (hb:Below w1.heap.size w1 w2):Kp2 X c τ w eo p ms env l V w2:=
 ⟨h.run.on hb,h.mv.then hb,zg hb h.e (zz7.1 h.e).1,zg hb h.z (zz7.1 h.z).1,h.sc.on hb,h.k.same (xj hb h.run.hn)⟩
theorem Kp2.go {X:Cx10} {τ τ':Stt} {op num place:Int} {s:ByteArray} {p:Option Addr} {ms:List Nat} {env:Env} {l:List Xe} {V:Value} (h:Kp2 X c τ w (.cells #[.int .i64 op,.int .i64 num,.string s,K,.int .i64 place] 202) p ms env l V w1) (hm:Mv X.n0 NoM w1 w2) (hr:RunS X c τ' w2):Kp2 X c τ' w (.cells #[.int .i64 op,.int .i64 num,.string s,K,.int .i64 place] 202) p ms env l V w2:=
 ⟨hr,h.mv.trans hm,hm.kept h.e (by decide),hm.kept h.z (by decide),h.sc.mv hm (fun _ _ h=>h),h.k.same (xk hm h.run.hn)⟩
theorem zll (X:Cx10) (m c:Nat) (env:Env) (σ:Stt) (w:World) (op num:Int) (text:List Nat) (a b:Xe) (A:Option Addr) (cp:Nat) (place:Int) (p:Option Addr) (ms:List Nat) (r:Ou Va) (hE:EOk X m) (hc:c<=16) (hr:RunS X c σ w) (hs:ScAt X.n0 w (.pointer p) ms env) (hy:Byn text) (hk:XesC w (Lo X.n0) [a,b] (.slice A 2 cp)) (hsh:shL [a,b] =true) (hm:twoM X.lim X.F m c env text a b σ =some r) :
  Calls Tryz.prog 229 #[.pointer (some ⟨X.R,0,none⟩),.agg #[.int .i64 op,.int .i64 num,.string (strN text),.slice A 2 cp,.int .i64 place],.pointer p] w (qR X c NoM VaC w r):=by
 have H3:=qO w (xO6 op num text (.slice A 2 cp) place);obtain ⟨w0,hw0⟩:∃ w0,(w.alloc (xO6 op num text (.slice A 2 cp) place)).alloc zO =w0:=⟨_,rfl⟩;rw [hw0] at H3;have HW0:=zz9 hw0;have hn0:=hr.hn;have HN:=zz9 hn0;have HH:=zz9 H3;obtain ⟨e0,e1,e2,e3,e4⟩:=kA H3.e;have hr0:=hr.on H3.b;have hs0:=hs.on H3.b;have hk0:=hk.same (xj H3.b hn0);obtain ⟨kb,ko,kc,A0,c0,hV,hrg,hxa⟩:=zk5 hk0 (i:=0) (e:=a) rfl (o:=0) rfl;injection hV with hA _ hcc
 subst hA hcc;have HS:=zz9 hs0;have HK:=zz9 hk0;have HSH:=zz9 hsh;have HRG:=zz9 hrg;have HE:=zz9 hE;have HM:=zz9 hm;have HY:=zz9 hy;have hsa:shE a =true:=zev hsh (i:=0) rfl;unfold twoM at hm;rcases qF hm with ⟨t,τ,h1,h2⟩|⟨v,τ,h1,h2⟩
 ·have K:=zz9 (hE c env a σ _ w0 p ms _ hc hr0 hs0 hxa hsa h1)
  have H2:=zz9 h2;clear hr hs hk hm h1 h2 hr0 hs0 hk0 H3 hw0 hE hsh hrg hxa hsa hy HM;go_enter Tryz.func229,Tryz.ntmps229
  go_upto_region 1 with fail
  rw [HW0.out]
  go_wp2_with (first|(refine wpList_load_mid rfl 202 (.tmp 14) rfl kb (ko+0) rfl [.int .i64 a.op,.int .i64 a.num,.string (strN a.text),.slice A0 a.kids.length c0,.int .i64 a.place] _ HRG.out Tryz.underlying202 rfl kr ?_;refine Hid.out ?_)|fail)
  refine zz9 ?_
  go_wp2_with fail
  (with_reducible refine K.out.mono ?_)
  rintro e w1 ⟨hM,rfl,c',hs⟩;exact ⟨rfl,zy H2.out ((Mv.of HH.out.b).trans hM) hs⟩
 ·have K:=zz9 (hE c env a σ _ w0 p ms _ hc hr0 hs0 hxa hsa h1)
  have H2:=zz9 h2
  have K0:Hid (∀ w1,Mv X.n0 NoM w0 w1->RunS X c τ w1->Kp2 X c τ w (xO6 op num text (.slice (some ⟨kb,ko,none⟩) 2 cp) place) p ms env [a,b] (.slice (some ⟨kb,ko,none⟩) 2 cp) w1):=fun w1 hm hr1=>
   (Kp2.go (τ:=σ) ⟨hr0,Mv.of HH.out.b,HH.out.e,HH.out.z,hs0,hk0⟩ hm hr1)
  have HSB:Hid (shE b =true):=zev hsh (i:=1) rfl;have q1:=kZ hy [38,38] (by unfold Byn;decide);have q2:=kZ hy [124,124] (by unfold Byn;decide);have q3:=kZ hy [43] (by unfold Byn;decide);have HQ:Hid (((strN text).toList == [38,38]) =decide (text =[38,38])/\((strN text).toList == [124,124]) =decide (text =[124,124])/\((strN text).toList == [43]) =decide (text =[43])):=⟨q1,q2,q3⟩;clear hr hs hk hm h1 h2 hr0 hs0 hk0 H3 hw0 hE hsh hrg hxa hsa hy HM q1 q2 q3;go_enter Tryz.func229,Tryz.ntmps229
  go_upto_region 1 with fail
  rw [HW0.out]
  go_wp2_with (first|(refine wpList_load_mid rfl 202 (.tmp 14) rfl kb (ko+0) rfl [.int .i64 a.op,.int .i64 a.num,.string (strN a.text),.slice A0 a.kids.length c0,.int .i64 a.place] _ HRG.out Tryz.underlying202 rfl kr ?_;refine Hid.out ?_)|fail)
  refine zz9 ?_
  go_wp2_with fail
  (with_reducible refine K.out.mono ?_)
  rintro e w1 ⟨hM,V1,rfl,hv,hs1⟩;obtain ⟨A1,c1,rfl,hA1,hok1⟩:=xM hv;have BZ:=za w1 (.cells #[.int .i64 v.t,.int .i64 v.n,.slice A1 v.s.length c1] 41);have KC:=zz9 ((K0.out w1 hM hs1).on BZ);have HV:=zz9 (hv.on BZ);have hU:=heap_alloc_new w1 (.cells #[.int .i64 v.t,.int .i64 v.n,.slice A1 v.s.length c1] 41);have HU:=zz9 hU;have HLV:=zz9 (And.intro hok1 BZ.size);obtain ⟨u0,u1,u2⟩:=qr hU;obtain ⟨y0,y1,y2,y3,y4⟩:=kA KC.out.e;have HUL:Hid (w1.heap.size < (w1.alloc (.cells #[.int .i64 v.t,.int .i64 v.n,.slice A1 v.s.length c1] 41)).heap.size):=by show _ < _;simp
  clear hM hs1 hv hA1 hok1 BZ K K0 e0 e1 e2 e3 e4 hU
  go_upto_region 2 with fail
  generalize w1.alloc (.cells #[.int .i64 v.t,.int .i64 v.n,.slice A1 v.s.length c1] 41) =w2 at *
  rcases HQ.out with ⟨q1,q2,q3⟩
  by_cases t1:text =[38,38]
  ·rw [decide_eq_true t1] at q1
   have H3:=H2;rw [if_pos t1] at H3;clear q2 q3 t1
   go_wp2_with fail
   refine (zch v.t v.n _ _).mono ?_;rintro e w3 ⟨rfl,hb3⟩;replace KC:=zz9 (KC.out.on hb3);obtain ⟨x0,x1,x2,x3,x4⟩:=kA KC.out.e;clear hb3 y0 y1 y2 y3 y4 u0 u1 u2;by_cases hv1:v.n =1
   ·rw [if_pos hv1] at H3
    have hb1:(v.n == 1) =true:=by rw [hv1];rfl
    clear hv1;obtain ⟨AB,cB,hrgb,hxb⟩:=zlc KC.out.k (i:=1) (e:=b) rfl (o:=5) rfl;have HRGB:=zz9 hrgb;have K2:=zz9 (HE.out c env b τ _ _ p ms _ hc KC.out.run KC.out.sc hxb HSB.out H3.out);clear hrgb hxb
    go_wp2_with (first|(refine wpList_load_mid rfl 202 (.tmp 29) rfl kb (ko+5) rfl [.int .i64 b.op,.int .i64 b.num,.string (strN b.text),.slice AB b.kids.length cB,.int .i64 b.place] _ HRGB.out Tryz.underlying202 rfl kr ?_;refine Hid.out ?_)|fail)
    refine zz9 ?_
    go_wp2_with fail
    (with_reducible refine K2.out.mono ?_)
    cases r with
    | trap t' τ'=>
     rintro e w4 ⟨hM,rfl,c',hs⟩;exact ⟨rfl,zy rfl (KC.out.mv.trans hM) hs⟩
    | ok x τ'=>
     rintro e w4 ⟨hM,V4,rfl,hv4,hs4⟩;obtain ⟨A4,c4,rfl,hA4,hok4⟩:=xM hv4;have KC4:=zz9 (KC.out.go hM hs4);have HV4:=zz9 hv4;clear hM hs4 hv4 hA4 hok4 K2 KC;have HZ4:=zz9 KC4.out.z
     go_wp2_with (refine zm rfl (.tmp 6) (.tmp 32) rfl rfl (w.heap.size+1) rfl x.t x.n A4 x.s.length c4 rfl HZ4.out ?_;intro w5 g1)
     refine bodyPost_ret (qH Tryz.results229 _ _ (w.heap.size+1) rfl g1.here) rfl ?_;exact qQ (v:=x) rfl KC4.out.run KC4.out.mv HV4.out (by omega) HZ4.out g1 HN.out
   ·rw [if_neg hv1] at H3
    have hb1:(v.n == 1) =false:=by rw [beq_eq_false_iff_ne];exact hv1
    clear hv1;have HR2:Hid (r =.ok (xS false) τ):=by show _ =_;have h:=H3.out;injection h with h;exact h.symm
    go_wp2_with fail
    refine (zez false _).mono ?_;rintro e w4 ⟨rfl,hb4⟩;have KC4:=zz9 (KC.out.on hb4);clear hb4 KC;have HZ4:=zz9 KC4.out.z
    go_wp2_with (refine zm rfl (.tmp 6) (.tmp 25) rfl rfl (w.heap.size+1) rfl 2 (b2i false) none 0 0 rfl HZ4.out ?_;intro w5 g1)
    refine bodyPost_ret (qH Tryz.results229 _ _ (w.heap.size+1) rfl g1.here) rfl ?_;exact qQ (v:=xS false) HR2.out KC4.out.run KC4.out.mv (zde _ false) (by omega) HZ4.out g1 HN.out
  rw [decide_eq_false t1] at q1;by_cases t2:text =[124,124]
  ·rw [decide_eq_true t2] at q2
   have H3:=H2;rw [if_neg t1,if_pos t2] at H3;clear q3 t1 t2
   go_wp2_with fail
   refine (zch v.t v.n _ _).mono ?_;rintro e w3 ⟨rfl,hb3⟩;replace KC:=zz9 (KC.out.on hb3);obtain ⟨x0,x1,x2,x3,x4⟩:=kA KC.out.e;clear hb3 y0 y1 y2 y3 y4 u0 u1 u2;by_cases hv1:v.n =1
   ·rw [if_pos hv1] at H3
    have hb1:(v.n == 1) =true:=by rw [hv1];rfl
    clear hv1;have HR2:Hid (r =.ok (xS true) τ):=by show _ =_;have h:=H3.out;injection h with h;exact h.symm
    go_wp2_with fail
    refine (zez true _).mono ?_;rintro e w4 ⟨rfl,hb4⟩;have KC4:=zz9 (KC.out.on hb4);clear hb4 KC;have HZ4:=zz9 KC4.out.z
    go_wp2_with (refine zm rfl (.tmp 6) (.tmp 37) rfl rfl (w.heap.size+1) rfl 2 (b2i true) none 0 0 rfl HZ4.out ?_;intro w5 g1)
    refine bodyPost_ret (qH Tryz.results229 _ _ (w.heap.size+1) rfl g1.here) rfl ?_;exact qQ (v:=xS true) HR2.out KC4.out.run KC4.out.mv (zde _ true) (by omega) HZ4.out g1 HN.out
   ·rw [if_neg hv1] at H3
    have hb1:(v.n == 1) =false:=by rw [beq_eq_false_iff_ne];exact hv1
    clear hv1;obtain ⟨AB,cB,hrgb,hxb⟩:=zlc KC.out.k (i:=1) (e:=b) rfl (o:=5) rfl;have HRGB:=zz9 hrgb;have K2:=zz9 (HE.out c env b τ _ _ p ms _ hc KC.out.run KC.out.sc hxb HSB.out H3.out);clear hrgb hxb
    go_wp2_with (first|(refine wpList_load_mid rfl 202 (.tmp 41) rfl kb (ko+5) rfl [.int .i64 b.op,.int .i64 b.num,.string (strN b.text),.slice AB b.kids.length cB,.int .i64 b.place] _ HRGB.out Tryz.underlying202 rfl kr ?_;refine Hid.out ?_)|fail)
    refine zz9 ?_
    go_wp2_with fail
    (with_reducible refine K2.out.mono ?_)
    cases r with
    | trap t' τ'=>
     rintro e w4 ⟨hM,rfl,c',hs⟩;exact ⟨rfl,zy rfl (KC.out.mv.trans hM) hs⟩
    | ok x τ'=>
     rintro e w4 ⟨hM,V4,rfl,hv4,hs4⟩;obtain ⟨A4,c4,rfl,hA4,hok4⟩:=xM hv4;have KC4:=zz9 (KC.out.go hM hs4);have HV4:=zz9 hv4;clear hM hs4 hv4 hA4 hok4 K2 KC;have HZ4:=zz9 KC4.out.z
     go_wp2_with (refine zm rfl (.tmp 6) (.tmp 44) rfl rfl (w.heap.size+1) rfl x.t x.n A4 x.s.length c4 rfl HZ4.out ?_;intro w5 g1)
     refine bodyPost_ret (qH Tryz.results229 _ _ (w.heap.size+1) rfl g1.here) rfl ?_;exact qQ (v:=x) rfl KC4.out.run KC4.out.mv HV4.out (by omega) HZ4.out g1 HN.out
  rw [decide_eq_false t2] at q2;have H3:=H2;rw [if_neg t1,if_neg t2] at H3;clear t1 t2;obtain ⟨AB,cB,hrgb,hxb⟩:=zlc KC.out.k (i:=1) (e:=b) rfl (o:=5) rfl;have HRGB:=zz9 hrgb;have KB:=zz9 (fun ro h=>HE.out c env b τ ro _ p ms _ hc KC.out.run KC.out.sc hxb HSB.out h);clear hrgb hxb;rcases qF H3 with ⟨t',τ',h1,h2⟩|⟨u,τ',h1,h2⟩
  ·have K2:=zz9 (KB.out _ h1)
   have H5:=zz9 h2;clear KB h1 H3 H2 h2
   go_wp2_with (first|(refine wpList_load_mid rfl 202 (.tmp 48) rfl kb (ko+5) rfl [.int .i64 b.op,.int .i64 b.num,.string (strN b.text),.slice AB b.kids.length cB,.int .i64 b.place] _ HRGB.out Tryz.underlying202 rfl kr ?_;refine Hid.out ?_)|fail)
   refine zz9 ?_
   go_wp2_with fail
   (with_reducible refine K2.out.mono ?_)
   rintro e w4 ⟨hM,rfl,c',hs⟩;exact ⟨rfl,zy H5.out (KC.out.mv.trans hM) hs⟩
  ·have K2:=zz9 (KB.out _ h1)
   have H5:=zz9 h2;clear KB h1 H3 H2 h2
   go_wp2_with (first|(refine wpList_load_mid rfl 202 (.tmp 48) rfl kb (ko+5) rfl [.int .i64 b.op,.int .i64 b.num,.string (strN b.text),.slice AB b.kids.length cB,.int .i64 b.place] _ HRGB.out Tryz.underlying202 rfl kr ?_;refine Hid.out ?_)|fail)
   refine zz9 ?_
   go_wp2_with fail
   (with_reducible refine K2.out.mono ?_)
   rintro e w4 ⟨hM,V4,rfl,hv4,hs4⟩;obtain ⟨A4,c4,rfl,hA4,hok4⟩:=xM hv4;have BZ4:=za w4 (.cells #[.int .i64 u.t,.int .i64 u.n,.slice A4 u.s.length c4] 41);have hu4:=hM.kept HU.out (by decide);have hu5:=zg BZ4 hu4 (zz7.1 hu4).1;replace KC:=zz9 ((KC.out.go hM hs4).on BZ4);have HV5:=zz9 ((HV.out.off hM.off).on BZ4);have HU5:=zz9 (hv4.on BZ4);have HL:Hid (v.s.length<=1000000/\u.s.length<=1000000):=⟨HLV.out.1.2,hok4.2⟩;obtain ⟨u0',u1',u2'⟩:=qr hu5;obtain ⟨z0,z1,z2⟩:=qr (heap_alloc_new w4 (.cells #[.int .i64 u.t,.int .i64 u.n,.slice A4 u.s.length c4] 41));obtain ⟨x0,x1,x2,x3,x4⟩:=kA KC.out.e;have HVH:=zz9 hu5;have HUH:=zz9 (heap_alloc_new w4 (.cells #[.int .i64 u.t,.int .i64 u.n,.slice A4 u.s.length c4] 41));clear hM hs4 hv4 hA4 hok4 K2 BZ4 hu4 hu5 u0 u1 u2 y0 y1 y2 y3 y4 q1 q2
   go_upto_region 12 with fail
   generalize w4.alloc (.cells #[.int .i64 u.t,.int .i64 u.n,.slice A4 u.s.length c4] 41) =w5 at *
   have h5:=H5.out;by_cases hp:text =[43]/\v.t =3
   ·rw [if_pos hp] at h5
    have q4:((strN text).toList == [43]) =true:=by rw [q3,decide_eq_true hp.1]
    have q5:(v.t == 3) =true:=by rw [hp.2];rfl
    clear q3 hp H5;have hwrap:IntKind.i64.wrap ((v.s.length:Int)+(u.s.length:Int)) =(v.s.length:Int)+(u.s.length:Int):=IntWalk.i64_in _ (by have:=HL.out;omega);have KT:Hid (∀ w',Calls Tryz.prog 261 #[.int .i64 ((v.s.length:Int)+(u.s.length:Int))] w' fun e w''=>e =.returned (.int .i64 (((v.s.length+u.s.length:Nat):Int) / 16))/\Below w'.heap.size w' w''):=fun w'=>by
     have h:=ztx ((v.s.length:Int)+(u.s.length:Int)) w' (by have:=HL.out;unfold xt;omega);rw [show max ((v.s.length:Int)+(u.s.length:Int)) 0 =((v.s.length+u.s.length:Nat):Int) by omega,zck (by omega)] at h;exact h
    go_wp2_with fail
    (with_reducible refine (KT.out _).mono ?_)
    rintro e w6 ⟨rfl,hb6⟩;have KC6:=zz9 (KC.out.on hb6);have HV6:=zz9 (HV5.out.on hb6);have HU6:=zz9 (HU5.out.on hb6);have u0a:=zb u0' hb6;have u1a:=zb u1' hb6;have u2a:=zb u2' hb6;have z0a:=zb z0 hb6;have z1a:=zb z1 hb6;have z2a:=zb z2 hb6;have hcost:(0:Int)<=((v.s.length+u.s.length:Nat):Int) / 16/\((v.s.length+u.s.length:Nat):Int) / 16<=1000000000:=by have:=HL.out;omega
    rcases qF h5 with ⟨t5,τ5,g1,g2⟩|⟨x5,τ5,g1,g2⟩
    ·have K6:=zz9 (xY X c τ' w6 _ hcost.1 hcost.2 _ KC6.out.run g1)
     have H6:=zz9 g2;clear g1 g2 h5 hcost hb6 KT u0' u1' u2' z0 z1 z2 KC HV5 HU5 HL
     generalize ((v.s.length+u.s.length:Nat):Int) / 16 =cst at *
     go_wp2_with fail
     (with_reducible refine K6.out.mono ?_)
     rintro e w7 ⟨hM,rfl,c',hs⟩;exact ⟨rfl,zy H6.out (KC6.out.mv.trans hM) hs⟩
    ·have K6:=zz9 (xY X c τ' w6 _ hcost.1 hcost.2 _ KC6.out.run g1)
     have H6:=zz9 g2;have HVH6:=zz9 (zg hb6 HVH.out (zz7.1 HVH.out).1);have HUH6:=zz9 (zg hb6 HUH.out (zz7.1 HUH.out).1);clear g1 g2 h5 hcost hb6 KT u0' u1' u2' z0 z1 z2 KC HV5 HU5 HL
     generalize ((v.s.length+u.s.length:Nat):Int) / 16 =cst at *
     go_wp2_with fail
     (with_reducible refine K6.out.mono ?_)
     rintro e w7 ⟨hM,x,rfl,rfl,hs⟩;obtain ⟨a0,a1,a2⟩:=qr (hM.kept HVH6.out (by decide));obtain ⟨b0,b1,b2⟩:=qr (hM.kept HUH6.out (by decide));have KC:=zz9 (KC6.out.go hM hs);have HV5:=zz9 (HV6.out.off hM.off);have HU5:=zz9 (HU6.out.off hM.off);obtain ⟨x0',x1',x2',x3',x4'⟩:=kA KC.out.e;clear hM hs K6 KC6 HV6 HU6 u0a u1a u2a z0a z1a z2a x0 x1 x2 x3 x4;cases hq2:twoE text v u with
     | none=>have h:=H6.out;rw [hq2] at h;cases h
     | some q=>
      go_wp2_with fail
      have KS:=zz9 (zcp text v u q hq2 _ _ _ HV5.out HU5.out);obtain ⟨pv,pt⟩:=q;have HP:Hid ((pt =0/\r =.ok pv τ5)\/(pt≠0/\r =.trap pt τ5)):=vG (by rw [<- hq2];exact H6.out);clear hq2
      (with_reducible refine KS.out.mono ?_)
      rintro e w7 ⟨pt',pn,A7,m7,c7,rfl,hpv,hb7⟩;dsimp only at hpv ⊢;obtain ⟨A8,c8,e8,hA8,hok8⟩:=xM hpv;injection e8 with e8
      simp only [Array.mk.injEq,List.cons.injEq,Value.int.injEq,Value.slice.injEq,true_and,and_true] at e8;obtain ⟨rfl,rfl,rfl,rfl,rfl⟩:=e8;have BZ7:=za w7 (.cells #[.int .i64 pv.t,.int .i64 pv.n,.slice A7 pv.s.length c7] 41);have K7:=zz9 ((KC.out.on hb7).on BZ7);have HV7:=zz9 (hpv.on BZ7);obtain ⟨s0,s1,s2⟩:=qr (heap_alloc_new w7 (.cells #[.int .i64 pv.t,.int .i64 pv.n,.slice A7 pv.s.length c7] 41));clear hpv hb7 hA8 hok8 KS KC HV5 HU5 BZ7
      go_wp2_with fail
      generalize w7.alloc (.cells #[.int .i64 pv.t,.int .i64 pv.n,.slice A7 pv.s.length c7] 41) =w8 at *
      rcases HP.out with ⟨rfl,h2⟩|⟨h1,h2⟩
      ·have H9:=zz9 h2
       clear h2 HP;refine (yV _).mono ?_;rintro e w9 ⟨rfl,rfl⟩;have HZ7:=zz9 K7.out.z
       go_wp2_with (refine zm rfl (.tmp 6) (.tmp 80) rfl rfl (w.heap.size+1) rfl pv.t pv.n A7 pv.s.length c7 rfl HZ7.out ?_;intro w3 g1)
       refine bodyPost_ret (qH Tryz.results229 _ _ (w.heap.size+1) rfl g1.here) rfl ?_;exact qQ (v:=pv) H9.out K7.out.run K7.out.mv HV7.out (by omega) HZ7.out g1 HN.out
      ·have H9:=zz9 h2
       clear h2 HP;refine (kt pt h1 _).mono ?_;rintro e w9 ⟨rfl,rfl⟩;exact ⟨rfl,zy H9.out K7.out.mv K7.out.run⟩
   ·rw [if_neg hp] at h5
    have H6:=zz9 h5;cases hq2:twoE text v u with
    | none=>rw [hq2] at h5;cases h5
    | some q=>
     have hg:(text =[43]->(v.t == 3) =false):=fun e=>by rw [beq_eq_false_iff_ne];exact fun h=>hp ⟨e,h⟩
     clear h5 H5 hp;by_cases e43:text =[43]
     ·have q5:=hg e43
      rw [decide_eq_true e43] at q3;clear hg e43
      go_wp2_with fail
      have KS:=zz9 (zcp text v u q hq2 _ _ _ HV5.out HU5.out);obtain ⟨pv,pt⟩:=q;have HP:Hid ((pt =0/\r =.ok pv τ')\/(pt≠0/\r =.trap pt τ')):=vG (by rw [<- hq2];exact H6.out);clear hq2
      (with_reducible refine KS.out.mono ?_)
      rintro e w7 ⟨pt',pn,A7,m7,c7,rfl,hpv,hb7⟩;dsimp only at hpv ⊢;obtain ⟨A8,c8,e8,hA8,hok8⟩:=xM hpv;injection e8 with e8
      simp only [Array.mk.injEq,List.cons.injEq,Value.int.injEq,Value.slice.injEq,true_and,and_true] at e8;obtain ⟨rfl,rfl,rfl,rfl,rfl⟩:=e8;have BZ7:=za w7 (.cells #[.int .i64 pv.t,.int .i64 pv.n,.slice A7 pv.s.length c7] 41);have K7:=zz9 ((KC.out.on hb7).on BZ7);have HV7:=zz9 (hpv.on BZ7);obtain ⟨s0,s1,s2⟩:=qr (heap_alloc_new w7 (.cells #[.int .i64 pv.t,.int .i64 pv.n,.slice A7 pv.s.length c7] 41));clear hpv hb7 hA8 hok8 KS KC HV5 HU5 BZ7
      go_wp2_with fail
      generalize w7.alloc (.cells #[.int .i64 pv.t,.int .i64 pv.n,.slice A7 pv.s.length c7] 41) =w8 at *
      rcases HP.out with ⟨rfl,h2⟩|⟨h1,h2⟩
      ·have H9:=zz9 h2
       clear h2 HP;refine (yV _).mono ?_;rintro e w9 ⟨rfl,rfl⟩;have HZ7:=zz9 K7.out.z
       go_wp2_with (refine zm rfl (.tmp 6) (.tmp 80) rfl rfl (w.heap.size+1) rfl pv.t pv.n A7 pv.s.length c7 rfl HZ7.out ?_;intro w3 g1)
       refine bodyPost_ret (qH Tryz.results229 _ _ (w.heap.size+1) rfl g1.here) rfl ?_;exact qQ (v:=pv) H9.out K7.out.run K7.out.mv HV7.out (by omega) HZ7.out g1 HN.out
      ·have H9:=zz9 h2
       clear h2 HP;refine (kt pt h1 _).mono ?_;rintro e w9 ⟨rfl,rfl⟩;exact ⟨rfl,zy H9.out K7.out.mv K7.out.run⟩
     ·rw [decide_eq_false e43] at q3
      clear hg e43
      go_wp2_with fail
      have KS:=zz9 (zcp text v u q hq2 _ _ _ HV5.out HU5.out);obtain ⟨pv,pt⟩:=q;have HP:Hid ((pt =0/\r =.ok pv τ')\/(pt≠0/\r =.trap pt τ')):=vG (by rw [<- hq2];exact H6.out);clear hq2
      (with_reducible refine KS.out.mono ?_)
      rintro e w7 ⟨pt',pn,A7,m7,c7,rfl,hpv,hb7⟩;dsimp only at hpv ⊢;obtain ⟨A8,c8,e8,hA8,hok8⟩:=xM hpv;injection e8 with e8
      simp only [Array.mk.injEq,List.cons.injEq,Value.int.injEq,Value.slice.injEq,true_and,and_true] at e8;obtain ⟨rfl,rfl,rfl,rfl,rfl⟩:=e8;have BZ7:=za w7 (.cells #[.int .i64 pv.t,.int .i64 pv.n,.slice A7 pv.s.length c7] 41);have K7:=zz9 ((KC.out.on hb7).on BZ7);have HV7:=zz9 (hpv.on BZ7);obtain ⟨s0,s1,s2⟩:=qr (heap_alloc_new w7 (.cells #[.int .i64 pv.t,.int .i64 pv.n,.slice A7 pv.s.length c7] 41));clear hpv hb7 hA8 hok8 KS KC HV5 HU5 BZ7
      go_wp2_with fail
      generalize w7.alloc (.cells #[.int .i64 pv.t,.int .i64 pv.n,.slice A7 pv.s.length c7] 41) =w8 at *
      rcases HP.out with ⟨rfl,h2⟩|⟨h1,h2⟩
      ·have H9:=zz9 h2
       clear h2 HP;refine (yV _).mono ?_;rintro e w9 ⟨rfl,rfl⟩;have HZ7:=zz9 K7.out.z
       go_wp2_with (refine zm rfl (.tmp 6) (.tmp 80) rfl rfl (w.heap.size+1) rfl pv.t pv.n A7 pv.s.length c7 rfl HZ7.out ?_;intro w3 g1)
       refine bodyPost_ret (qH Tryz.results229 _ _ (w.heap.size+1) rfl g1.here) rfl ?_;exact qQ (v:=pv) H9.out K7.out.run K7.out.mv HV7.out (by omega) HZ7.out g1 HN.out
      ·have H9:=zz9 h2
       clear h2 HP;refine (kt pt h1 _).mono ?_;rintro e w9 ⟨rfl,rfl⟩;exact ⟨rfl,zy H9.out K7.out.mv K7.out.run⟩
end
end Go.Proofs.YtcilgkdnjgmogaaGreatDoor
