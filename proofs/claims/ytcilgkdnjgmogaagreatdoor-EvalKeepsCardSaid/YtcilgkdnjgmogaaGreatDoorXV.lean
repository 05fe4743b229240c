/- A part of the proof. -/
import Derived.Test.YtcilgkdnjgmogaaGreatDoorXU
namespace Go.Proofs.YtcilgkdnjgmogaaGreatDoor
set_option maxRecDepth 100000
set_option maxHeartbeats 12800000
set_option linter.all false
variable {A A0:Option Addr} {B c cp g i m n n0:Nat} {M:Nat->Prop} {n1 t0:Int} {s:List Nat} {u v1 v2:Value} {w w' w0 w1 w2:World} {xs:List Value}
section
open Go.RowKit Go.MapKept
variable [Prt]
theorem zb1 {b:Nat} {es:List (List Nat×Value)} (h:qs w b es) (hs:Byn s) {t e:TypeId} {z:Value} (ht:Tryz.prog.underlying t =some (.map 9 e)) (hz:(zeroValue e).run Tryz.prog w =.ok z w) :
  (Instr.lookup t (.map (some b)) (.string (strN s)) false).run Tryz.prog w =.ok ((seek es s).getD z) w:=by
 obtain ⟨arr,clock,h1,h2,h3⟩:=h;have hd:Tryz.prog.underlying 9 =some .string:=Tryz.underlying9;have hk:IsKey .string (.string (strN s)):=trivial;rcases vD hs arr.toList es 0 h2 h3 with ⟨g1,g2⟩|⟨v,j,g1,g2⟩
 ·rw [g1]
  simp [Instr.lookup,run_underlying ht,MapKept.run_getObj_map h1,MapKept.run_checkKey hd hk,MapKept.run_findKey hd g2,Result.andThen,hz]
 ·rw [g1]
  simp [Instr.lookup,run_underlying ht,MapKept.run_getObj_map h1,MapKept.run_checkKey hd hk,MapKept.run_findKey hd g2,Result.andThen]
theorem Mv.kept {cs:Array Value} {T:TypeId} {z:Nat×Nat} (h:Mv n0 M w w') (hw:w.heap[g]? =some (.cells cs T z)) (hT:¬ (T =92\/T =95\/T =154\/T =33\/T =105)):w'.heap[g]? =some (.cells cs T z):=by
 rw [h.keep g (zz7.1 hw).1 (jX hw hT) fun _=>⟨_,_,_,hw⟩];exact hw
theorem zg {o:Obj} (h:Below B w w') (hw:w.heap[g]? =some o) (hB:g < B):w'.heap[g]? =some o:=by
 rw [h.block g hB];exact hw
theorem qH {fn:Func} {s:Nat} (h:fn.results =#[.cell s 41]) (tmps:Array Value) (w:World) (g:Nat) {t n:Int} {k:Value} (hp:tmps.getD s undef =.pointer (some ⟨g,0,none⟩)) (hw:w.heap[g]? =some (.cells #[.int .i64 t,.int .i64 n,k] 41 (0,0))) :
  (results fn tmps).run Tryz.prog w =.ok (VV t n k) w:=zU (cs:=[_,_,_]) h Tryz.underlying41 rfl zu tmps w g hp (qI hw)
theorem qW {fn:Func} {s u:Nat} (h:fn.results =#[.cell s 41,.tmp u]) (tmps:Array Value) (w:World) (g:Nat) {t n:Int} {k:Value} (hp:tmps.getD s undef =.pointer (some ⟨g,0,none⟩)) (hw:w.heap[g]? =some (.cells #[.int .i64 t,.int .i64 n,k] 41 (0,0))) :
  (results fn tmps).run Tryz.prog w =.ok (.tuple #[VV t n k,tmps.getD u undef]) w:=zP (cs:=[_,_,_]) h Tryz.underlying41 rfl zu tmps w g hp (qI hw)
theorem zpz (w:World):(w.alloc zO).heap[w.heap.size]? =some (.cells #[.int .i64 0,.int .i64 0,.slice none 0 0] 41 (0,0)):=heap_alloc_new w _
theorem VaC.var {v:Va} {t n:Int} (h:VaC w v u) (hv:VSt g t n (.slice A m cp) w w') {m0 cp0:Nat} (hw:w.heap[g]? =some (.cells #[.int .i64 t0,.int .i64 n1,.slice A0 m0 cp0] 41 (0,0))):VaC w' v u:=
 h.off (n0:=0) (hv.off (Nat.zero_le _) xF hw xF)
def zuf (w:World) (v:Va) (e:Ending) (w':World):Prop:=∃ u,e =.returned u/\VaC w' v u/\Below w.heap.size w w'
theorem zqa (n0:Nat) (w:World) (a:Option Addr) (ms:List Nat) (env:Env) (s:List Nat) (v:Va) (hs:ScAt n0 w (.pointer a) ms env) (hy:Byn s) (hl:kQ env s =some v) :
  Calls Tryz.prog 228 #[.pointer a,.string (strN s)] w (zuf w v):=by
 have BZ:=za w zO;have K:=zz9 (zgp n0 (w.alloc zO) a ms env s v (hs.on BZ) hy hl);have HT:=zz9 (zpz w);have HY:=zz9 hy;have HB:=zz9 BZ;have HS:Hid (w.heap.size < (w.alloc zO).heap.size):=by show _ < _;simp
 clear hs hl BZ hy;go_enter Tryz.func228,Tryz.ntmps228
 go_wp2_with fail
 generalize w.alloc (.cells #[.int .i64 0,.int .i64 0,.slice none 0 0] 41) =w0 at *
 (with_reducible refine K.out.mono ?_)
 rintro e w1 ⟨m,es,u,rfl,hw,hm,hse,hv,hb⟩;obtain ⟨k,A,kc,rfl,rfl,hk,hfit⟩:=zbj hv;have hrun:=zb1 hm HY.out Tryz.underlying204 (show (zeroValue 41).run Tryz.prog w1 =.ok (VV 0 0 kB) w1 by simp [Tryz.zeroValue41]);rw [hse] at hrun;simp only [Option.getD_some] at hrun;have hT1:=zg hb HT.out HS.out;have HT1:=zz9 hT1;have HV:=zz9 hv;have HB1:=zz9 (zd HB.out hb HB.out.size);clear hw hm hse hv hb hk HT hT1
 go_wp2_with (refine zm rfl (.tmp 4) (.tmp 9) rfl rfl w.heap.size rfl v.t v.n A v.s.length kc rfl HT1.out ?_;intro w2 g1)
 refine bodyPost_ret (qH Tryz.results228 _ _ w.heap.size rfl g1.here) rfl ?_;exact ⟨_,rfl,HV.out.var g1 HT1.out,HB1.out.trans (g1.below (zzA0 _))⟩
theorem zpi:∀ {a b:List (List Nat×Value)},a.map (fun p=>(Value.string (strN p.1),p.2)) =b.map (fun p=>(Value.string (strN p.1),p.2))->(∀ p∈a,Byn p.1)->(∀ p∈b,Byn p.1)->a =b
 | [],[],_,_,_=>rfl
 | [],q::b,h,_,_=>by simp at h
 | p::a,[],h,_,_=>by simp at h
 | (s,x)::a,(s',y)::b,h,ha,hb=>by
  simp only [List.map_cons,List.cons.injEq,Prod.mk.injEq,Value.string.injEq] at h;obtain ⟨⟨h1,h2⟩,h3⟩:=h;have e1:s =s':=zc2 (ha _ (List.mem_cons_self ..)) (hb _ (List.mem_cons_self ..)) h1;have e2:a =b:=zpi h3 (fun p hp=>ha p (List.mem_cons_of_mem _ hp)) (fun p hp=>hb p (List.mem_cons_of_mem _ hp));rw [e1,h2,e2]
theorem zdg:∀ {env env':Env} {s:List Nat} {v:Va},setE env s v =some env'->∃ u,kQ env s =some u
 | [],env',s,v,h=>by cases h
 | f::r,env',s,v,h=>by
  unfold setE at h;unfold kQ;cases hs:seek f s with
  | some u=>exact ⟨u,rfl⟩
  | none=>
   rw [hs] at h;cases hr:setE r s v with
   | none=>rw [hr] at h;cases h
   | some r'=>exact zdg hr
theorem zth {v:Va} {es:List (List Nat×Value)} (hme:qs w m es) (hm1:qs w' m (updV es s u)) (hv:VaC w v u) (hM:Mv n0 (· =m) w w') :
  ∀ {p:Value} {ms:List Nat} {env env':Env},ScAt n0 w p ms env->kM ms env s =some m->setE env s v =some env'->ScAt n0 w' p ms env':=by
 intro p ms env env' h
 induction h generalizing env' with
 | nil=>intro hw;cases hw
 | @cons b m' q ms f env hb hmv h0 hne hrest ih=>
  intro hw hs;have hcell:w'.heap[b]? =some (.cells #[.map (some m'),q] 206 (0,0)):=by
   rw [hM.keep _ (zz7.1 hb).1 (jX hb (by decide)) fun _=>⟨_,_,_,hb⟩];exact hb
  unfold kM at hw;unfold setE at hs;cases hf:seek f s with
  | some x=>
   rw [hf] at hw hs;injection hw with hw
   injection hs with hs
   subst hw hs;obtain ⟨es',h1,h2⟩:=hmv;have he:es' =es:=by
    obtain ⟨arr,cl,a1,a2,a3⟩:=h1;obtain ⟨arr',cl',b1,b2,b3⟩:=hme;rw [a1] at b1;injection b1 with b1
    injection b1 with b1 _
    subst b1;exact zpi (a2.symm.trans b2) a3 b3
   subst he;exact .cons hcell ⟨_,hm1,(h2.upd hv).off hM.off⟩ h0 hne (hrest.mv hM fun m'' h' e=>hne (by rw [<- e];exact h'))
  | none=>
   rw [hf] at hw hs;cases hr:setE env s v with
   | none=>rw [hr] at hs;cases hs
   | some r'=>
    rw [hr] at hs;injection hs with hs
    subst hs;exact .cons hcell (hmv.mv hM fun e=>hne (by rw [e];exact jA hw)) h0 hne (ih hw hr)
theorem zku {t n:Int} {k:Value} {es:List (List Nat×Value)} (hb:Below w0.heap.size w0 w1) (hz:w0.heap[g]? =some (.cells #[.int .i64 t,.int .i64 n,k] 41 (0,0))) (hl:g < w0.heap.size) (hm:qs w1 m es) (hg:w1.grownBy w2 (some m)) :
  w2.cell? ⟨g,0,none⟩ =some (.int .i64 t)/\w2.cell? ⟨g,1,none⟩ =some (.int .i64 n)/\w2.cell? ⟨g,2,none⟩ =some k:=by
 have h1:=zg hb hz hl;refine qr ?_;rw [hg.block g (zzA1 hl hb.size) fun e=>?_]
 ·exact h1
 ·injection e with e
  obtain ⟨arr,c,ho⟩:=hm.obj;rw [<- e,h1] at ho;cases ho
theorem zvc (X:Cx10) (c:Nat) (σ:Stt) (w:World) (a:Option Addr) (ms:List Nat) (env env':Env) (s:List Nat) (v:Va) (u:Value)
  (hr:RunS X c σ w) (hs:ScAt X.n0 w (.pointer a) ms env) (hg:X.g ∉ ms) (hy:Byn s) (hv:VaC w v u) (he:setE env s v =some env') :
  Calls Tryz.prog 156 #[.pointer a,.string (strN s),u] w fun e w'=>e =.returned (.tuple #[])/\Mv X.n0 (·∈ms) w w'/\ScAt X.n0 w' (.pointer a) ms env'/\RunS X c σ w':=by
 obtain ⟨k,A,kc,rfl,rfl,hk,hfit⟩:=zbj hv;have bA:=za w (.cells #[.int .i64 v.t,.int .i64 v.n,.slice A v.s.length kc] 41);have hz:=heap_alloc_new w (.cells #[.int .i64 v.t,.int .i64 v.n,.slice A v.s.length kc] 41);have hL:w.heap.size < (w.alloc (.cells #[.int .i64 v.t,.int .i64 v.n,.slice A v.s.length kc] 41)).heap.size:=by simp
 have hV:=hv.on bA;have hR:=hr.on bA;have hS:=hs.on bA;obtain ⟨w0,hw0⟩:∃ w0,w.alloc (.cells #[.int .i64 v.t,.int .i64 v.n,.slice A v.s.length kc] 41) =w0:=⟨_,rfl⟩;rw [hw0] at bA hz hL hV hR hS;have HW0:=zz9 hw0;have HB:=zz9 bA;have HZ:=zz9 hz;have HV:=zz9 hV;have HR:=zz9 hR;have HS:=zz9 hS;have HE:=zz9 he;have HY:=zz9 hy;have HG:=zz9 hg;obtain ⟨x,hl⟩:=zdg he;have HK:Hid (∀ w',Below w0.heap.size w0 w'->Calls Tryz.prog 192 #[.pointer a,.string (strN s)] w' (HadP w' ms env s x)):=fun w' hb=>zgp X.n0 w' a ms env s x (hS.on hb) hy hl;have HL:=zz9 hL;obtain ⟨z0,z1,z2⟩:=qr hz;have hbl:Below w0.heap.size w0 w0.drew:=(Below.refl _ _).drew;clear hv hk hr hs hz he hy hl hg bA hL hV hR hS hw0;go_enter Tryz.func156,Tryz.ntmps156
 go_upto_region 1 with fail
 rw [HW0.out];have HQ:Hid (∀ w',Below w0.heap.size w0 w'->w'.cell? ⟨w.heap.size,0,none⟩ =some (.int .i64 v.t)/\w'.cell? ⟨w.heap.size,1,none⟩ =some (.int .i64 v.n)/\w'.cell? ⟨w.heap.size,2,none⟩ =some (.slice A v.s.length kc)):=fun w' hb=>⟨zb z0 hb,zb z1 hb,zb z2 hb⟩
 go_region_held3 (fun w'=>w'.cell? ⟨w.heap.size,0,none⟩ =some (.int .i64 v.t)/\w'.cell? ⟨w.heap.size,1,none⟩ =some (.int .i64 v.n)/\w'.cell? ⟨w.heap.size,2,none⟩ =some (.slice A v.s.length kc))
  (first|(with_reducible exact HQ.out _ hbl)|(with_reducible exact HQ2.out))
  (first|(go_at_call 192;refine (HK.out _ hbl).mono ?_;rintro e w1 ⟨m,es,x',rfl,hw,hm,hse,hxv,hb1⟩;replace hbl:=zd hbl hb1 hbl.size;obtain ⟨w2,hup,hm2,hg2,hz2⟩:=zf2 hm HY.out Tryz.underlying204 (VV v.t v.n (.slice A v.s.length kc));have HQ2:Hid (w2.cell? ⟨w.heap.size,0,none⟩ =some (.int .i64 v.t)/\w2.cell? ⟨w.heap.size,1,none⟩ =some (.int .i64 v.n)/\w2.cell? ⟨w.heap.size,2,none⟩ =some (.slice A v.s.length kc)):=zku hbl HZ.out HL.out hm hg2;have HM:=zz9 hm;have HM2:=zz9 hm2;have HG2:=zz9 hg2;have HWM:=zz9 hw;clear hm hm2 hg2 hz2 hse hxv hb1 hw))
 go_end0
 have hmem:=HS.out.ms m (jA HWM.out);obtain ⟨arr,cl,ho⟩:=HM.out.obj;have hM1:Mv X.n0 (· =m) w1 w2:=Mv.map HG2.out ho hmem.1 rfl;exact ⟨rfl,(Mv.of (HB.out.trans (hbl.mono HB.out.size))).trans (hM1.less fun b _ h=>by rw [show b =m from h];exact jA HWM.out),zth HM.out HM2.out (HV.out.on hbl) hM1 (HS.out.on hbl) HWM.out HE.out,(HR.out.on hbl).map HG2.out ho hmem.1 fun e=>HG.out (by rw [<- e];exact jA HWM.out)⟩
def vaC (v:Va) (k:Value):List Value:=[.int .i64 v.t,.int .i64 v.n,k]
def vasC (vs:List Va) (ks:List Value):List Value:=(List.zipWith vaC vs ks).flatten
structure ArgX (n0:Nat) (w:World) (V:Value) (vs:List Va):Prop where
 ex:∃ (D:Nat->Prop) (ks:List Value),ks.length =vs.length/\RowF w D vs.length (vasC vs ks) V/\(∀ (i:Nat) (v:Va) (k:Value),vs[i]? =some v->ks[i]? =some k->SB w w.heap.size k v.s/\Vok v)/\∀ b,D b->b < w.heap.size/\¬ Sq n0 w b/\(b < n0\/Cel w b)
theorem ArgX.mv {V:Value} {vs:List Va} (h:ArgX n0 w V vs) (hm:Mv n0 M w w') (hM:∀ b,M b->n0<=b):ArgX n0 w' V vs:=by
 obtain ⟨D,ks,h1,h2,h3,h4⟩:=h.ex;have hk:∀ b,D b->w'.heap[b]? =w.heap[b]?:=fun b hb=>hm.keep b (h4 b hb).1 (h4 b hb).2.1 fun hMb=>(h4 b hb).2.2.elim (fun h=>absurd (hM b hMb) (by omega)) id;refine ⟨D,ks,h1,h2.same hk,fun i v k a b=>⟨(h3 i v k a b).1.off hm.off,(h3 i v k a b).2⟩,fun b hb=>?_⟩;obtain ⟨g1,g2,g3⟩:=h4 b hb;refine ⟨zzA1 g1 hm.size,fun h=>g2 ((Sq.same (hk b hb)).1 h),g3.imp id fun ⟨cs,T,z,h⟩=>⟨cs,T,z,by rw [hk b hb];exact h⟩⟩
theorem ArgX.on {V:Value} {vs:List Va} (h:ArgX n0 w V vs) (hb:Below w.heap.size w w'):ArgX n0 w' V vs:=h.mv (M:=fun _=>False) (.of hb) fun _ h=>h.elim
theorem ArgX.len {V:Value} {vs:List Va} (h:ArgX n0 w V vs):∃ A c,V =.slice A vs.length c:=by
 obtain ⟨D,ks,h1,h2,_⟩:=h.ex;exact h2.slice5
theorem ArgX.get {V:Value} {vs:List Va} (h:ArgX n0 w V vs) {v:Va} (hv:vs[i]? =some v):∃ (kb ko c:Nat) (A0:Option Addr) (c0:Nat),V =.slice (some ⟨kb,ko,none⟩) vs.length c/\vs.length<=c/\c<=maxLen /\
  w.rangeAt kb (ko+i*3) (vaC v (.slice A0 v.s.length c0))/\VaC w v (VV v.t v.n (.slice A0 v.s.length c0)):=by
 obtain ⟨D,ks,hk,h1,h2,_⟩:=h.ex;have hi:=(List.getElem?_eq_some_iff.1 hv).1;have hk':ks[i]? =some ks[i]:=List.getElem?_eq_getElem (by omega);generalize ks[i] =k at hk';have hg:=fun j hj=>ky (f:=vaC) (m:=3) (fun _ _=>rfl) vs ks i j v k hv hk' hj;obtain ⟨g0,g1⟩:=h2 i v k hv hk';obtain ⟨A0,c0,rfl,_⟩:=id g0
 obtain ⟨b,o,c,rfl,a1,a2,a3,a4⟩:=h1.plain5 (by
  intro e0;have:=hg 0 (by omega);unfold vasC at e0;rw [e0] at this
  simp [vaC] at this)
 refine ⟨b,o,c,A0,c0,rfl,a1,a2,fun j x hx=>?_,⟨_,rfl,g0,g1⟩⟩;have hj:j < 3:=by
  have:=(List.getElem?_eq_some_iff.1 hx).1;simpa [vaC] using this
 rw [Nat.add_assoc];exact a4 _ x ((hg j hj).trans hx)
theorem zca (w:World):VaC w qe (VV 0 0 kB):=⟨_,rfl,SB.nil _ _,by unfold fits qe;decide,by simp [qe]⟩
theorem zt3 {b o:Nat} {x y z:Value} (h:w.rangeAt b o [x,y,z]):w.cell? ⟨b,o,none⟩ =some x/\w.cell? ⟨b,o+1,none⟩ =some y/\w.cell? ⟨b,o+2,none⟩ =some z:=⟨h 0 _ rfl,h 1 _ rfl,h 2 _ rfl⟩
theorem ziy (n0:Nat) (w:World) (V:Value) (vs:List Va) (hx:ArgX n0 w V vs):Calls Tryz.prog 157 #[V] w (zuf w (zay vs)):=by
 have BZ:=za w zO;have HT:=zz9 (zpz w);cases vs with
 | nil=>
  obtain ⟨A,c,rfl⟩:=hx.len;have HB:=zz9 BZ;clear hx BZ;simp only [List.length_nil];go_enter Tryz.func157,Tryz.ntmps157
  go_wp2_with (refine zm rfl (.tmp 2) (.tmp 6) rfl rfl w.heap.size rfl 0 0 none 0 0 rfl HT.out ?_;intro w2 g1)
  refine bodyPost_ret (qH Tryz.results157 _ _ w.heap.size rfl g1.here) rfl ?_;exact ⟨_,rfl,zca _,HB.out.trans (g1.below (zzA0 _))⟩
 | cons v vs=>
  obtain ⟨kb,ko,c,A0,c0,rfl,q1,q2,hrg,hv⟩:=hx.get (i:=0) (v:=v) rfl;obtain ⟨y0,y1,y2⟩:=zt3 (w:=w) (by simpa [vaC] using hrg);have x0:=zb y0 BZ;have x1:=zb y1 BZ;have x2:=zb y2 BZ;have HV:=zz9 (hv.on BZ);have HB:=zz9 BZ;have hlen:((((v::vs).length:Nat):Int) == 0) =false:=by rw [List.length_cons];simp;try omega
  have hlt:(0:Int) < (((v::vs).length:Nat):Int):=by rw [List.length_cons];omega
  clear hx BZ hrg hv y0 y1 y2
  generalize (v::vs).length =n at *
  go_enter Tryz.func157,Tryz.ntmps157
  go_wp2_with (refine zm rfl (.tmp 2) (.tmp 9) rfl rfl w.heap.size rfl v.t v.n A0 v.s.length c0 rfl HT.out ?_;intro w2 g1)
  refine bodyPost_ret (qH Tryz.results157 _ _ w.heap.size rfl g1.here) rfl ?_;exact ⟨_,rfl,HV.out.var g1 HT.out,HB.out.trans (g1.below (zzA0 _))⟩
def zub (w:World) (p:List Int×Bool) (x:Value):Prop:=∃ V,x =.tuple #[V,.bool p.2]/\SB w w.heap.size V p.1
def getG (lim:Int) (k:List Int) (σ:Stt):Ev (List Int×Bool):=(useE lim 2 σ).bind fun _ σ=>qv (getM σ.cur k,hasM σ.cur k) σ
theorem qF {α β:Type} {m:Ev α} {f:α->Stt->Ev β} {r:Ou β} (h:m.bind f =some r):(∃ t τ,m =some (.trap t τ)/\r =.trap t τ)\/∃ a τ,m =some (.ok a τ)/\f a τ =some r:=by
 match m,h with
 | some (.trap t τ),h=>exact .inl ⟨t,τ,rfl,by injection h with h;exact h.symm⟩
 | some (.ok a τ),h=>exact .inr ⟨a,τ,rfl,h⟩
theorem zgs (X:Cx10) (c:Nat) (σ:Stt) (w:World) (u:Value) (k:List Int) (r:Ou (List Int×Bool)) (hr:RunS X c σ w) (hk:SB w w.heap.size u k) (hm:getG X.lim k σ =some r) :
  Calls Tryz.prog 263 #[.pointer (some ⟨X.R,0,none⟩),u] w (qR X c NoM zub w r):=by
 obtain ⟨Ak,ck,rfl,_⟩:=id hk;have HR:=zz9 hr;have HK:=zz9 hk;rcases qF hm with ⟨t,τ,h1,h2⟩|⟨a,τ,h1,h2⟩
 ·have K:=zz9 (xY X c σ w 2 (by decide) (by decide) _ hr h1)
  have H2:=zz9 h2;clear hr hk hm h1 h2;go_enter Tryz.func263,Tryz.ntmps263
  go_wp2_with fail
  (with_reducible refine K.out.mono ?_)
  rintro e w1 ⟨hM,rfl,c',hs⟩;exact ⟨rfl,zy H2.out hM hs⟩
 ·have K:=zz9 (xY X c σ w 2 (by decide) (by decide) _ hr h1)
  have H2:Hid (r =.ok (getM τ.cur k,hasM τ.cur k) τ):=by show _ =_;injection h2 with h2;exact h2.symm
  clear hr hk hm h1 h2;go_enter Tryz.func263,Tryz.ntmps263
  go_wp2_with fail
  (with_reducible refine K.out.mono ?_)
  rintro e w1 ⟨hM,v,rfl,rfl,hs⟩;obtain ⟨z0,z1,z2,z3,z4⟩:=xq hs;have K2:=zz9 (zvw X.n0 w1 X.J τ.hs τ.cur hs.jr Ak k ck (HK.out.off hM.off));have HS:=zz9 hs;have HM:=zz9 hM;clear hs hM K
  go_wp2_with fail
  (with_reducible refine K2.out.mono ?_)
  rintro e w2 ⟨V,rfl,h3⟩;have H3:=zz9 h3;clear h3 z0 z1 z2 z3 z4 K2
  go_wp2
  go_ret2
  exact wJ H2.out (HM.out.then H3.out.2.2) ⟨V,rfl,zd4 H3.out.1 H3.out.2.1⟩ (HS.out.on H3.out.2.2)
theorem zu2 (X:Cx10) (c:Nat) (σ:Stt) (w:World) (u:Value) (k:List Int) (r:Ou Unit) (hr:RunS X c σ w) (hk:SB w w.heap.size u k) (hm:delG X.lim k σ =some r) :
  Calls Tryz.prog 159 #[.pointer (some ⟨X.R,0,none⟩),u] w (qR X c NoM QUn w r):=by
 obtain ⟨Ak,ck,rfl,_⟩:=id hk;have HR:=zz9 hr;have HK:=zz9 hk;rcases qF hm with ⟨t,τ,h1,h2⟩|⟨a,τ,h1,h2⟩
 ·have K:=zz9 (xY X c σ w 4 (by decide) (by decide) _ hr h1)
  have H2:=zz9 h2;clear hr hk hm h1 h2;go_enter Tryz.func159,Tryz.ntmps159
  go_wp2_with fail
  (with_reducible refine K.out.mono ?_)
  rintro e w1 ⟨hM,rfl,c',hs⟩;exact ⟨rfl,zy H2.out hM hs⟩
 ·have K:=zz9 (xY X c σ w 4 (by decide) (by decide) _ hr h1)
  have H2:Hid (r =.ok () { τ with hs:=τ.hs++[τ.cur],cur:=delM τ.cur k }):=by show _ =_;injection h2 with h2;exact h2.symm
  have HC:Hid (((τ.hs++[τ.cur]).length:Int)*4<=90000+τ.used):=by
   show _<=_;have h0:=hr.cnt;unfold useE at h1
   split at h1
   ·cases h1
   ·injection h1 with h1
    injection h1 with _ h1
    rw [<- h1];simp;omega
  clear hr hk hm h1 h2;go_enter Tryz.func159,Tryz.ntmps159
  go_wp2_with fail
  (with_reducible refine K.out.mono ?_)
  rintro e w1 ⟨hM,v,rfl,rfl,hs⟩;obtain ⟨z0,z1,z2,z3,z4⟩:=xq hs;have hl:τ.hs.length < 50000:=by have:=hs.cnt;have:=hs.u1;have:=hs.u2;omega
  have K2:=zz9 (zvz X.n0 w1 X.J τ.hs τ.cur hs.jr hl Ak k ck (HK.out.off hM.off));have HS:=zz9 hs;have HM:=zz9 hM;clear hs hM K hl
  go_wp2_with fail
  (with_reducible refine K2.out.mono ?_)
  rintro e w2 ⟨rfl,hC⟩;have H3:=zz9 (HS.out.chd hC HC.out);have HM2:=zz9 (HM.out.trans (Mv.chd HS.out hC));clear hC z0 z1 z2 z3 z4 K2
  go_wp2
  go_end0
  exact wJ H2.out HM2.out rfl H3.out
theorem zqv (a b:Nat) (ha:a<=1000000) (hb:b<=1000000):putN a b =xC a b:=by
 unfold putN xC;have h1:up 2147483648 (a:Int) =a:=by unfold up;omega
 have h2:up 2147483648 (b:Int) =b:=by unfold up;omega
 rw [h1,h2,zck (by omega)];simp
theorem zh2 (cur:List PR) (k v:List Int):putE cur k v =0\/putE cur k v =1\/putE cur k v =71:=by
 unfold putE
 repeat' split
 all_goals simp
theorem zvi (X:Cx10) (c:Nat) (σ:Stt) (w:World) (u u':Value) (k v:List Int) (r:Ou Unit) (hr:RunS X c σ w) (hk:SB w w.heap.size u k) (hv:SB w w.heap.size u' v) (hkl:k.length<=1000000) (hvl:v.length<=1000000) (hm:putG X.lim k v σ =some r) :
  Calls Tryz.prog 158 #[.pointer (some ⟨X.R,0,none⟩),u,u'] w (qR X c NoM QUn w r):=by
 obtain ⟨Ak,ck,rfl,_⟩:=id hk;obtain ⟨Av,cv,rfl,_⟩:=id hv;have K0:=zz9 (zvp (k.length:Int) (v.length:Int) w);rw [zqv _ _ hkl hvl] at K0;have hcost:0<=xC k.length v.length/\xC k.length v.length<=1000000000:=by unfold xC;omega
 have HR:=zz9 hr;have HK:=zz9 hk;have HV:=zz9 hv;unfold putG at hm;rcases qF hm with ⟨t,τ,h1,h2⟩|⟨a,τ,h1,h2⟩
 ·have K:Hid (∀ w',Below w.heap.size w w'->Calls Tryz.prog 152 #[.pointer (some ⟨X.R,0,none⟩),.int .i64 (xC k.length v.length)] w' (qR X c NoM QUn w' (.trap t τ))):=fun w' hb=>xY X c σ w' _ hcost.1 hcost.2 _ (hr.on hb) h1
  have H2:=zz9 h2;clear hr hk hv hm h1 h2 hcost hkl hvl
  generalize xC k.length v.length =pc at *
  go_enter Tryz.func158,Tryz.ntmps158
  go_wp2_with fail
  (with_reducible refine K0.out.mono ?_)
  rintro e w1 ⟨rfl,hb1⟩;have HB:=zz9 hb1;have K1:=zz9 (K.out w1 hb1);clear hb1 K
  go_wp2_with fail
  (with_reducible refine K1.out.mono ?_)
  rintro e w2 ⟨hM,rfl,c',hs⟩;exact ⟨rfl,zy H2.out ((Mv.of HB.out).trans hM) hs⟩
 ·have K:Hid (∀ w',Below w.heap.size w w'->Calls Tryz.prog 152 #[.pointer (some ⟨X.R,0,none⟩),.int .i64 (xC k.length v.length)] w' (qR X c NoM QUn w' (.ok a τ))):=fun w' hb=>xY X c σ w' _ hcost.1 hcost.2 _ (hr.on hb) h1
  have HC:Hid (((τ.hs++[τ.cur]).length:Int)*4<=90000+τ.used):=by
   show _<=_;have h0:=hr.cnt;have hp:=j9 k.length v.length;unfold useE at h1
   split at h1
   ·cases h1
   ·injection h1 with h1
    injection h1 with _ h1
    rw [<- h1];simp;omega
  have H2:=zz9 h2;clear hr hk hv hm h1 h2 hcost hkl hvl
  generalize xC k.length v.length =pc at *
  go_enter Tryz.func158,Tryz.ntmps158
  go_wp2_with fail
  (with_reducible refine K0.out.mono ?_)
  rintro e w1 ⟨rfl,hb1⟩;have HB:=zz9 hb1;have K1:=zz9 (K.out w1 hb1);clear hb1 K
  go_wp2_with fail
  (with_reducible refine K1.out.mono ?_)
  rintro e w2 ⟨hM,x,rfl,rfl,hs⟩;obtain ⟨z0,z1,z2,z3,z4⟩:=xq hs;have hl:τ.hs.length < 50000:=by have:=hs.cnt;have:=hs.u1;have:=hs.u2;omega
  have hM1:=(Mv.of (n0:=X.n0) (M:=NoM) HB.out).trans hM;have K2:=zz9 (zvt X.n0 w2 X.J τ.hs τ.cur hs.jr hl Ak k ck Av v cv (HK.out.off hM1.off) (HV.out.off hM1.off));have HS:=zz9 hs;have HM:=zz9 hM1;clear hs hM K0 K1 hl hM1
  go_wp2_with fail
  (with_reducible refine K2.out.mono ?_)
  rintro e w3 ⟨rfl,hC,hN⟩;have HCC:=zz9 hC;have HNN:=zz9 hN;have H3:=zh2 τ.cur k v;have HP:Hid (wO k v τ =some r):=H2.out;clear hC hN z0 z1 z2 z3 z4 K2;unfold wO at HP;rcases H3 with e0|e0|e0
  ·rw [e0] at HCC HP ⊢
   have HX:=HS.out.chd (HCC.out rfl) HC.out;have HR2:Hid (r =.ok () { τ with hs:=τ.hs++[τ.cur],cur:=putM τ.cur k v }):=by
    show _ =_;have h:=HP.out;rw [if_pos rfl] at h;injection h with h
    exact h.symm
   have HX2:=zz9 HX;have HM2:=zz9 (HM.out.trans (Mv.chd HS.out (HCC.out rfl)));clear HX e0
   go_wp2
   go_end0
   exact wJ HR2.out HM2.out rfl HX2.out
  ·rw [e0] at HNN HP ⊢
   have hb:=HNN.out (by decide);have HR2:Hid (r =.trap 6 τ):=by
    show _ =_;have h:=HP.out;rw [if_neg (by decide),if_pos rfl] at h;injection h with h
    exact h.symm
   have HX2:=zz9 (HS.out.on hb);have HM2:=zz9 (HM.out.then hb);clear hb e0
   go_wp2_with fail
   refine (kt 6 (by decide) _).mono ?_;rintro e w4 ⟨rfl,rfl⟩;exact ⟨rfl,zy HR2.out HM2.out HX2.out⟩
  ·rw [e0] at HNN HP ⊢
   have hb:=HNN.out (by decide);have HR2:Hid (r =.trap 5 τ):=by
    show _ =_;have h:=HP.out;rw [if_neg (by decide),if_neg (by decide)] at h;injection h with h
    exact h.symm
   have HX2:=zz9 (HS.out.on hb);have HM2:=zz9 (HM.out.then hb);clear hb e0
   go_wp2_with fail
   refine (kt 5 (by decide) _).mono ?_;rintro e w4 ⟨rfl,rfl⟩;exact ⟨rfl,zy HR2.out HM2.out HX2.out⟩
end
section
open Go.RowKit Go.MapKept
variable [Prt]
def Rw3 (lo:Nat) (w:World) (T:TypeId) (v:Value) (n:Nat) (xs:List Value):Prop:=
 w.ownsRow lo T 3 v n xs/\∀ g,v.ownBlock =some g->∀ cs T z,w.heap[g]? =some (.cells cs T z)->NoI cs
theorem Rw3.nil (lo:Nat) (w:World) (T:TypeId):Rw3 lo w T (.slice none 0 0) 0 []:=⟨World.ownsRow_nil _ _ _ _,fun g h=>by cases h⟩
theorem Rw3.at {lo:Nat} {T:TypeId} {v:Value} (h:Rw3 lo w T v n xs):∀ x∈xs,∀ (_:Unit) y,x≠Value.int .u8 y:=by
 intro x hx;rcases h.1.2 with ⟨rfl,h2⟩|⟨g,cap,cur,rfl,h2,h3,_,_,_,h4⟩
 ·have:xs =[]:=List.eq_nil_of_length_eq_zero (by rw [h.1.1];omega)
  subst this;cases hx
 ·exact h.2 g rfl _ _ _ h3 x (by rw [<- h4] at hx;exact Array.mem_toList_iff.1 (List.mem_of_mem_take hx))
theorem Rw3.spb {n0 lo:Nat} {v:Value} (h:Rw3 lo w 41 v n xs) (hlo:n0<=lo) (hg:v.ownBlock =some g):Sp n0 w g:=by
 rcases h.1.2 with ⟨rfl,_⟩|⟨g',cap,cur,rfl,h2,h3,_⟩
 ·cases hg
 ·obtain rfl:g' =g:=by injection hg
  exact ⟨zzA2 hlo h2,cur,41,_,h3,.inr (.inr (.inr (.inr (.inr (.inl rfl))))),h.2 g' rfl _ _ _ h3⟩
theorem Rw3.app {P:Program} {lo:Nat} (w:World) (t ty e:TypeId) (i:TypeInfo) (z:Value) (bytes:Nat) (ht:P.underlying t =some (.slice e)) (hi:P.info? e =some i) (hz:i.zero =some z)
  (hsize:i.size =3) (hby:i.bytes =bytes) (hzs:z.cells.size =3) (hzn:NoI z.cells)
  {v:Value} (h:Rw3 lo w e v n xs)
  (a:Addr) (c:Nat) (news:List Value) (hl:news.length =3) (hnews:∀ j u,news[j]? =some u->w.cell? (a.add j) =some u) (h1:∀ u∈news,u.oneCell' =true) (hnn:∀ x∈news,∀ (_:Unit) y,x≠Value.int .u8 y)
  (h63:n+1<=maxLen) (hbytes:(n+1)*bytes<=140737488355328) (hbase:lo<=w.heap.size) :
  ∃ v' w',(Builtin.append_ #[t,t] ty #[v,.slice (some a) 1 c]).run P w =.ok v' w'/\Rw3 lo w' e v' (n+1) (xs++news)/\w.grownBy w' v.ownBlock/\(v'.ownBlock =v.ownBlock\/Below w.heap.size w w'):=by
 subst hby;have hown:=h.1;have hxn:=Rw3.at h;have hsmall:n+1<=9223372036854775807:=by simp only [maxLen] at h63;omega
 have hlen:(xs++news).length =(n+1)*3:=by rw [List.length_append,hown.1,hl];omega
 have grown:∀ (old:Nat),old < n+1->∀ (row:Option Nat),
   Rw3 lo (w.drew.alloc (.cells (xs.toArray++news.toArray++Builtin.zeroCells z.cells (grownCap w (n+1) old e-(n+1))) e)) e
    (.slice (some ⟨w.heap.size,0,none⟩) (n+1) (grownCap w (n+1) old e)) (n+1) (xs++news) /\
   w.grownBy (w.drew.alloc (.cells (xs.toArray++news.toArray++Builtin.zeroCells z.cells (grownCap w (n+1) old e-(n+1))) e)) row:=by
  intro old ho row;have hge:=grownCap_ge w (n+1) old e;have hcm:grownCap w (n+1) old e<=maxLen:=grownCap_le_maxLen w (n+1) old e h63;have hnew:(w.drew.alloc (.cells (xs.toArray++news.toArray++Builtin.zeroCells z.cells (grownCap w (n+1) old e-(n+1))) e)).heap[w.heap.size]? =some (.cells (xs.toArray++news.toArray++Builtin.zeroCells z.cells (grownCap w (n+1) old e-(n+1))) e (0,0)):=heap_alloc_new w.drew _;refine ⟨⟨⟨hlen,.inr ⟨w.heap.size,_,_,rfl,hbase,hnew,hge,hcm,?_,?_⟩⟩,fun g hg cs T z' h'=>?_⟩,⟨rfl,rfl,rfl,by simp,fun k hk _=>Below.heap_alloc w.drew _ k hk⟩⟩
  ·simp only [Array.size_append,List.size_toArray,size_zeroCells,hzs,hown.1,hl]
   omega
  ·simp only [Array.toList_append,List.append_assoc]
   rw [<- List.append_assoc,<- hlen];exact List.take_left
  ·obtain rfl:w.heap.size =g:=by injection hg
   rw [hnew] at h';injection h' with h'
   injection h' with h' _ _
   subst h';exact ((NoI.list hxn).append (NoI.list hnn)).append (NoI.zero hzn (by omega) _)
 rcases hown.2 with ⟨rfl,rfl⟩|⟨g,cap,cur,rfl,hbg,hg,hnc,hcm,hcs,htake⟩
 ·have hx:xs =[]:=List.eq_nil_of_length_eq_zero (by simpa using hown.1)
  subst hx;have hb:=(Below.refl w.heap.size w).grown (grown 0 (by omega) none).2 (zzA0 _) (fun k hk=>by cases hk);have hr:=run_append_nil (P:=P) w t ty e i z ht hi hz a 1 c news (by rw [hl,hsize]) hnews (by omega) (by omega) (by have hb:=hbytes;simp only [Nat.zero_add] at hb;omega);have hgr:=grown 0 (by omega) (Value.ownBlock (.slice none 0 0));simp only [Nat.zero_add,List.nil_append,Array.empty_append,hsize,hzs] at hgr hb hr ⊢;exact ⟨_,_,hr,hgr.1,hgr.2,.inr hb⟩
 ·by_cases hroom:n+1<=cap
  ·have hfit:n*i.size+news.length<=cur.size:=by rw [hl,hcs,hsize];omega
   have hr:=run_append_room (P:=P) w t ty e i ht hi g n cap cur hg a 1 c news (by rw [hl,hsize]) hnews h1 hroom hfit;refine ⟨_,_,hr,⟨⟨hlen,.inr ⟨g,cap,_,rfl,hbg,setRow_heap w g cur _ e _ hg,hroom,hcm,?_,?_⟩⟩,fun g' hg' cs T z' h'=>?_⟩,⟨rfl,rfl,rfl,by simp,fun k _ hk=>setRow_other w g k _ (fun e0=>hk (by rw [e0];rfl))⟩,.inl rfl⟩
   ·simp only [List.size_toArray,List.length_append,List.length_take,List.length_drop,Array.length_toList]
    rw [hsize];omega
   ·rw [hsize,htake,<- hlen]
    exact List.take_left
   ·obtain rfl:g =g':=by injection hg'
    rw [setRow_heap w g cur _ e _ hg] at h';injection h' with h'
    injection h' with h' _ _
    subst h';have hc:=h.2 g rfl _ _ _ hg;refine NoI.list fun x hx=>?_;rcases List.mem_append.1 hx with e|e
    ·rcases List.mem_append.1 e with e|e
     ·exact hc x (Array.mem_toList_iff.1 (List.mem_of_mem_take e))
     ·exact hnn x e
    ·exact hc x (Array.mem_toList_iff.1 (List.mem_of_mem_drop e))
  ·have holds:∀ j u,xs[j]? =some u->w.cell? ((⟨g,0,none⟩:Addr).add j) =some u:=hown.cells (g:=g) rfl
   have hr:=run_append_grow (P:=P) w t ty e i z ht hi hz ⟨g,0,none⟩ n cap xs (by rw [hown.1,hsize]) holds a 1 c news (by rw [hl,hsize]) hnews (by omega) (by omega) (growslice_fits (by omega) hbytes);have hgr:=grown cap (by omega) (Value.ownBlock (.slice (some ⟨g,0,none⟩) n cap));have hb:=(Below.refl w.heap.size w).grown (grown cap (by omega) none).2 (zzA0 _) (fun k hk=>by cases hk);exact ⟨_,_,hr,hgr.1,hgr.2,.inr hb⟩
theorem Rw3.wpList {P:Program} {lo:Nat} {ops:Array Oper} {rest:List Oper} {o:Oper} {a:Act} {Q:Exit->Act->World->Prop} (hgd:o.guard =none) (s x:Operand) (t:TypeId)
  (ho:o.op =.call { callee:=.builtin .append,args:=#[s,x],argTypes:=#[t,t] })
  (e:TypeId) (i:TypeInfo) (z:Value) (bytes:Nat) (ht:P.underlying t =some (.slice e)) (hi:P.info? e =some i) (hz:i.zero =some z)
  (hsize:i.size =3) (hby:i.bytes =bytes) (hzs:z.cells.size =3) (hzn:NoI z.cells)
  {v:Value} (hs:a.eval s =v) (h:Rw3 lo w e v n xs)
  (ad:Addr) (c:Nat) (news:List Value) (hx:a.eval x =.slice (some ad) 1 c) (hl:news.length =3) (hnews:∀ j u,news[j]? =some u->w.cell? (ad.add j) =some u) (h1:∀ u∈news,u.oneCell' =true) (hnn:∀ x∈news,∀ (_:Unit) y,x≠Value.int .u8 y)
  (h63:n+1<=maxLen) (hbytes:(n+1)*bytes<=140737488355328) (hbase:lo<=w.heap.size)
  (hK:∀ v' w',Rw3 lo w' e v' (n+1) (xs++news)->w.grownBy w' v.ownBlock->(v'.ownBlock =v.ownBlock\/Below w.heap.size w w')->wpList P ops Q rest (a.put o.dst v') w'):wpList P ops Q (o::rest) a w:=by
 refine wpList_plain hgd fun K hK'=>?_;obtain ⟨v',w',hr,h2,h3,h5⟩:=h.app (P:=P) w t o.type e i z bytes ht hi hz hsize hby hzs hzn ad c news hl hnews h1 hnn h63 hbytes hbase;unfold Oper.wp execOp;simp only [ho,resolve,invoke,builtin,Sem.run_bind,Sem.run_pure,Result.andThen_ok,List.map_toArray,List.map_cons,List.map_nil,hs,hx,hr];exact hK' _ _ (hK v' w' h2 h3 h5)
end
section
open Go.RowKit Go.MapKept
variable [Prt]
theorem Off.under {w a b:World} (h:Off n0 w a) (k:Below w.heap.size a b):Off n0 w b:=
 ⟨k.os.trans h.os,k.tape.trans h.tape,k.output.trans h.output,zzA2 h.size k.size,fun i hi hx hc=>(k.block i hi).trans (h.block i hi hx hc),fun i hi=>(Sp.same (k.block i hi.lt)).2 (h.sp i hi)⟩
theorem Mv.under {w a b:World} (h:Mv n0 M w a) (k:Below w.heap.size a b):Mv n0 M w b:=
 ⟨h.off.under k,fun i hi hs hm=>(k.block i hi).trans (h.keep i hi hs hm)⟩
def OwnV (lo:Nat) (w:World) (V:Value) (vs:List Va):Prop:=
 ∃ ks,ks.length =vs.length/\Rw3 lo w 41 V vs.length (vasC vs ks)/\∀ (i:Nat) (v:Va) (k:Value),vs[i]? =some v->ks[i]? =some k->SB w w.heap.size k v.s/\Vok v
theorem OwnV.nil (lo:Nat) (w:World):OwnV lo w (.slice none 0 0) []:=⟨[],rfl,Rw3.nil _ _ _,fun i v k h=>by cases h⟩
theorem OwnV.tag {lo:Nat} {V:Value} {vs:List Va} (h:OwnV lo w V vs) (hg:V.ownBlock =some g):lo<=g/\∃ cs,w.heap[g]? =some (.cells cs 41 (0,0)):=by
 obtain ⟨ks,h1,h2,h3⟩:=h;rcases h2.1.2 with ⟨rfl,_⟩|⟨g',cap,cur,rfl,h4,h5,_⟩
 ·cases hg
 ·obtain rfl:g' =g:=by injection hg
  exact ⟨h4,_,h5⟩
theorem OwnV.keep {n0 lo:Nat} {V:Value} {vs:List Va} (h:OwnV lo w V vs) (ho:Off n0 w w') (hk:∀ g,V.ownBlock =some g->w'.heap[g]? =w.heap[g]?):OwnV lo w' V vs:=by
 obtain ⟨ks,h1,h2,h3⟩:=h;refine ⟨ks,h1,⟨⟨h2.1.1,?_⟩,fun g hg cs T z h'=>h2.2 g hg cs T z (by rw [<- hk g hg];exact h')⟩,fun i v k a b=>⟨(h3 i v k a b).1.off ho,(h3 i v k a b).2⟩⟩;rcases h2.1.2 with h'|⟨g,cap,cur,rfl,h4,h5,h6⟩
 ·exact .inl h'
 ·exact .inr ⟨g,cap,cur,rfl,h4,by rw [hk g rfl];exact h5,h6⟩
theorem OwnV.mv {n0 lo:Nat} {V:Value} {vs:List Va} (h:OwnV lo w V vs) (hm:Mv n0 M w w'):OwnV lo w' V vs:=by
 refine h.keep hm.off fun g hg=>?_;obtain ⟨_,cs,h1⟩:=h.tag hg;rw [hm.kept h1 (by decide),h1]
theorem OwnV.argX {n0 lo:Nat} {V:Value} {vs:List Va} (h:OwnV lo w V vs):ArgX n0 w V vs:=by
 have ht:=fun g hg=>h.tag (g:=g) hg;obtain ⟨ks,h1,h2,h3⟩:=h;refine ⟨⟨fun b=>V.ownBlock =some b,ks,h1,?_,h3,fun b hb=>?_⟩⟩
 ·have hb:=h2.1
  rcases h2.1.2 with ⟨rfl,e⟩|⟨g,cap,cur,rfl,h4,hg,hn,hm,hs,ht'⟩
  ·have hv:vs.length =0:=e
   rw [hv];have:vasC vs ks =[]:=by
    have:vs =[]:=List.eq_nil_of_length_eq_zero hv;subst this;rfl
   rw [this];exact RowF.nothing _ _
  ·exact ⟨_,_,rfl,hn,hm,(fun e=>by cases e),fun j u hu=>⟨_,rfl,rfl,hb.cells rfl j u hu⟩⟩
 ·obtain ⟨_,cs,hg⟩:=ht b hb
  exact ⟨(zz7.1 hg).1,jX hg (by decide),.inr ⟨_,_,_,hg⟩⟩
theorem OwnV.shape {lo:Nat} {V:Value} {vs:List Va} (h:OwnV lo w V vs):∃ A c,V =.slice A vs.length c:=by
 obtain ⟨ks,h1,h2,h3⟩:=h;exact qm h2.1
theorem zj1 (vs:List Va) (ks:List Value) (h:ks.length =vs.length) (v:Va) (k:Value):vasC (vs++[v]) (ks++[k]) =vasC vs ks++vaC v k:=by
 unfold vasC;rw [List.zipWith_append h.symm];simp
def EOk (X:Cx10) (n:Nat):Prop:=∀ (c:Nat) (env:Env) (e:Xe) (σ:Stt) (r:Ou Va) (w:World) (a:Option Addr) (ms:List Nat) (v:Value),c<=16->RunS X c σ w->ScAt X.n0 w (.pointer a) ms env->XeV w (Lo X.n0) e v->shE e =true->qD X.lim X.F n c env e σ =some r ->
 Calls Tryz.prog 189 #[.pointer (some ⟨X.R,0,none⟩),v,.pointer a] w (qR X c NoM VaC w r)
def EsOk (X:Cx10) (n:Nat):Prop:=∀ (c:Nat) (env:Env) (l:List Xe) (σ:Stt) (r:Ou (List Va)) (w:World) (a:Option Addr) (ms:List Nat) (V:Value),c<=16->RunS X c σ w->ScAt X.n0 w (.pointer a) ms env->XesC w (Lo X.n0) l V->shL l =true->qK X.lim X.F n c env l σ =some r ->
 Calls Tryz.prog 155 #[.pointer (some ⟨X.R,0,none⟩),V,.pointer a] w (qR X c NoM (fun w' vs V=>OwnV w.heap.size w' V vs) w r)
def COk (X:Cx10) (n:Nat):Prop:=∀ (c:Nat) (f:Xf) (k:Two) (vs:List Va) (σ:Stt) (r:Ou Va) (w:World) (V:Value),c<=16->RunS X c σ w->XfK w (Lo X.n0) f k->ArgX X.n0 w V vs->shB f.body =true->xo X.lim X.F n c f vs σ =some r ->
 Calls Tryz.prog 47 #[.pointer (some ⟨X.R,0,none⟩),.agg (xfC f k.p k.b).toArray,V] w (qR X c NoM VaC w r)
def RetV (w:World) (o:Option Va) (x:Value):Prop:=
 match o with
 | some v=>∃ u,x =.tuple #[u,.bool true]/\VaC w v u
 | none=>x =.tuple #[VV 0 0 kB,.bool false]
def QB10 (X:Cx10) (b:Nat) (ms:List Nat) (w':World) (p:Option Va×Env) (x:Value):Prop:=RetV w' p.1 x/\ScAt X.n0 w' (.pointer (some ⟨b,0,none⟩)) ms p.2
def BOk (X:Cx10) (n:Nat):Prop:=∀ (c:Nat) (env:Env) (l:List Xs) (σ:Stt) (r:Ou (Option Va×Env)) (w:World) (b:Nat) (ms:List Nat) (V:Value),c<=16->RunS X c σ w->ScAt X.n0 w (.pointer (some ⟨b,0,none⟩)) ms env->X.g ∉ ms->XssC w (Lo X.n0) l V->shB l =true->qS X.lim X.F n c env l σ =some r ->
 Calls Tryz.prog 85 #[.pointer (some ⟨X.R,0,none⟩),V,.pointer (some ⟨b,0,none⟩)] w (qR X c (·∈ms) (QB10 X b ms) w r)
def SOk (X:Cx10) (n:Nat):Prop:=∀ (c:Nat) (env:Env) (s:Xs) (σ:Stt) (r:Ou (Option Va×Env)) (w:World) (b:Nat) (ms:List Nat) (v:Value),c<=16->RunS X c σ w->ScAt X.n0 w (.pointer (some ⟨b,0,none⟩)) ms env->X.g ∉ ms->XsV w (Lo X.n0) s v->shS s =true->ji X.lim X.F n c env s σ =some r ->
 Calls Tryz.prog 130 #[.pointer (some ⟨X.R,0,none⟩),v,.pointer (some ⟨b,0,none⟩)] w (qR X c (·∈ms) (QB10 X b ms) w r)
theorem xk (h:Mv n0 M w w') (hn:n0<=w.heap.size):Same (Lo n0) w w':=vL (h.low hn)
theorem xj (h:Below w.heap.size w w') (hn:n0<=w.heap.size):Same (Lo n0) w w':=fun k hk=>h.block k (by unfold Lo at hk;omega)
theorem ztf:(Tryz.prog.info? 41).map (fun i=>(i.zero,i.size,i.bytes)) =some (some (VV 0 0 kB),3,40):=by kernel_rfl
theorem kA {b:Nat} {op num place:Int} {s:ByteArray} {k:Value} (h:w.heap[b]? =some (.cells #[.int .i64 op,.int .i64 num,.string s,k,.int .i64 place] 202 (0,0))) :
  w.cell? ⟨b,0,none⟩ =some (.int .i64 op)/\w.cell? ⟨b,1,none⟩ =some (.int .i64 num)/\w.cell? ⟨b,2,none⟩ =some (.string s)/\w.cell? ⟨b,3,none⟩ =some k/\w.cell? ⟨b,4,none⟩ =some (.int .i64 place):=by
 refine ⟨?_,?_,?_,?_,?_⟩ <;> simp [World.cell?,h]
theorem OwnV.more {X:Cx10} {σ:Stt} {lo:Nat} {w5 w6:World} {V V':Value} {vs:List Va} {ks:List Value} {v:Va} {k:Value} (hr:RunS X c σ w5) (hlo:X.n0<=lo) (hls:lo<=w5.heap.size) (hks:ks.length =vs.length) (h1:Rw3 lo w5 41 V vs.length (vasC vs ks)) (h3:∀ (i:Nat) (v:Va) (k:Value),vs[i]? =some v->ks[i]? =some k->SB w5 w5.heap.size k v.s/\Vok v) (hv:VaC w5 v (VV v.t v.n k))
  (h2:Rw3 lo w6 41 V' (vs.length+1) (vasC vs ks++vaC v k)) (hg:w5.grownBy w6 V.ownBlock) (hb:V'.ownBlock =V.ownBlock\/Below w5.heap.size w5 w6) :
  OwnV lo w6 V' (vs++[v])/\RunS X c σ w6/\Below lo w5 w6:=by
 have hoff:Off X.n0 w5 w6:=by
  rcases hb with e|hb
  ·cases hq:V.ownBlock with
   | none=>rw [hq] at hg;exact .of (j6 hg)
   | some g=>
    rw [hq] at hg e;exact Off.grown hg (h1.spb hlo hq) (h2.spb hlo e)
  ·exact .of hb
 have hfar:∀ (b:Nat) (cs:Array Value) (T:TypeId) (z:Nat×Nat),w5.heap[b]? =some (.cells cs T z)->T≠41->w6.heap[b]? =w5.heap[b]?:=by
  intro b cs T z hb hT;refine hg.block b (zz7.1 hb).1 fun e=>?_;obtain ⟨cs',h'⟩:=(show lo<=b/\∃ cs,w5.heap[b]? =some (.cells cs 41 (0,0)) from OwnV.tag (vs:=vs) ⟨ks,hks,h1,h3⟩ e.symm).2;rw [hb] at h';injection h' with h'
  injection h' with _ h' _
  exact hT h'
 refine ⟨⟨ks++[k],by simp [hks],by rw [zj1 vs ks hks];simpa using h2,fun i x q hx hq=>?_⟩,hr.keep hoff (hfar _ _ _ _ hr.cell (by decide)) (fun b hb=>?_) (hg.block _ hr.tab.lt fun e=>?_),⟨hg.os,hg.tape,hg.output,hg.size,fun b hb=>?_⟩⟩
 ·rcases xH hx with hx|⟨e1,rfl⟩ <;> rcases xH hq with hq|⟨e2,rfl⟩
  ·exact ⟨(h3 i x q hx hq).1.off hoff,(h3 i x q hx hq).2⟩
  ·have:=(List.getElem?_eq_some_iff.1 hx).1
   omega
  ·have:=(List.getElem?_eq_some_iff.1 hq).1
   omega
  ·obtain ⟨k',e,g1,g2⟩:=hv
   have:k' =q:=by
    injection e with e
    simpa using e.symm
   subst this;exact ⟨g1.off hoff,g2⟩
 ·obtain ⟨cs,T,z,h4,h5⟩:=hr.jr.jb_tag hb
  exact hfar _ _ _ _ h4 (by rcases h5 with rfl|rfl <;> decide)
 ·obtain ⟨_,cs,h'⟩:=OwnV.tag (vs:=vs) ⟨ks,hks,h1,h3⟩ e.symm
  obtain ⟨arr,q,hm⟩:=hr.tab.obj;rw [hm] at h';cases h'
 ·refine hg.block b (by omega) fun e=>?_
  have:=(OwnV.tag (vs:=vs) ⟨ks,hks,h1,h3⟩ e.symm).1;omega
end
section
open Go.RowKit Go.MapKept
variable [Prt]
theorem zvl (fn:Nat) (h:Bool->Bool) (hf:zd3 fn h) (s u:List Int) (x y:Value) (g:Nat) (w:World) (hx:SB w w.heap.size x s) (hy:SB w w.heap.size y u) (hc:w.cell? ⟨g,0,none⟩ =some (.func (.func fn) #[] #[])) :
  Calls Tryz.prog 339 #[x,y,.pointer (some ⟨g,0,none⟩)] w fun e w'=>e =.returned (AV ⟨2,b2i (h (decide (s =u))),0⟩)/\Below w.heap.size w w':=by
 have hc1:=yi w g _ zO hc;obtain ⟨hent,HF⟩:=hf;have HF:=zz9 HF;unfold Ent at hent;have hlt:=World.block_lt_of_cell? w _ hc;clear hc;obtain ⟨Ax,cx,rfl,_⟩:=id hx;obtain ⟨Ay,cy,rfl,_⟩:=id hy;have KE:Hid (∀ w',Below w.heap.size w w'->Calls Tryz.prog 296 #[.slice Ax s.length cx,.slice Ay u.length cy] w' fun e w''=>e =.returned (.bool (decide (s =u)))/\w' =w''):=fun w' hb=>zo2 _ _ s u w' w'.heap.size (hx.on hb) (hy.on hb);have hB:Below w.heap.size w ((w.alloc zO).drewN 1):=zW (za w zO) 1;have HT:=zz9 (yw w 0 0 kB);clear hx hy
 generalize decide (s =u) =q at *
 go_enter Tryz.func339,Tryz.ntmps339
 go_wp2_with fail
 go_region_held3 (fun w'=>w'.cell? ⟨g,0,none⟩ =some (.func (.func fn) #[] #[])) (first|assumption|exact yZ (qZ w.heap.size 0 [_,_,_] w2).1 hlt (yZ hb2 (by simp;omega) hc1)|exact yZ hb2 (by simp;omega) hc1|skip)
  (first|(go_at_call 296;refine (KE.out _ hB).mono ?_;rintro e w' ⟨rfl,rfl⟩)|(refine (HF.out _ _).mono ?_;rintro e w1 ⟨rfl,rfl⟩)|(go_at_call 226;refine (zez _ _).mono ?_;rintro e w2 ⟨rfl,hb2⟩;replace hb2:Below (w.alloc zO).heap.size (w.alloc zO) w2:=(zW (Below.refl _ _) 1).trans hb2;obtain ⟨u0,u1,u2,v0,v1,v2⟩:=(HT.out.below hb2 (by simp)).facts))
 have HT2:=HT.out.below hb2 (by simp)
 go_wp2
 refine bodyPost_ret (zP (cs:=[_,_,_]) Tryz.results339 Tryz.underlying41 rfl zu _ _ w.heap.size rfl (World.rangeAt_setCells_same w2 w.heap.size 0 [_,_,_] HT2.2)) rfl ?_;exact ⟨rfl,((za w zO).trans (hb2.mono (by simp))).trans (qZ w.heap.size 0 [_,_,_] w2).1⟩
theorem zpv {fn:Fn} {p:Value} (h1:v1.oneCell' =true) (h2:v2.oneCell' =true):∀ u∈[v1,v2,.func fn #[] #[p]],u.oneCell' =true:=by
 intro u hu;simp only [List.mem_cons,List.not_mem_nil,or_false] at hu;rcases hu with rfl|rfl|rfl
 ·exact h1
 ·exact h2
 ·rfl
def zns (fn:Nat) (w:World) (e:Ending) (w':World):Prop:=
 ∃ v1 v2 g,e =.returned (.agg #[v1,v2,.func (.func 339) #[] #[.pointer (some ⟨g,0,none⟩)]])/\FnV v1/\FnV v2/\w'.cell? ⟨g,0,none⟩ =some (.func (.func fn) #[] #[])/\w.heap.size<=g/\Below w.heap.size w w'
theorem ze1 (fn:Nat) (h:Bool->Bool) (hf:zd3 fn h) (w:World):Calls Tryz.prog 315 #[.func (.func fn) #[] #[]] w (zns fn w):=by
 have hmf:∀ (fn:Fn) (first cap:Array Value) (w:World),(Instr.makeFunc fn first cap).run Tryz.prog w =.ok (.func fn first cap) w:=fun _ _ _ _=>rfl;have hcell:((w.alloc (.cells #[.func (.func fn) #[] #[]] 335)).alloc rO).cell? ⟨w.heap.size,0,none⟩ =some (.func (.func fn) #[] #[]):=by
  rw [cell_of_row _ _ _ _ _ _ (show ((w.alloc (.cells #[.func (.func fn) #[] #[]] 335)).alloc rO).heap[w.heap.size]? =some _ by rw [Below.heap_alloc _ _ _ (by simp)];exact heap_alloc_new w _)];rfl
 have K:=zz9 (jJ 337 #[.pointer (some ⟨w.heap.size,0,none⟩)] (fun n=>h (n == 0)) (fun k=>k =w.heap.size) _ (by intro k hk;subst hk;simp;omega) (zo3 fn h hf w.heap.size _ hcell));have HT0:((w.alloc (.cells #[.func (.func fn) #[] #[]] 335)).alloc rO).there (w.heap.size+1) 0 3:=xJ (cs:=[.nilFunc,.nilFunc,.nilFunc]) (by have:=heap_alloc_new (w.alloc (.cells #[.func (.func fn) #[] #[]] 335)) rO;simpa using this) rfl;have HC:=zz9 hcell;clear hcell;go_enter Tryz.func315,Tryz.ntmps315
 go_wp2_with fail
 refine K.out.mono ?_;rintro e w1 ⟨v,rfl,hv,hlt,hb1⟩;have HT:=zG HT0 hb1 (by simp);obtain ⟨fn',caps,rfl,_⟩:=hv;clear K
 go_wp2_with (refine zi zH rfl (.tmp 2) (.tmp 7) rfl rfl (w.heap.size+1) rfl [_,_,_] rfl rfl HT (by simp [Value.oneCell']) ?_;intro w2 g1 g2 g3 g4 g5)
 refine bodyPost_ret (zU (cs:=[_,_,_]) Tryz.results315 Tryz.underlying319 rfl zH _ _ (w.heap.size+1) rfl g1) rfl ?_;refine ⟨_,_,w.heap.size,rfl,.fn _ _,.fn _ _,?_,zzA0 _,((xD w _ _).trans (hb1.mono (by simp;omega))).trans (g3.mono (by omega))⟩;have hc1:=yZ hb1 (by simp;omega) HC.out;rw [World.cell?_of_block (a:=⟨w.heap.size,0,none⟩) (w:=w1) (g4 w.heap.size (by omega))];exact hc1
theorem zp6 (w:World):Calls Tryz.prog 290 #[.string ⟨#[61,61]⟩] w (zns 316 w):=by
 go_enter Tryz.func290,Tryz.ntmps290
 go_wp2_with fail
 refine (ze1 316 _ zpn _).mono ?_;rintro e w1 ⟨v1,v2,g,rfl,h1,h2,h3,h4,hb1⟩;have HT:=zG (qB w) hb1 (by simp);have HC:=zz9 h3;have HV1:=zz9 h1;have HV2:=zz9 h2;have o1:=h1.one;have o2:=h2.one;clear h1 h2 h3
 go_wp2_with (refine zi zH rfl (.tmp 2) (.tmp 39) rfl rfl w.heap.size rfl [_,_,_] rfl rfl HT (zpv o1 o2) ?_;intro w2 g1 g2 g3 g4 g5)
 refine bodyPost_ret (zU (cs:=[_,_,_]) Tryz.results290 Tryz.underlying319 rfl zH _ _ w.heap.size rfl g1) rfl ?_;simp only [World.size_alloc] at h4;refine ⟨_,_,g,rfl,HV1.out,HV2.out,?_,by omega,((za w rO).trans (hb1.mono (by simp))).trans g3⟩;rw [World.cell?_of_block (a:=⟨g,0,none⟩) (w:=w1) (g4 g (by omega))];exact HC.out
theorem zq1 (w:World):Calls Tryz.prog 290 #[.string ⟨#[33,61]⟩] w (zns 317 w):=by
 go_enter Tryz.func290,Tryz.ntmps290
 go_wp2_with fail
 refine (ze1 317 _ zqf _).mono ?_;rintro e w1 ⟨v1,v2,g,rfl,h1,h2,h3,h4,hb1⟩;have HT:=zG (qB w) hb1 (by simp);have HC:=zz9 h3;have HV1:=zz9 h1;have HV2:=zz9 h2;have o1:=h1.one;have o2:=h2.one;clear h1 h2 h3
 go_wp2_with (refine zi zH rfl (.tmp 2) (.tmp 42) rfl rfl w.heap.size rfl [_,_,_] rfl rfl HT (zpv o1 o2) ?_;intro w2 g1 g2 g3 g4 g5)
 refine bodyPost_ret (zU (cs:=[_,_,_]) Tryz.results290 Tryz.underlying319 rfl zH _ _ w.heap.size rfl g1) rfl ?_;simp only [World.size_alloc] at h4;refine ⟨_,_,g,rfl,HV1.out,HV2.out,?_,by omega,((za w rO).trans (hb1.mono (by simp))).trans g3⟩;rw [World.cell?_of_block (a:=⟨g,0,none⟩) (w:=w1) (g4 g (by omega))];exact HC.out
theorem zt4 (S:ByteArray) (fn:Nat) (h:Bool->Bool) (hf:zd3 fn h) (hrow:∀ w,Calls Tryz.prog 290 #[.string S] w (zns fn w)) (A B:Option Addr) (c d:Nat) (s u:List Int) (w:World) (h1:SB w w.heap.size (.slice A s.length c) s) (h2:SB w w.heap.size (.slice B u.length d) u) :
  Calls Tryz.prog 262 #[.string S,VV 3 0 (.slice A s.length c),VV 3 0 (.slice B u.length d)] w fun e w'=>e =.returned (AV ⟨2,b2i (h (decide (s =u))),0⟩)/\Below w.heap.size w w':=by
 have H0:=zz9 (jx w 3 0 3 0 (.slice A s.length c) (.slice B u.length d));have hq:=fun fn caps w=>zea 317 Tryz.underlying317 ⟨_,_,_,rfl⟩ fn caps w;have K:Hid (∀ w' g,Below w.heap.size w w'->w'.cell? ⟨g,0,none⟩ =some (.func (.func fn) #[] #[])->Calls Tryz.prog 339 #[.slice A s.length c,.slice B u.length d,.pointer (some ⟨g,0,none⟩)] w' fun e w''=>e =.returned (AV ⟨2,b2i (h (decide (s =u))),0⟩)/\Below w'.heap.size w' w''):=fun w' g hb hc=>zvl fn h hf s u _ _ g w' (h1.on hb) (h2.on hb) hc;have HRow:=zz9 hrow;clear h1 h2 hrow
 generalize b2i (h (decide (s =u))) =q at *
 go_enter Tryz.func262,Tryz.ntmps262
 go_wp2_with fail
 refine (HRow.out _).mono ?_;rintro e w1 ⟨v1,v2,g,rfl,f1,f2,f3,f4,hb1⟩;have H1:=zz9 (H0.out.below hb1);have o1:=f1.one;have o2:=f2.one;have F3:=zz9 f3;have hgl:=World.block_lt_of_cell? w1 _ f3;clear hb1 H0 f1 f2 f3
 go_wp2_with (refine zi zH rfl (.tmp 8) (.tmp 16) rfl rfl w1.heap.size rfl [_,_,_] rfl rfl (qB w1) (zpv o1 o2) ?_;intro w2 g1 g2 g3 g4 g5;have hb2:Below w1.heap.size w1 w2:=(za w1 rO).trans g3;obtain ⟨x0,x1,x2⟩:=(H1.out.below hb2).x.cells;obtain ⟨y0,y1,y2⟩:=(H1.out.below hb2).y.cells;obtain ⟨r0,r1,r2⟩:=kP g1;clear g1 g2 g3 g4 g5)
 have H2:=zz9 (H1.out.below hb2);have hc2:=zb F3.out hb2;refine (K.out _ g H2.out.bl hc2).mono ?_;rintro e w3 ⟨rfl,hb3⟩;have H3:=zz9 (H2.out.below hb3);clear x0 x1 x2 y0 y1 y2 r0 r1 r2 hb2 hb3 hc2
 go_wp2_with (refine zi zu rfl (.tmp 6) (.tmp 68) rfl rfl (w.heap.size+1+1) rfl [_,_,_] rfl rfl H3.out.z.2 (by simp [Value.oneCell']) ?_;intro w4 g1 g2 g3 g4 g5)
 refine bodyPost_ret (zP (cs:=[_,_,_]) Tryz.results262 Tryz.underlying41 rfl zu _ _ (w.heap.size+1+1) rfl g1) rfl ?_;exact ⟨rfl,H3.out.bl.trans (g3.mono (by omega))⟩
end
section
open Go.RowKit Go.MapKept
variable [Prt]
def zn8 (w:World) (p:Va×Int) (e:Ending) (w':World):Prop:=∃ t n A m c,e =.returned (.tuple #[VV t n (.slice A m c),.int .i64 p.2])/\VaC w' p.1 (VV t n (.slice A m c))/\Below w.heap.size w w'
theorem kX {t n e:Int} (hf:fits n) (hb:Below w.heap.size w w') {p:Va×Int} (hp:p =(⟨t,n,[]⟩,e)):zn8 w p (.returned (AV ⟨t,n,e⟩)) w':=by
 subst hp;exact ⟨t,n,none,0,0,rfl,⟨_,rfl,SB.nil _ _,hf,by simp⟩,hb⟩
theorem xp (b:Bool):fits (b2i b):=by unfold fits b2i;split <;> omega
theorem xM {v:Va} (h:VaC w v u):∃ A c,u =VV v.t v.n (.slice A v.s.length c)/\SB w w.heap.size (.slice A v.s.length c) v.s/\Vok v:=by
 obtain ⟨k,A,c,rfl,rfl,h1,h2⟩:=zbj h;exact ⟨A,c,rfl,h1,h2⟩
theorem yX (x:Int):fitI x =(⟨(vJ x).t,(vJ x).n,[]⟩,(vJ x).e):=by
 by_cases h:fits x
 ·rw [kI h]
  unfold fitI;rw [if_pos (show -9223372036854775808<=x/\x<=9223372036854775807 from h)];rfl
 ·rw [jk h]
  unfold fitI;rw [if_neg (show ¬ (-9223372036854775808<=x/\x<=9223372036854775807) from h)];rfl
theorem zg1 {f:Int->Int->Int} (a b:Int):divI f a b =(⟨(x9 f a b).t,(x9 f a b).n,[]⟩,(x9 f a b).e):=by
 unfold divI x9;by_cases h:b =0
 ·rw [if_pos h,if_pos h];rfl
 ·rw [if_neg h,if_neg h]
  by_cases h':a = -9223372036854775808/\b = -1
  ·rw [if_pos h',if_pos h'];rfl
  ·rw [if_neg h',if_neg h'];rfl
theorem kg (b:Bool):truE b =(⟨2,b2i b,[]⟩,0):=by cases b <;> rfl
theorem yU (x:Int):fits (vJ x).n:=by
 unfold vJ
 split
 ·assumption
 ·show fits 0;unfold fits;omega
theorem zd2 {f:Int->Int->Int} {a b:Int} (ha:fits a) (hb:fits b) (hf:b≠0->¬ (a = -9223372036854775808/\b = -1)->fits (f a b)):fits (x9 f a b).n:=by
 unfold x9
 split
 ·show fits 0;unfold fits;omega
 ·split
  ·show fits 0;unfold fits;omega
  ·exact hf (by assumption) (by assumption)
theorem ztw (a b:Int):decide (ord a b < 0) =decide (a < b):=by unfold ord;split <;> (try split) <;> simp <;> omega
theorem zun (a b:Int):decide (ord a b<=0) =decide (a<=b):=by unfold ord;split <;> (try split) <;> simp <;> omega
theorem zr8 (a b:Int):decide (0 < ord a b) =decide (b < a):=by unfold ord;split <;> (try split) <;> simp <;> omega
theorem zr1 (a b:Int):decide (0<=ord a b) =decide (b<=a):=by unfold ord;split <;> (try split) <;> simp <;> omega
theorem zo9 (a b:Int):(ord a b == 0) =decide (a =b):=by unfold ord;split <;> (try split) <;> simp <;> omega
theorem zrw (S:ByteArray) (f:Bool->Bool->Bool) (hrow:∀ w,Calls Tryz.prog 290 #[.string S] w (RowB f w)) (a b:Int) (A B:Option Addr) (n m c d:Nat) (w:World) :
 Calls Tryz.prog 262 #[.string S,VV 2 a (.slice A n c),VV 2 b (.slice B m d)] w fun e w'=>e =.returned (AV ⟨2,b2i (f (a == 1) (b == 1)),0⟩)/\Below w.heap.size w w':=by
 have H0:=zz9 (jx w 2 a 2 b (.slice A n c) (.slice B m d));have HR:=zz9 hrow;clear hrow;have hq:=fun fn caps w=>zea 316 Tryz.underlying316 ⟨_,_,_,rfl⟩ fn caps w;go_enter Tryz.func262,Tryz.ntmps262
 go_wp2_with fail
 refine (HR.out _).mono ?_;rintro e w1 ⟨D,v1,v2,v3,rfl,hD,h1,h2,h3,hb1⟩;have H1:=zz9 (H0.out.below hb1);have o3:=h3.one;have o1:=h1.one;obtain ⟨fn,caps,rfl,hent,hcall⟩:=h2;unfold Ent at hent;have HC:=zz9 hcall;have HD:=zz9 hD;clear hcall hD h1 h3 hb1 H0
 go_wp2_with (refine zi zH rfl (.tmp 8) (.tmp 16) rfl rfl w1.heap.size rfl [_,_,_] rfl rfl (qB w1) (by simp [o1,o3];rfl) ?_;intro w2 g1 g2 g3 g4 g5;have hb2:Below w1.heap.size w1 w2:=(za w1 rO).trans g3;obtain ⟨x0,x1,x2⟩:=(H1.out.below hb2).x.cells;obtain ⟨y0,y1,y2⟩:=(H1.out.below hb2).y.cells;obtain ⟨r0,r1,r2⟩:=kP g1;have HG:=zz9 (And.intro g1 g5);clear g1 g2 g3 g4 g5)
 have H2:=zz9 (H1.out.below hb2);have hs1:=H1.out.sz;have hs2:w2.heap.size =w1.heap.size+1:=by have:=HG.out.2;simpa using this
 have hbl:Below w2.heap.size w2 w2.drew:=(Below.refl _ _).drew;have HD0:Hid (∀ k,(k < w2.heap.size/\k≠w.heap.size+1+1)->k < w2.heap.size):=fun k hk=>hk.1
 have HS:Hid (∀ w',Kept (fun k=>k < w2.heap.size/\k≠w.heap.size+1+1) w2 w'->(w'.cell? ⟨w1.heap.size,1,none⟩ =some (.func (.func fn) #[] caps)/\(w'.cell? ⟨w.heap.size,0,none⟩ =some (.int .i64 2)/\w'.cell? ⟨w.heap.size,1,none⟩ =some (.int .i64 a)/\w'.cell? ⟨w.heap.size,2,none⟩ =some (.slice A n c))/\(w'.cell? ⟨w.heap.size+1,0,none⟩ =some (.int .i64 2)/\w'.cell? ⟨w.heap.size+1,1,none⟩ =some (.int .i64 b)/\w'.cell? ⟨w.heap.size+1,2,none⟩ =some (.slice B m d)))):=
 fun w' hk=>⟨hk.cell' (a:=⟨w1.heap.size,1,none⟩) ⟨by show w1.heap.size < _;omega,by show w1.heap.size≠_;omega⟩ r1,At6.keptc hk ⟨by omega,by omega⟩ H2.out.x,At6.keptc hk ⟨by omega,by omega⟩ H2.out.y⟩
 have HK:Hid (∀ w',Below w2.heap.size w2 w'->Kept D w1 w'):=fun w' hb k hk=>⟨HD.out k hk,by rw [hb.block k (by have:=HD.out k hk;omega),hb2.block k (HD.out k hk)]⟩;have HZ:Hid (w.heap.size+1+1 < w2.heap.size):=by show _ < _;omega
 clear x0 x1 x2 y0 y1 y2 r0 r1 r2 hs1 hs2
 go_region_held3 (fun w'=>w'.cell? ⟨w1.heap.size,1,none⟩ =some (.func (.func fn) #[] caps)/\(w'.cell? ⟨w.heap.size,0,none⟩ =some (.int .i64 2)/\w'.cell? ⟨w.heap.size,1,none⟩ =some (.int .i64 a)/\w'.cell? ⟨w.heap.size,2,none⟩ =some (.slice A n c))/\(w'.cell? ⟨w.heap.size+1,0,none⟩ =some (.int .i64 2)/\w'.cell? ⟨w.heap.size+1,1,none⟩ =some (.int .i64 b)/\w'.cell? ⟨w.heap.size+1,2,none⟩ =some (.slice B m d)))
 (first|exact HS.out _ (Kept.of hbl HD0.out)|exact HS.out _ ((Kept.of hbl HD0.out).cells (g:=w.heap.size+1+1) (o:=0) (fun h=>h.2 rfl) [_,_,_]))
 (first|(go_at_call 291;refine (zls _ _ _ _).mono ?_;rintro e wn ⟨rfl,hbn⟩;replace hbl:=hbl.trans (hbn.mono hbl.size))|(go_at_call 226;refine (zez _ _).mono ?_;rintro e wn ⟨rfl,hbn⟩;replace hbl:=hbl.trans (hbn.mono hbl.size);obtain ⟨u0,u1,u2,v0,v1,v2⟩:=(H2.out.z.below hbl HZ.out).facts)|(refine (HC.out _ _ _ (HK.out _ hbl)).mono ?_;rintro e wn ⟨rfl,hbn⟩;replace hbl:=hbl.trans (hbn.mono hbl.size)))
 have HT2:=(H2.out.z.below hbl HZ.out).2;have HB:Hid (Below w.heap.size w wn):=H2.out.bl.trans (hbl.mono (by have:=HZ.out;omega))
 go_wp2
 refine bodyPost_ret (zP (cs:=[_,_,_]) Tryz.results262 Tryz.underlying41 rfl zu _ _ (w.heap.size+1+1) rfl (World.rangeAt_setCells_same wn (w.heap.size+1+1) 0 [_,_,_] HT2)) rfl ?_;exact ⟨rfl,HB.out.trans ((qZ (w.heap.size+1+1) 0 [_,_,_] wn).1.mono (by omega))⟩
theorem zcp (S:List Nat) (v u:Va) (p:Va×Int) (h:twoE S v u =some p) (w:World) (V U:Value) (hv:VaC w v V) (hu:VaC w u U):Calls Tryz.prog 262 #[.string (strN S),V,U] w (zn8 w p):=by
 obtain ⟨A,c,rfl,hA,okv,lv⟩:=xM hv;obtain ⟨B,d,rfl,hB,oku,lu⟩:=xM hu;obtain ⟨vt,vn,vs⟩:=v;obtain ⟨ut,un,us⟩:=u
 dsimp only at *
 unfold twoE at h;by_cases h1:vt =1/\ut =1
 ·rw [if_pos h1] at h
  obtain ⟨rfl,rfl⟩:=h1;dsimp only at h;have hint:∀ (S:List Nat) (f:Int->Int->Ans) (q:Va×Int),(∀ w,Calls Tryz.prog 290 #[.string (strN S)] w (RowI f w))->q =(⟨(f vn un).t,(f vn un).n,[]⟩,(f vn un).e)->fits (f vn un).n->Calls Tryz.prog 262 #[.string (strN S),VV 1 vn (.slice A vs.length c),VV 1 un (.slice B us.length d)] w (zn8 w q):=by
   intro S f q hr hq hf;refine (twoI (strN S) f hr vn un _ _ w okv oku).mono ?_;rintro e w' ⟨rfl,hb⟩;exact kX hf hb hq
  by_cases e1:S =[43]
  ·rw [if_pos e1] at h;injection h with h;subst h e1
   exact hint _ _ _ zoi (yX _) (yU _)
  rw [if_neg e1] at h;by_cases e2:S =[45]
  ·rw [if_pos e2] at h;injection h with h;subst h e2
   exact hint _ _ _ zki (yX _) (yU _)
  rw [if_neg e2] at h;by_cases e3:S =[42]
  ·rw [if_pos e3] at h;injection h with h;subst h e3
   exact hint _ _ _ zl5 (yX _) (yU _)
  rw [if_neg e3] at h;by_cases e4:S =[47]
  ·rw [if_pos e4] at h;injection h with h;subst h e4
   exact hint _ _ _ zpt (zg1 _ _) (zd2 okv oku fun h0 h=>tdiv_fits' okv h0 h)
  rw [if_neg e4] at h;by_cases e5:S =[37]
  ·rw [if_pos e5] at h;injection h with h;subst h e5
   exact hint _ _ _ zrn (zg1 _ _) (zd2 okv oku fun h0 h=>zee okv)
  rw [if_neg e5] at h;by_cases e6:S =[60]
  ·rw [if_pos e6] at h;injection h with h;subst h e6
   refine hint _ _ _ zuz ?_ (xp _);show _ =((⟨2,b2i (decide (ord vn un < 0)),[]⟩:Va),(0:Int));rw [ztw];exact kg _
  rw [if_neg e6] at h;by_cases e7:S =[60,61]
  ·rw [if_pos e7] at h;injection h with h;subst h e7
   refine hint _ _ _ zsy ?_ (xp _);show _ =((⟨2,b2i (decide (ord vn un<=0)),[]⟩:Va),(0:Int));rw [zun];exact kg _
  rw [if_neg e7] at h;by_cases e8:S =[62]
  ·rw [if_pos e8] at h;injection h with h;subst h e8
   refine hint _ _ _ zsm ?_ (xp _);show _ =((⟨2,b2i (decide (0 < ord vn un)),[]⟩:Va),(0:Int));rw [zr8];exact kg _
  rw [if_neg e8] at h;by_cases e9:S =[62,61]
  ·rw [if_pos e9] at h;injection h with h;subst h e9
   refine hint _ _ _ zsg ?_ (xp _);show _ =((⟨2,b2i (decide (0<=ord vn un)),[]⟩:Va),(0:Int));rw [zr1];exact kg _
  rw [if_neg e9] at h;by_cases e10:S =[61,61]
  ·rw [if_pos e10] at h;injection h with h;subst h e10
   refine hint _ (jW fun n=>n == 0) _ (fun w=>(zo5 w).mono fun e w' r=>r.ints) ?_ (xp _);show _ =((⟨2,b2i (ord vn un == 0),[]⟩:Va),(0:Int));rw [zo9];exact kg _
  rw [if_neg e10] at h;by_cases e11:S =[33,61]
  ·rw [if_pos e11] at h;injection h with h;subst h e11
   refine hint _ (jW fun n=>!(n == 0)) _ (fun w=>(zpb w).mono fun e w' r=>r.ints) ?_ (xp _);show _ =((⟨2,b2i (!(ord vn un == 0)),[]⟩:Va),(0:Int));rw [zo9];exact kg _
  rw [if_neg e11] at h;cases h
 rw [if_neg h1] at h;by_cases h2:vt =2/\ut =2
 ·rw [if_pos h2] at h
  obtain ⟨rfl,rfl⟩:=h2;dsimp only at h;by_cases e1:S =[61,61]
  ·rw [if_pos e1] at h;injection h with h;subst h e1
   refine (zrw (strN [61,61]) (fun a b=>a == b) (fun w=>(zo5 w).mono fun e w' r=>r.bools) vn un A B vs.length us.length c d w).mono ?_;rintro e w' ⟨rfl,hb⟩;exact kX (xp _) hb (kg _)
  rw [if_neg e1] at h;by_cases e2:S =[33,61]
  ·rw [if_pos e2] at h;injection h with h;subst h e2
   refine (zrw (strN [33,61]) (fun a b=>!(a == b)) (fun w=>(zpb w).mono fun e w' r=>r.bools) vn un A B vs.length us.length c d w).mono ?_;rintro e w' ⟨rfl,hb⟩;exact kX (xp _) hb (kg _)
  rw [if_neg e2] at h;cases h
 rw [if_neg h2] at h;by_cases h3:vt =3/\ut =3/\vn =0/\un =0
 ·rw [if_pos h3] at h
  obtain ⟨rfl,rfl,rfl,rfl⟩:=h3;dsimp only at h;by_cases e1:S =[43]
  ·rw [if_pos e1] at h;injection h with h;subst h e1
   by_cases hl:256 < vs.length+us.length
   ·rw [if_pos hl]
    refine (zjr A B vs.length us.length c d w (by omega) (by omega) hl).mono ?_;rintro e w' ⟨rfl,hb⟩;exact ⟨0,0,none,0,0,rfl,zca _,hb⟩
   ·rw [if_neg hl]
    obtain ⟨_,_,ea,a1,a2,a3,a4⟩:=hA;obtain ⟨_,_,eb,b1,b2,b3,b4⟩:=hB;injection ea with ea1 _ ea2
    injection eb with eb1 _ eb2
    subst ea1 ea2 eb1 eb2;refine (zp9 A B c d vs us w a1 a2 b1 b2 (by omega) a3 b3).mono ?_;rintro e w' ⟨A',c',rfl,q1,q2,q3,q4,hb⟩;exact ⟨3,0,A',_,c',rfl,⟨_,rfl,⟨A',c',by simp [ya],by simpa [ya] using q1,q2,q3,a4.append b4⟩,(by show fits 0;unfold fits;decide),by simp [ya];omega⟩,hb⟩
  rw [if_neg e1] at h;by_cases e2:S =[61,61]
  ·rw [if_pos e2] at h;injection h with h;subst h e2
   refine (zt4 (strN [61,61]) 316 (fun b=>b) zpn zp6 A B c d vs us w hA hB).mono ?_;rintro e w' ⟨rfl,hb⟩;exact kX (xp _) hb (kg _)
  rw [if_neg e2] at h;by_cases e3:S =[33,61]
  ·rw [if_pos e3] at h;injection h with h;subst h e3
   refine (zt4 (strN [33,61]) 317 (fun b=>!b) zqf zq1 A B c d vs us w hA hB).mono ?_;rintro e w' ⟨rfl,hb⟩;exact kX (xp _) hb (kg _)
  rw [if_neg e3] at h;cases h
 rw [if_neg h3] at h;cases h
theorem zn5 (S:List Nat) (v:Va) (p:Va×Int) (h:oneE S v =some p) (w:World) (V:Value) (hv:VaC w v V):Calls Tryz.prog 264 #[.string (strN S),V] w (zn8 w p):=by
 obtain ⟨A,c,rfl,hA,okv,lv⟩:=xM hv;obtain ⟨vt,vn,vs⟩:=v
 dsimp only at *
 unfold oneE at h;by_cases h1:S =[45]/\vt =1
 ·rw [if_pos h1] at h
  obtain ⟨rfl,rfl⟩:=h1;injection h with h
  subst h;refine (zrv vn _ w okv).mono ?_;rintro e w' ⟨rfl,hb⟩;exact kX (yU _) hb (yX _)
 rw [if_neg h1] at h;by_cases h2:S =[33]/\vt =2
 ·rw [if_pos h2] at h
  obtain ⟨rfl,rfl⟩:=h2;injection h with h
  subst h;refine (zur vn _ w).mono ?_;rintro e w' ⟨rfl,hb⟩;exact kX (xp _) hb (kg _)
 rw [if_neg h2] at h;cases h
end
end Go.Proofs.YtcilgkdnjgmogaaGreatDoor
