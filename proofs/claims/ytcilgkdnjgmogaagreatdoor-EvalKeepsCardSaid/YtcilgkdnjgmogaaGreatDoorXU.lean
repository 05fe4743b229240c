/- A part of the proof. -/
import Derived.Test.YtcilgkdnjgmogaaGreatDoorXT
import Derived.Deep.DeepCutAuto
import Derived.Lib.AppendZeros
namespace Go.Proofs.YtcilgkdnjgmogaaGreatDoor
set_option maxRecDepth 100000
set_option maxHeartbeats 12800000
set_option linter.all false
variable {A:Option Addr} {B c c' g k n n0 o:Nat} {D D' M:Nat->Prop} {e:TypeId} {q:Value} {w w' w'' w2:World} {xs:List Value}
section
open Go.RowKit Go.MapKept
variable [Prt]
def zc0 (w:World) (a:Option Addr) (ms:List Nat) (env:Env) (q:Value) (bms:List Nat):Prop:=
 (∃ r b m,env =[]::r/\a =some ⟨b,0,none⟩/\ms =m::bms/\w.heap[b]? =some (.cells #[.map (some m),q] 206 (0,0)))\/((∀ r,env≠[]::r)/\q =.pointer a/\bms =ms)
theorem zk0 {a:Option Addr} {ms:List Nat} {env:Env} {bms:List Nat} (h:ScAt n0 w (.pointer a) ms env) (hb:zc0 w a ms env q bms):ScAt n0 w q bms (zap env):=by
 rcases hb with ⟨r,b,m,rfl,rfl,rfl,h1⟩|⟨h1,rfl,rfl⟩
 ·cases h with
  | cons hb hm h0 hne hrest=>
   rw [hb] at h1;injection h1 with h1
   injection h1 with h1 _ _
   have hq:=congrArg (fun (x:Array Value)=>x[1]?) h1;simp at hq;rw [<- hq];exact hrest
 ·unfold zap
  split
  ·rename_i r
   exact absurd rfl (h1 r)
  ·exact h
theorem yR {a:Option Addr} {ms:List Nat} {env:Env} {bms:List Nat} (hb:zc0 w a ms env q bms):∀ m,m∈bms->m∈ms:=by
 rcases hb with ⟨r,b,m,rfl,rfl,rfl,h1⟩|⟨h1,rfl,rfl⟩
 ·intro x hx
  exact List.mem_cons_of_mem _ hx
 ·exact fun _ h=>h
theorem zd9 {a:Option Addr} {ms:List Nat} {env:Env} {bms:List Nat} {b:Env} (h:ScAt n0 w (.pointer a) ms env) (hb:zc0 w a ms env q bms) (hm:Mv n0 M w w2) (hM:∀ m∈ms,M m->m∈bms) (hq:ScAt n0 w2 q bms b):ScAt n0 w2 (.pointer a) ms (jj env b):=by
 rcases hb with ⟨r,bl,m,rfl,rfl,rfl,h1⟩|⟨h1,rfl,rfl⟩
 ·cases h with
  | cons hb hmv h0 hne hrest=>
   show ScAt n0 w2 _ _ ([]::b);refine .cons (q:=q) ?_ (hmv.mv hm fun h=>hne (hM _ (by simp) h)) h0 hne hq;rw [hm.keep _ (zz7.1 hb).1 (jX hb (by decide)) fun _=>⟨_,_,_,hb⟩];exact h1
 ·have:jj env b =b:=by
   unfold jj
   split
   ·rename_i r
    exact absurd rfl (h1 r)
   ·rfl
  rw [this];exact hq
theorem zci (n0:Nat) (w:World) (a:Option Addr) (ms:List Nat) (env:Env) (hs:ScAt n0 w (.pointer a) ms env) (hne:env≠[]) :
  ∃ q bms,zc0 w a ms env q bms/\Calls Tryz.prog 190 #[.pointer a] w fun e w'=>e =.returned (.pointer (some ⟨w.heap.size+1,0,none⟩))/\w'.heap[w.heap.size+1]? =some (.cells #[.map (some w.heap.size),q] 206 (0,0))/\qs w' w.heap.size []/\Below w.heap.size w w':=by
 cases hs with
 | nil=>exact absurd rfl hne
 | @cons b m q ms f env hb hm h0 hnm hrest=>
  obtain ⟨c0,c1⟩:=zcs hb;obtain ⟨es,hme,hes⟩:=hm;obtain ⟨arr,cl,ho,hl,_⟩:=id hme;have hrl:=run_len_map (P:=Tryz.prog) (w:=w) 204 3 m arr cl Tryz.underlying204 ho;have hlen:arr.size =f.length:=by
   have h1:=congrArg List.length hl;simp at h1;rw [h1,hes.len]
  cases f with
  | nil=>
   obtain ⟨qa,rfl⟩:=hrest.ptr;refine ⟨.pointer qa,ms,.inl ⟨env,b,m,rfl,rfl,rfl,hb⟩,?_⟩;have K:=zz9 (vZ qa w);have he:arr.size =0:=by simpa using hlen
   clear hb hme hes hrest hl hlen;go_enter Tryz.func190,Tryz.ntmps190
   go_wp2_with fail
   refine K.out.mono ?_;rintro e w1 ⟨rfl,k1,k2,k3⟩;have H:=zz9 (And.intro k1 (And.intro k2 k3));clear k1 k2 k3
   go_wp2
   go_ret;exact ⟨rfl,H.out.1,H.out.2.1,H.out.2.2⟩
  | cons p f=>
   refine ⟨.pointer (some ⟨b,0,none⟩),m::ms,.inr ⟨fun r e=>by (injection e with e _;cases e),rfl,rfl⟩,?_⟩;have K:=zz9 (vZ (some ⟨b,0,none⟩) w);have he:((arr.size:Int) == 0) =false:=by rw [hlen];simp;omega
   clear hb hme hes hrest hl hlen;go_enter Tryz.func190,Tryz.ntmps190
   go_wp2_with fail
   refine K.out.mono ?_;rintro e w1 ⟨rfl,k1,k2,k3⟩;have H:=zz9 (And.intro k1 (And.intro k2 k3));clear k1 k2 k3
   go_wp2
   go_ret;exact ⟨rfl,H.out.1,H.out.2.1,H.out.2.2⟩
def kM:List Nat->Env->List Nat->Option Nat
 | m::ms,f::r,s=>match seek f s with
  | some _=>some m
  | none=>kM ms r s
 | _,_,_=>none
theorem jA:∀ {ms:List Nat} {env:Env} {s:List Nat} {m:Nat},kM ms env s =some m->m∈ms
 | m'::ms,f::r,s,m,h=>by
  unfold kM at h;cases hs:seek f s with
  | some v=>rw [hs] at h;injection h with h;rw [h];simp
  | none=>rw [hs] at h;exact List.mem_cons_of_mem _ (jA h)
 | [],_,s,m,h=>by cases h
 | _::_,[],s,m,h=>by cases h
def HadP (w:World) (ms:List Nat) (env:Env) (s:List Nat) (v:Va) (e:Ending) (w':World):Prop:=
 ∃ m es u,e =.returned (.map (some m))/\kM ms env s =some m/\qs w' m es/\seek es s =some u/\VaC w' v u/\Below w.heap.size w w'
theorem zgp (n0:Nat) (w:World) (a:Option Addr) (ms:List Nat) (env:Env) (s:List Nat) (v:Va) (hs:ScAt n0 w (.pointer a) ms env) (hy:Byn s) (hl:kQ env s =some v) :
  Calls Tryz.prog 192 #[.pointer a,.string (strN s)] w (HadP w ms env s v):=by
 have hz:∀ w,(zeroValue 41).run Tryz.prog w =.ok (VV 0 0 kB) w:=fun w=>by simp [Tryz.zeroValue41]
 have H0:Hid (ScAt n0 w (.pointer a) ms env/\kQ env s =some v):=⟨hs,hl⟩;have HY:=zz9 hy;have HZ:=zz9 hz;clear hs hl hy hz;go_enter Tryz.func192,Tryz.ntmps192
 go_wp2_with fail
 go_loopg [0] env.length (fun k x wr=>∃ a' ms' env',x =.pointer a'/\ScAt n0 wr (.pointer a') ms' env'/\env'.length =k/\kM ms' env' s =kM ms env s/\kQ env' s =some v/\Below w.heap.size w wr)
 case atStart=>exact ⟨a,ms,env,rfl,H0.out.1,rfl,rfl,H0.out.2,Below.refl _ _⟩
 case round=>
  obtain ⟨a',ms',env',rfl,hs,hk,hw,hl,hb⟩:=hrel;cases hs with
  | nil=>cases hl
  | @cons b m q ms2 f env2 hbl hm h0 hnm hrest=>
   obtain ⟨c0,c1⟩:=zcs hbl;obtain ⟨es,hme,hes⟩:=hm;obtain ⟨qa,rfl⟩:=hrest.ptr;have hrun:=jH hme HY.out Tryz.underlying204 (HZ.out wr);have HB:=zz9 hb;have HL:=zz9 hl;have HW:=zz9 hw;have HK:=zz9 hk;have HRR:=zz9 hrest;have HM:=zz9 hme;have HBL:=zz9 hbl;have hlt:b < wr.heap.size:=(zz7.1 hbl).1;have b1:=za wr zO;have HT:=xE wr;have c0':=zb c0 b1;have c1':=zb c1 b1;have HB1:=zz9 b1;have HLT:=zz9 hlt;rcases hes.seek s with ⟨e1,e2⟩|⟨v',u,e1,e2,hv⟩
   ·rw [e2] at hrun
    simp only [Option.getD_none,Option.isSome_none] at hrun;have HE:=zz9 e1;clear hb hl hw hk hrest hme hbl hes e1 e2 b1 hnm hlt
    go_wp2_with (refine zi zu rfl (.tmp 5) (.tmp 20) rfl rfl wr.heap.size rfl [_,_,_] rfl rfl HT (by simp [Value.oneCell']) ?_;intro w2 g1 g2 g3 g4 g5;have d1:=(g3.cell (p:=⟨b,1,none⟩) HLT.out).trans c1';replace g3:=zz9 g3;clear g1 g2 g4 g5 c0 c1 c0' c1' hrun HT)
    have B2:=zd HB.out (HB1.out.trans g3.out) HB.out.size;have R2:=HRR.out.on (HB1.out.trans g3.out);have W2:kM ms2 env2 s =kM ms env s:=by
     rw [<- HW.out]
     conv=>rhs;unfold kM
     rw [HE.out]
    have L2:kQ env2 s =some v:=by
     have h:=HL.out;unfold kQ at h;rw [HE.out] at h;exact h
    have K2:env2.length < gk:=by rw [<- HK.out];simp
    have HZ2:=zz9 (And.intro B2 (And.intro R2 (And.intro W2 (And.intro L2 K2))));clear B2 R2 W2 L2 K2
    go_roundg env2.length
    case measure=>exact HZ2.out.2.2.2.2
    case rel=>exact ⟨qa,ms2,env2,rfl,HZ2.out.2.1,rfl,HZ2.out.2.2.1,HZ2.out.2.2.2.1,HZ2.out.1⟩
   ·rw [e2] at hrun
    simp only [Option.getD_some,Option.isSome_some] at hrun;obtain ⟨k',A,kc,rfl,rfl,hk',hfit⟩:=zbj hv;have HF:Hid (v' =v/\kM ms env s =some m/\VaC wr v' (VV v'.t v'.n (.slice A v'.s.length kc))/\seek es s =some (VV v'.t v'.n (.slice A v'.s.length kc))):=by
     refine ⟨?_,?_,hv,e2⟩
     ·have h:=hl
      unfold kQ at h;rw [e1] at h;injection h
     ·rw [<- hw]
      conv=>lhs;unfold kM
      rw [e1]
    clear hb hl hw hk hrest hme hbl hes e1 e2 b1 hnm hlt hk' hfit hv
    go_wp2_with (refine zi zu rfl (.tmp 5) (.tmp 20) rfl rfl wr.heap.size rfl [_,_,_] rfl rfl HT (by simp [Value.oneCell']) ?_;intro w2 g1 g2 g3 g4 g5;have d0:=(g3.cell (p:=⟨b,0,none⟩) HLT.out).trans c0';replace g3:=zz9 g3;clear g1 g2 g4 g5 c0 c1 c0' c1' hrun HT)
    go_ret;have h2:=HB1.out.trans g3.out;have hM2:=HM.out.of (h2.block _ HM.out.lt);obtain ⟨rfl,h3,h4,h5⟩:=HF.out;exact ⟨m,es,_,rfl,h3,hM2,h5,h4.on h2,zd HB.out h2 HB.out.size⟩
end
section
open Go.RowKit Go.MapKept
variable [Prt]
theorem xq {X:Cx10} {σ:Stt} (h:RunS X c σ w):w.cell? ⟨X.R,0,none⟩ =some (.map (some X.g))/\w.cell? ⟨X.R,1,none⟩ =some (.pointer (some ⟨X.J,0,none⟩))/\w.cell? ⟨X.R,2,none⟩ =some (.int .i64 X.lim)/\w.cell? ⟨X.R,3,none⟩ =some (.int .i64 σ.used)/\w.cell? ⟨X.R,4,none⟩ =some (.int .i64 c):=by
 refine ⟨?_,?_,?_,?_,?_⟩ <;> simp [World.cell?,h.cell]
theorem zd0 {X:Cx10} {σ:Stt} (h:RunS X c σ w):w.there X.R 2 2:=by
 intro j hj;have:j =0\/j =1:=by omega
 rcases this with rfl|rfl <;> simp [World.cell?,World.frozen?,h.cell]
theorem zlk {X:Cx10} {σ:Stt} (h:RunS X c σ w) (u:Int) (hu:σ.used<=u) (hl:u<=X.lim) :
  RunS X c { σ with used:=u } (w.setCells X.R 2 [.int .i64 X.lim,.int .i64 u])/\Mv X.n0 NoM w (w.setCells X.R 2 [.int .i64 X.lim,.int .i64 u]):=by
 have hg:w.grownBy (w.setCells X.R 2 [.int .i64 X.lim,.int .i64 u]) (some X.R):=by
  have h1:=(World.grownBy.refl w (some X.R));refine ⟨rfl,rfl,rfl,by simp [World.setCells,World.setCell],fun i _ hi=>?_⟩;have hi':i≠X.R:=fun e=>hi (by rw [e]);show ((w.setCell ⟨X.R,2,none⟩ _).setCell ⟨X.R,3,none⟩ _).heap[i]? =_;rw [zf _ _ _ _ _ hi',zf _ _ _ _ _ hi']
 have hc:(w.setCells X.R 2 [.int .i64 X.lim,.int .i64 u]).heap[X.R]? =some (.cells #[.map (some X.g),.pointer (some ⟨X.J,0,none⟩),.int .i64 X.lim,.int .i64 u,.int .i64 c] 105 (0,0)):=by
  show ((w.setCell ⟨X.R,2,none⟩ _).setCell ⟨X.R,3,none⟩ _).heap[X.R]? =_;exact heap_setCell_same _ _ 3 _ _ _ (heap_setCell_same w X.R 2 _ _ _ h.cell)
 obtain ⟨h1,h2⟩:=h.own hg c u hc hu hl;exact ⟨h1,Mv.own hg h2 h.sq⟩
theorem wJ {α:Type} {X:Cx10} {Q:World->α->Value->Prop} {r:Ou α} {a:α} {σ:Stt} {v:Value} (hr:r =.ok a σ) (hm:Mv X.n0 M w w') (hq:Q w' a v) (hs:RunS X c σ w'):qR X c M Q w r (.returned v) w':=by
 subst hr;exact ⟨hm,v,rfl,hq,hs⟩
theorem zy {α:Type} {X:Cx10} {Q:World->α->Value->Prop} {r:Ou α} {t:Int} {σ:Stt} (hr:r =.trap t σ) (hm:Mv X.n0 M w w') (hs:RunS X c' σ w'):qR X c M Q w r (Trp t) w':=by
 subst hr;exact ⟨hm,rfl,c',hs⟩
def QUn (_:World) (_:Unit) (v:Value):Prop:=v =.tuple #[]
theorem xY (X:Cx10) (c:Nat) (σ:Stt) (w:World) (n:Int) (h0:0<=n) (hn:n<=1000000000) (r:Ou Unit) (hr:RunS X c σ w) (hm:useE X.lim n σ =some r) :
  Calls Tryz.prog 152 #[.pointer (some ⟨X.R,0,none⟩),.int .i64 n] w (qR X c NoM QUn w r):=by
 obtain ⟨z0,z1,z2,z3,z4⟩:=xq hr;have hu0:=hr.u0;have hu1:=hr.u1;have hu2:=hr.u2;have K:=zz9 (useC X.lim σ.used n w (by unfold xt;omega) (by unfold xt;omega) (by unfold xt;omega));have HR:=zz9 hr;by_cases hg:n > X.lim-σ.used
 ·have e:=zo7 (l:=X.lim) (u:=σ.used) (n:=n) (by omega)
  rw [e.1,e.2] at K;have HM:Hid (r =.trap 1 { σ with used:=X.lim }):=by show _ =_;unfold useE at hm;rw [if_pos hg] at hm;injection hm with hm;exact hm.symm
  have HU:Hid (σ.used<=X.lim):=hu1;clear hm hg hr e hu0 hu1 hu2 h0 hn;go_enter Tryz.func152,Tryz.ntmps152
  go_wp2_with fail
  (with_reducible refine K.out.mono ?_)
  rintro e w1 ⟨rfl,hb1⟩;have H1:=HR.out.on hb1;have HT:=zd0 H1;obtain ⟨g1,g2⟩:=zlk H1 X.lim HU.out (Int.le_refl _);have HG:Hid (RunS X c { σ with used:=X.lim } (w1.setCells X.R 2 [.int .i64 X.lim,.int .i64 X.lim])/\Mv X.n0 NoM w (w1.setCells X.R 2 [.int .i64 X.lim,.int .i64 X.lim])):=⟨g1,(Mv.of hb1).trans g2⟩;clear z0 z1 z2 z3 z4 hb1 H1 g1 g2
  go_wp2_with (refine wpList_store_mid rfl 102 (.tmp 16) (.tmp 13) rfl X.R 2 #[.int .i64 X.lim,.int .i64 X.lim] rfl rfl HT wi (by simp [Value.oneCell']) ?_)
  refine (kt 1 (by decide) _).mono ?_;rintro e w3 ⟨rfl,rfl⟩;exact ⟨rfl,zy HM.out HG.out.2 HG.out.1⟩
 ·have e:=zgg (l:=X.lim) (u:=σ.used) (n:=n) (by omega)
  rw [e.1,e.2] at K;have HM:Hid (r =.ok () { σ with used:=σ.used+n }):=by show _ =_;unfold useE at hm;rw [if_neg hg] at hm;injection hm with hm;exact hm.symm
  have HU:Hid (σ.used<=σ.used+n/\σ.used+n<=X.lim):=⟨by omega,by omega⟩;clear hm hg hr e hu0 hu1 hu2 h0 hn
  generalize σ.used+n =u at *
  go_enter Tryz.func152,Tryz.ntmps152
  go_wp2_with fail
  (with_reducible refine K.out.mono ?_)
  rintro e w1 ⟨rfl,hb1⟩;have H1:=HR.out.on hb1;have HT:=zd0 H1;obtain ⟨g1,g2⟩:=zlk H1 u HU.out.1 HU.out.2;have HG:Hid (RunS X c { σ with used:=u } (w1.setCells X.R 2 [.int .i64 X.lim,.int .i64 u])/\Mv X.n0 NoM w (w1.setCells X.R 2 [.int .i64 X.lim,.int .i64 u])):=⟨g1,(Mv.of hb1).trans g2⟩;clear z0 z1 z2 z3 z4 hb1 H1 g1 g2
  go_wp2_with (refine wpList_store_mid rfl 102 (.tmp 16) (.tmp 13) rfl X.R 2 #[.int .i64 X.lim,.int .i64 u] rfl rfl HT wi (by simp [Value.oneCell']) ?_)
  go_end0
  exact wJ HM.out HG.out.2 rfl HG.out.1
end
section
section
open Go.RowKit
def jP (v:Value) (f:Int->Int->Ans) (D:Nat->Prop) (w0:World):Prop:=
 ∃ fn caps,v =.func (.func fn) #[] caps/\Ent fn/\∀ (a b:Int) (w:World),fits a->fits b->Kept D w0 w->Calls Tryz.prog fn (#[.int .i64 a,.int .i64 b]++caps) w fun e w'=>e =.returned (AV (f a b))/\Below w.heap.size w w'
def xL (v:Value) (f:Bool->Bool->Bool) (D:Nat->Prop) (w0:World):Prop:=∃ fn caps,v =.func (.func fn) #[] caps/\zks fn caps f D w0
def FnV (v:Value):Prop:=v =.nilFunc\/∃ fn caps,v =.func (.func fn) #[] caps
theorem FnV.one {v:Value} (h:FnV v):v.oneCell' =true:=by
 rcases h with rfl|⟨_,_,rfl⟩ <;> rfl
theorem FnV.fn (fn:Nat) (caps:Array Value):FnV (.func (.func fn) #[] caps):=.inr ⟨_,_,rfl⟩
theorem FnV.no:FnV .nilFunc:=.inl rfl
theorem jP.v {v:Value} {f:Int->Int->Ans} (h:jP v f D w):FnV v:=by obtain ⟨fn,caps,rfl,_⟩:=h;exact .fn _ _
theorem xL.v {v:Value} {f:Bool->Bool->Bool} (h:xL v f D w):FnV v:=by obtain ⟨fn,caps,rfl,_⟩:=h;exact .fn _ _
def RowI (f:Int->Int->Ans) (w:World) (e:Ending) (w':World):Prop:=
 ∃ D v1 v2 v3,e =.returned (.agg #[v1,v2,v3])/\(∀ k,D k->k < w'.heap.size)/\jP v1 f D w'/\FnV v2/\FnV v3/\Below w.heap.size w w'
def RowB (f:Bool->Bool->Bool) (w:World) (e:Ending) (w':World):Prop:=
 ∃ D v1 v2 v3,e =.returned (.agg #[v1,v2,v3])/\(∀ k,D k->k < w'.heap.size)/\FnV v1/\xL v2 f D w'/\FnV v3/\Below w.heap.size w w'
abbrev rO:Obj:=.cells #[.nilFunc,.nilFunc,.nilFunc] 319
theorem zgk (fn:Nat) (f:Int->Int->Int) (hf:zhf fn f) (w:World):Calls Tryz.prog 307 #[.func (.func fn) #[] #[]] w fun e w'=>∃ v,e =.returned v/\jP v (x9 f) (fun k=>k =w.heap.size) w'/\w.heap.size < w'.heap.size/\Below w.heap.size w w':=by
 have hmf:∀ (fn:Fn) (first cap:Array Value) (w:World),(Instr.makeFunc fn first cap).run Tryz.prog w =.ok (.func fn first cap) w:=fun _ _ _ _=>rfl;have HF:=zz9 hf;go_enter Tryz.func307,Tryz.ntmps307
 go_wp2
 go_ret;refine ⟨_,rfl,⟨334,_,rfl,by intro args w;simp,fun a b w1 ha hb hw=>?_⟩,by simp,za _ _⟩;exact divC fn f HF.out a b w.heap.size w1 ha hb (hw.cell rfl (by rw [cell_of_row _ _ _ _ _ _ (heap_alloc_new w _)];rfl))
theorem jJ (fn:Nat) (caps:Array Value) (h:Int->Bool) (D:Nat->Prop) (w:World) (hD:∀ k,D k->k < w.heap.size) (hf:jZ fn caps h D w):Calls Tryz.prog 310 #[.func (.func fn) #[] caps] w fun e w'=>∃ v,e =.returned v/\jP v (jW h) (fun k=>D k\/k =w.heap.size) w'/\w.heap.size < w'.heap.size/\Below w.heap.size w w':=by
 have hmf:∀ (fn:Fn) (first cap:Array Value) (w:World),(Instr.makeFunc fn first cap).run Tryz.prog w =.ok (.func fn first cap) w:=fun _ _ _ _=>rfl;have HF:=zz9 hf;go_enter Tryz.func310,Tryz.ntmps310
 go_wp2
 go_ret;refine ⟨_,rfl,⟨335,_,rfl,by intro args w;simp,fun a b w1 ha hb hw=>?_⟩,by simp,za _ _⟩;have hw':Kept D w w1:=fun k hk=>⟨hD k hk,by rw [(hw k (.inl hk)).2,(za w _).block k (hD k hk)]⟩;exact ordC fn caps h w D HF.out a b w.heap.size w1 hw' (hw.cell (.inr rfl) (by rw [cell_of_row _ _ _ _ _ _ (heap_alloc_new w _)];rfl))
theorem qB (w:World):(w.alloc rO).there w.heap.size 0 3:=xJ (cs:=[.nilFunc,.nilFunc,.nilFunc]) (heap_alloc_new w _) rfl
theorem zfk {fn:Nat} {f:Int->Int->Ans} (he:Ent fn) (h:∀ a b w,fits a->fits b->Calls Tryz.prog fn #[.int .i64 a,.int .i64 b] w fun e w'=>e =.returned (AV (f a b))/\Below w.heap.size w w') (w:World):jP (.func (.func fn) #[] #[]) f (fun _=>False) w:=
 ⟨fn,#[],rfl,he,fun a b w ha hb _=>by simpa using h a b w ha hb⟩
theorem ztm:Ent 304:=by intro args w;simp
theorem zu6:Ent 293:=by intro args w;simp
theorem zv8:Ent 306:=by intro args w;simp
theorem jP.later {v:Value} {f:Int->Int->Ans} (h:jP v f D w) (hk:Kept D w w'):jP v f D w':=by
 obtain ⟨fn,caps,rfl,he,hc⟩:=h;exact ⟨fn,caps,rfl,he,fun a b w1 ha hb hw=>hc a b w1 ha hb fun k h1=>⟨(hk k h1).1,by rw [(hw k h1).2,(hk k h1).2]⟩⟩
theorem zoi (w:World):Calls Tryz.prog 290 #[.string ⟨#[43]⟩] w (RowI (fun a b=>vJ (a+b)) w):=by
 go_enter Tryz.func290,Tryz.ntmps290
 go_wp2_with (refine zi zH rfl (.tmp 2) (.tmp 6) rfl rfl w.heap.size rfl [_,_,_] rfl rfl (qB w) (by simp [Value.oneCell']) ?_;intro w2 g1 g2 g3 g4 g5)
 refine bodyPost_ret (zU (cs:=[_,_,_]) Tryz.results290 Tryz.underlying319 rfl zH _ _ w.heap.size rfl g1) rfl ?_;exact ⟨_,_,_,_,rfl,fun _ h=>h.elim,zfk ztm sumC _,.no,.fn _ _,(za w rO).trans g3⟩
theorem zki (w:World):Calls Tryz.prog 290 #[.string ⟨#[45]⟩] w (RowI (fun a b=>vJ (a-b)) w):=by
 go_enter Tryz.func290,Tryz.ntmps290
 go_wp2_with (refine zi zH rfl (.tmp 2) (.tmp 9) rfl rfl w.heap.size rfl [_,_,_] rfl rfl (qB w) (by simp [Value.oneCell']) ?_;intro w2 g1 g2 g3 g4 g5)
 refine bodyPost_ret (zU (cs:=[_,_,_]) Tryz.results290 Tryz.underlying319 rfl zH _ _ w.heap.size rfl g1) rfl ?_;exact ⟨_,_,_,_,rfl,fun _ h=>h.elim,zfk zu6 zsk _,.no,.no,(za w rO).trans g3⟩
theorem zl5 (w:World):Calls Tryz.prog 290 #[.string ⟨#[42]⟩] w (RowI (fun a b=>vJ (a*b)) w):=by
 go_enter Tryz.func290,Tryz.ntmps290
 go_wp2_with (refine zi zH rfl (.tmp 2) (.tmp 12) rfl rfl w.heap.size rfl [_,_,_] rfl rfl (qB w) (by simp [Value.oneCell']) ?_;intro w2 g1 g2 g3 g4 g5)
 refine bodyPost_ret (zU (cs:=[_,_,_]) Tryz.results290 Tryz.underlying319 rfl zH _ _ w.heap.size rfl g1) rfl ?_;exact ⟨_,_,_,_,rfl,fun _ h=>h.elim,zfk zv8 zvo _,.no,.no,(za w rO).trans g3⟩
theorem zpt (w:World):Calls Tryz.prog 290 #[.string ⟨#[47]⟩] w (RowI (x9 Int.tdiv) w):=by
 go_enter Tryz.func290,Tryz.ntmps290
 go_wp2_with fail
 refine (zgk 308 Int.tdiv quoC _).mono ?_;rintro e w1 ⟨v,rfl,hv,hlt,hb1⟩;have HT:=zG (qB w) hb1 (by simp);have HV:=zz9 hv;obtain ⟨fn,caps,rfl,_⟩:=hv
 go_wp2_with (refine zi zH rfl (.tmp 2) (.tmp 16) rfl rfl w.heap.size rfl [_,_,_] rfl rfl HT (by simp [Value.oneCell']) ?_;intro w2 g1 g2 g3 g4 g5)
 refine bodyPost_ret (zU (cs:=[_,_,_]) Tryz.results290 Tryz.underlying319 rfl zH _ _ w.heap.size rfl g1) rfl ?_;refine ⟨_,_,_,_,rfl,fun k hk=>?_,HV.out.later fun k hk=>⟨?_,g4 k ?_⟩,.no,.no,((za w rO).trans (hb1.mono (by simp))).trans g3⟩
 all_goals (simp at hk hlt;omega)
theorem zrn (w:World):Calls Tryz.prog 290 #[.string ⟨#[37]⟩] w (RowI (x9 Int.tmod) w):=by
 go_enter Tryz.func290,Tryz.ntmps290
 go_wp2_with fail
 refine (zgk 309 Int.tmod remC _).mono ?_;rintro e w1 ⟨v,rfl,hv,hlt,hb1⟩;have HT:=zG (qB w) hb1 (by simp);have HV:=zz9 hv;obtain ⟨fn,caps,rfl,_⟩:=hv
 go_wp2_with (refine zi zH rfl (.tmp 2) (.tmp 20) rfl rfl w.heap.size rfl [_,_,_] rfl rfl HT (by simp [Value.oneCell']) ?_;intro w2 g1 g2 g3 g4 g5)
 refine bodyPost_ret (zU (cs:=[_,_,_]) Tryz.results290 Tryz.underlying319 rfl zH _ _ w.heap.size rfl g1) rfl ?_;refine ⟨_,_,_,_,rfl,fun k hk=>?_,HV.out.later fun k hk=>⟨?_,g4 k ?_⟩,.no,.no,((za w rO).trans (hb1.mono (by simp))).trans g3⟩
 all_goals (simp at hk hlt;omega)
theorem zuz (w:World):Calls Tryz.prog 290 #[.string ⟨#[60]⟩] w (RowI (jW (fun n=>decide (n < 0))) w):=by
 go_enter Tryz.func290,Tryz.ntmps290
 go_wp2_with fail
 refine (jJ 311 #[] (fun n=>decide (n < 0)) _ _ (fun _ h=>h.elim) (zug _)).mono ?_;rintro e w1 ⟨v,rfl,hv,hlt,hb1⟩;have HT:=zG (qB w) hb1 (by simp);have HV:=zz9 hv;obtain ⟨fn,caps,rfl,_⟩:=hv
 go_wp2_with (refine zi zH rfl (.tmp 2) (.tmp 24) rfl rfl w.heap.size rfl [_,_,_] rfl rfl HT (by simp [Value.oneCell']) ?_;intro w2 g1 g2 g3 g4 g5)
 refine bodyPost_ret (zU (cs:=[_,_,_]) Tryz.results290 Tryz.underlying319 rfl zH _ _ w.heap.size rfl g1) rfl ?_;refine ⟨_,_,_,_,rfl,fun k hk=>?_,HV.out.later fun k hk=>⟨?_,g4 k ?_⟩,.no,.no,((za w rO).trans (hb1.mono (by simp))).trans g3⟩
 all_goals (simp at hk hlt;omega)
theorem zsy (w:World):Calls Tryz.prog 290 #[.string ⟨#[60,61]⟩] w (RowI (jW (fun n=>decide (n<=0))) w):=by
 go_enter Tryz.func290,Tryz.ntmps290
 go_wp2_with fail
 refine (jJ 312 #[] (fun n=>decide (n<=0)) _ _ (fun _ h=>h.elim) (zsi _)).mono ?_;rintro e w1 ⟨v,rfl,hv,hlt,hb1⟩;have HT:=zG (qB w) hb1 (by simp);have HV:=zz9 hv;obtain ⟨fn,caps,rfl,_⟩:=hv
 go_wp2_with (refine zi zH rfl (.tmp 2) (.tmp 28) rfl rfl w.heap.size rfl [_,_,_] rfl rfl HT (by simp [Value.oneCell']) ?_;intro w2 g1 g2 g3 g4 g5)
 refine bodyPost_ret (zU (cs:=[_,_,_]) Tryz.results290 Tryz.underlying319 rfl zH _ _ w.heap.size rfl g1) rfl ?_;refine ⟨_,_,_,_,rfl,fun k hk=>?_,HV.out.later fun k hk=>⟨?_,g4 k ?_⟩,.no,.no,((za w rO).trans (hb1.mono (by simp))).trans g3⟩
 all_goals (simp at hk hlt;omega)
theorem zsm (w:World):Calls Tryz.prog 290 #[.string ⟨#[62]⟩] w (RowI (jW (fun n=>decide (0 < n))) w):=by
 go_enter Tryz.func290,Tryz.ntmps290
 go_wp2_with fail
 refine (jJ 313 #[] (fun n=>decide (0 < n)) _ _ (fun _ h=>h.elim) (zr6 _)).mono ?_;rintro e w1 ⟨v,rfl,hv,hlt,hb1⟩;have HT:=zG (qB w) hb1 (by simp);have HV:=zz9 hv;obtain ⟨fn,caps,rfl,_⟩:=hv
 go_wp2_with (refine zi zH rfl (.tmp 2) (.tmp 32) rfl rfl w.heap.size rfl [_,_,_] rfl rfl HT (by simp [Value.oneCell']) ?_;intro w2 g1 g2 g3 g4 g5)
 refine bodyPost_ret (zU (cs:=[_,_,_]) Tryz.results290 Tryz.underlying319 rfl zH _ _ w.heap.size rfl g1) rfl ?_;refine ⟨_,_,_,_,rfl,fun k hk=>?_,HV.out.later fun k hk=>⟨?_,g4 k ?_⟩,.no,.no,((za w rO).trans (hb1.mono (by simp))).trans g3⟩
 all_goals (simp at hk hlt;omega)
theorem zsg (w:World):Calls Tryz.prog 290 #[.string ⟨#[62,61]⟩] w (RowI (jW (fun n=>decide (0<=n))) w):=by
 go_enter Tryz.func290,Tryz.ntmps290
 go_wp2_with fail
 refine (jJ 314 #[] (fun n=>decide (0<=n)) _ _ (fun _ h=>h.elim) (zsp _)).mono ?_;rintro e w1 ⟨v,rfl,hv,hlt,hb1⟩;have HT:=zG (qB w) hb1 (by simp);have HV:=zz9 hv;obtain ⟨fn,caps,rfl,_⟩:=hv
 go_wp2_with (refine zi zH rfl (.tmp 2) (.tmp 36) rfl rfl w.heap.size rfl [_,_,_] rfl rfl HT (by simp [Value.oneCell']) ?_;intro w2 g1 g2 g3 g4 g5)
 refine bodyPost_ret (zU (cs:=[_,_,_]) Tryz.results290 Tryz.underlying319 rfl zH _ _ w.heap.size rfl g1) rfl ?_;refine ⟨_,_,_,_,rfl,fun k hk=>?_,HV.out.later fun k hk=>⟨?_,g4 k ?_⟩,.no,.no,((za w rO).trans (hb1.mono (by simp))).trans g3⟩
 all_goals (simp at hk hlt;omega)
theorem xL.later {v:Value} {f:Bool->Bool->Bool} (h:xL v f D w) (hk:Kept D w w'):xL v f D w':=by
 obtain ⟨fn,caps,rfl,he,hc⟩:=h;exact ⟨fn,caps,rfl,he,fun a b w1 hw=>hc a b w1 fun k h1=>⟨(hk k h1).1,by rw [(hw k h1).2,(hk k h1).2]⟩⟩
theorem xL.more {v:Value} {f:Bool->Bool->Bool} (h:xL v f D w) (hk:∀ k,D k->D' k):xL v f D' w:=by
 obtain ⟨fn,caps,rfl,he,hc⟩:=h;exact ⟨fn,caps,rfl,he,fun a b w1 hw=>hc a b w1 fun k h1=>hw k (hk k h1)⟩
def RowE (h:Bool->Bool) (w:World) (e:Ending) (w':World):Prop:=
 ∃ D v1 v2 v3,e =.returned (.agg #[v1,v2,v3])/\(∀ k,D k->w.heap.size<=k/\k < w'.heap.size)/\jP v1 (jW fun n=>h (n == 0)) D w'/\xL v2 (fun a b=>h (a == b)) D w'/\FnV v3/\Below w.heap.size w w'
theorem ze7 (fn:Nat) (h:Bool->Bool) (hf:zd3 fn h) (w:World):Calls Tryz.prog 315 #[.func (.func fn) #[] #[]] w (RowE h w):=by
 have hmf:∀ (fn:Fn) (first cap:Array Value) (w:World),(Instr.makeFunc fn first cap).run Tryz.prog w =.ok (.func fn first cap) w:=fun _ _ _ _=>rfl;have hcell:((w.alloc (.cells #[.func (.func fn) #[] #[]] 335)).alloc rO).cell? ⟨w.heap.size,0,none⟩ =some (.func (.func fn) #[] #[]):=by
  rw [cell_of_row _ _ _ _ _ _ (show ((w.alloc (.cells #[.func (.func fn) #[] #[]] 335)).alloc rO).heap[w.heap.size]? =some _ by rw [Below.heap_alloc _ _ _ (by simp)];exact heap_alloc_new w _)];rfl
 have K:=zz9 (jJ 337 #[.pointer (some ⟨w.heap.size,0,none⟩)] (fun n=>h (n == 0)) (fun k=>k =w.heap.size) _ (by intro k hk;subst hk;simp;omega) (zo3 fn h hf w.heap.size _ hcell));have HF:=zz9 hf;have HT0:((w.alloc (.cells #[.func (.func fn) #[] #[]] 335)).alloc rO).there (w.heap.size+1) 0 3:=xJ (cs:=[.nilFunc,.nilFunc,.nilFunc]) (by have:=heap_alloc_new (w.alloc (.cells #[.func (.func fn) #[] #[]] 335)) rO;simpa using this) rfl;have HC:=zz9 hcell;clear hcell;go_enter Tryz.func315,Tryz.ntmps315
 go_wp2_with fail
 refine K.out.mono ?_;rintro e w1 ⟨v,rfl,hv,hlt,hb1⟩;have HT:=zG HT0 hb1 (by simp);have HV:=zz9 hv;obtain ⟨fn',caps,rfl,_⟩:=hv;clear K
 go_wp2_with (refine zi zH rfl (.tmp 2) (.tmp 7) rfl rfl (w.heap.size+1) rfl [_,_,_] rfl rfl HT (by simp [Value.oneCell']) ?_;intro w2 g1 g2 g3 g4 g5)
 refine bodyPost_ret (zU (cs:=[_,_,_]) Tryz.results315 Tryz.underlying319 rfl zH _ _ (w.heap.size+1) rfl g1) rfl ?_;have hb2:=zpl fn h HF.out w.heap.size w1 (yZ hb1 (by simp;omega) HC.out);simp only [World.size_alloc] at hlt;have hK:Kept (fun k=>k =w.heap.size\/k =((w.alloc (.cells #[.func (.func fn) #[] #[]] 335)).alloc rO).heap.size) w1 w2:=fun k hk=>by
  simp only [World.size_alloc] at hk;exact ⟨by omega,g4 k (by omega)⟩
 refine ⟨_,_,_,_,rfl,fun k hk=>?_,HV.out.later hK,xL.later (xL.more ⟨338,_,rfl,hb2⟩ (fun k hk=>.inl hk)) hK,.fn _ _,?_⟩
 ·simp only [World.size_alloc] at hk
  omega
 ·exact ((xD w _ _).trans (hb1.mono (by simp;omega))).trans (g3.mono (by omega))
theorem zo5 (w:World):Calls Tryz.prog 290 #[.string ⟨#[61,61]⟩] w (RowE (fun b=>b) w):=by
 go_enter Tryz.func290,Tryz.ntmps290
 go_wp2_with fail
 refine (ze7 316 _ zpn _).mono ?_;rintro e w1 ⟨D,v1,v2,v3,rfl,hD,h1,h2,h3,hb1⟩;have HT:=zG (qB w) hb1 (by simp);have HV:=zz9 h1;have HV2:=zz9 h2;have HV3:=zz9 h3;have o3:=h3.one;have o1:=h1.v.one;have o2:=h2.v.one;clear h1 h2 h3
 go_wp2_with (refine zi zH rfl (.tmp 2) (.tmp 39) rfl rfl w.heap.size rfl [_,_,_] rfl rfl HT (by simp [o1,o2,o3]) ?_;intro w2 g1 g2 g3 g4 g5)
 refine bodyPost_ret (zU (cs:=[_,_,_]) Tryz.results290 Tryz.underlying319 rfl zH _ _ w.heap.size rfl g1) rfl ?_;have hK:Kept D w1 w2:=fun k hk=>⟨(hD k hk).2,g4 k (by have:=(hD k hk).1;simp at this;omega)⟩;exact ⟨_,_,_,_,rfl,fun k hk=>⟨by have:=(hD k hk).1;simp at this;omega,by rw [g5];exact (hD k hk).2⟩,HV.out.later hK,HV2.out.later hK,HV3.out,((za w rO).trans (hb1.mono (by simp))).trans g3⟩
theorem zpb (w:World):Calls Tryz.prog 290 #[.string ⟨#[33,61]⟩] w (RowE (fun b=>!b) w):=by
 go_enter Tryz.func290,Tryz.ntmps290
 go_wp2_with fail
 refine (ze7 317 _ zqf _).mono ?_;rintro e w1 ⟨D,v1,v2,v3,rfl,hD,h1,h2,h3,hb1⟩;have HT:=zG (qB w) hb1 (by simp);have HV:=zz9 h1;have HV2:=zz9 h2;have HV3:=zz9 h3;have o3:=h3.one;have o1:=h1.v.one;have o2:=h2.v.one;clear h1 h2 h3
 go_wp2_with (refine zi zH rfl (.tmp 2) (.tmp 42) rfl rfl w.heap.size rfl [_,_,_] rfl rfl HT (by simp [o1,o2,o3]) ?_;intro w2 g1 g2 g3 g4 g5)
 refine bodyPost_ret (zU (cs:=[_,_,_]) Tryz.results290 Tryz.underlying319 rfl zH _ _ w.heap.size rfl g1) rfl ?_;have hK:Kept D w1 w2:=fun k hk=>⟨(hD k hk).2,g4 k (by have:=(hD k hk).1;simp at this;omega)⟩;exact ⟨_,_,_,_,rfl,fun k hk=>⟨by have:=(hD k hk).1;simp at this;omega,by rw [g5];exact (hD k hk).2⟩,HV.out.later hK,HV2.out.later hK,HV3.out,((za w rO).trans (hb1.mono (by simp))).trans g3⟩
theorem RowE.ints {h:Bool->Bool} {e:Ending} (r:RowE h w e w'):RowI (jW fun n=>h (n == 0)) w e w':=by
 obtain ⟨D,v1,v2,v3,he,hD,h1,h2,h3,hb⟩:=r;exact ⟨D,v1,v2,v3,he,fun k hk=>(hD k hk).2,h1,h2.v,h3,hb⟩
theorem RowE.bools {h:Bool->Bool} {e:Ending} (r:RowE h w e w'):RowB (fun a b=>h (a == b)) w e w':=by
 obtain ⟨D,v1,v2,v3,he,hD,h1,h2,h3,hb⟩:=r;exact ⟨D,v1,v2,v3,he,fun k hk=>(hD k hk).2,h1.v,h2,h3,hb⟩
end
section
open Go.RowKit
abbrev vO (t n:Int) (k:Value):Obj:=.cells #[.int .i64 t,.int .i64 n,k] 41
structure zg7 (w:World) (t n t' n':Int) (k k':Value) (w':World):Prop where
 x:At6 w' w.heap.size t n k
 y:At6 w' (w.heap.size+1) t' n' k'
 z:At6 w' (w.heap.size+1+1) 0 0 kB
 sz:w.heap.size+3<=w'.heap.size
 bl:Below w.heap.size w w'
theorem jx (w:World) (t n t' n':Int) (k k':Value):zg7 w t n t' n' k k' (((w.alloc (vO t n k)).alloc (vO t' n' k')).alloc zO) where
 x:=((yw w t n k).below (za _ (vO t' n' k')) (by simp)).below (za _ zO) (by simp;omega)
 y:=by have:=(yw (w.alloc (vO t n k)) t' n' k').below (za _ zO) (by simp);simpa using this
 z:=by have:=yw ((w.alloc (vO t n k)).alloc (vO t' n' k')) 0 0 kB;simpa using this
 sz:=by simp
 bl:=(xD w _ _).alloc (by simp;omega) _
theorem zg7.below {t n t' n':Int} {k k':Value} (h:zg7 w t n t' n' k k' w') (hb:Below w'.heap.size w' w''):zg7 w t n t' n' k k' w'' where
 x:=h.x.below hb (by have:=h.sz;omega)
 y:=h.y.below hb (by have:=h.sz;omega)
 z:=h.z.below hb (by have:=h.sz;omega)
 sz:=zzA2 h.sz hb.size
 bl:=h.bl.trans (hb.mono (by have:=h.sz;omega))
theorem zi9 (q:Nat) (t:TypeId) {d:TypeDesc} (h:Tryz.prog.underlying t =some d) (hd:∃ a b c,d =.func a b c) (fn:Nat) (caps:Array Value) (w:World):(Op.equalIn (q+1) t (.func (.func fn) #[] caps) .nilFunc).run Tryz.prog w =.ok false w:=by
 obtain ⟨a,b,c,rfl⟩:=hd;simp [Op.equalIn,run_underlying h]
theorem zoe (t:TypeId) {d:TypeDesc} (h:Tryz.prog.underlying t =some d) (hd:∃ a b c,d =.func a b c) (fn:Nat) (caps:Array Value) (w:World):(Op.equal t (.func (.func fn) #[] caps) .nilFunc).run Tryz.prog w =.ok false w:=zi9 9999 t h hd fn caps w
theorem zea (t:TypeId) {d:TypeDesc} (h:Tryz.prog.underlying t =some d) (hd:∃ a b c,d =.func a b c) (fn:Nat) (caps:Array Value) (w:World):(binOp .neq t (.func (.func fn) #[] caps) .nilFunc).run Tryz.prog w =.ok (.bool true) w:=by
 simp only [binOp];simp [zoe t h hd fn caps w]
theorem kP {b:Nat} {v1 v2 v3:Value} (h:w.rangeAt b 0 [v1,v2,v3]):w.cell? ⟨b,0,none⟩ =some v1/\w.cell? ⟨b,1,none⟩ =some v2/\w.cell? ⟨b,2,none⟩ =some v3:=⟨h 0 _ rfl,h 1 _ rfl,h 2 _ rfl⟩
theorem twoI (S:ByteArray) (f:Int->Int->Ans) (hrow:∀ w,Calls Tryz.prog 290 #[.string S] w (RowI f w)) (a b:Int) (k k':Value) (w:World) (ha:fits a) (hb:fits b) :
  Calls Tryz.prog 262 #[.string S,VV 1 a k,VV 1 b k'] w fun e w'=>e =.returned (AV (f a b))/\Below w.heap.size w w':=by
 have H0:=zz9 (jx w 1 a 1 b k k');have HR:=zz9 hrow;have HA:=zz9 ha;have HB:=zz9 hb;clear hrow ha hb;have hq:=fun fn caps w=>zea 315 Tryz.underlying315 ⟨_,_,_,rfl⟩ fn caps w;go_enter Tryz.func262,Tryz.ntmps262
 go_wp2_with fail
 refine (HR.out _).mono ?_;rintro e w1 ⟨D,v1,v2,v3,rfl,hD,h1,h2,h3,hb1⟩;have H1:=zz9 (H0.out.below hb1);have o3:=h3.one;have o2:=h2.one;have HI:=zz9 h1;obtain ⟨fn,caps,rfl,hent,hcall⟩:=h1;unfold Ent at hent;have HC:=zz9 hcall;have HD:=zz9 hD;clear hcall hD h2 h3 hb1 H0
 go_wp2_with (refine zi zH rfl (.tmp 8) (.tmp 16) rfl rfl w1.heap.size rfl [_,_,_] rfl rfl (qB w1) (by simp [o2,o3];rfl) ?_;intro w2 g1 g2 g3 g4 g5;have hb2:Below w1.heap.size w1 w2:=(za w1 rO).trans g3;obtain ⟨x0,x1,x2⟩:=(H1.out.below hb2).x.cells;obtain ⟨y0,y1,y2⟩:=(H1.out.below hb2).y.cells;obtain ⟨r0,r1,r2⟩:=kP g1;have HG:=zz9 (And.intro g1 g5);clear g1 g2 g3 g4 g5)
 refine (HC.out a b w2 HA.out HB.out (fun k hk=>⟨HD.out k hk,hb2.block k (HD.out k hk)⟩)).mono ?_;rintro e w3 ⟨rfl,hb3⟩;have H3:=zz9 ((H1.out.below hb2).below hb3);clear x0 x1 x2 y0 y1 y2 r0 r1 r2 hb2 hb3
 go_wp2_with (refine zi zu rfl (.tmp 6) (.tmp 33) rfl rfl (w.heap.size+1+1) rfl [_,_,_] rfl rfl H3.out.z.2 (by simp [Value.oneCell']) ?_;intro w4 g1 g2 g3 g4 g5)
 refine bodyPost_ret (zP (cs:=[_,_,_]) Tryz.results262 Tryz.underlying41 rfl zu _ _ (w.heap.size+1+1) rfl g1) rfl ?_;exact ⟨rfl,H3.out.bl.trans (g3.mono (by omega))⟩
end
section
open Go.RowKit
theorem Kept.of (hb:Below w.heap.size w w') (hD:∀ k,D k->k < w.heap.size):Kept D w w':=fun k hk=>⟨hD k hk,hb.block k (hD k hk)⟩
theorem Kept.cells (h:Kept D w w') (hg:¬D g) (cs:List Value):Kept D w (w'.setCells g o cs):=fun k hk=>⟨(h k hk).1,by rw [(qZ g o cs w').2.1 k (fun e=>hg (e ▸ hk))];exact (h k hk).2⟩
theorem Kept.cell' (h:Kept D w w') {a:Addr} (hc:D a.block) {v:Value} (hv:w.cell? a =some v):w'.cell? a =some v:=by
 rw [World.cell?_of_block (h _ hc).2];exact hv
theorem At6.keptc (hk:Kept D w w') {b:Nat} (hc:D b) {t n:Int} {k:Value} (h:At6 w b t n k):w'.cell? ⟨b,0,none⟩ =some (.int .i64 t)/\w'.cell? ⟨b,1,none⟩ =some (.int .i64 n)/\w'.cell? ⟨b,2,none⟩ =some k:=
 ⟨hk.cell' hc h.cells.1,hk.cell' hc h.cells.2.1,hk.cell' hc h.cells.2.2⟩
theorem zbk (w:World) (t n:Int) (k:Value):At6 ((w.alloc (vO t n k)).alloc zO) w.heap.size t n k/\At6 ((w.alloc (vO t n k)).alloc zO) (w.heap.size+1) 0 0 kB/\Below w.heap.size w ((w.alloc (vO t n k)).alloc zO):=
 ⟨(yw w t n k).below (za _ zO) (by simp),by have:=yw (w.alloc (vO t n k)) 0 0 kB;simpa using this,xD w _ _⟩
theorem zrv (a:Int) (k:Value) (w:World) (ha:fits a) :
  Calls Tryz.prog 264 #[.string ⟨#[45]⟩,VV 1 a k] w fun e w'=>e =.returned (AV (vJ (-a)))/\Below w.heap.size w w':=by
 have H0:=zz9 (zbk w 1 a k);have K:=zz9 (fun w=>by have h:=zsk 0 a w (by unfold fits;omega) ha;rw [Int.zero_sub] at h;exact h);clear ha;go_enter Tryz.func264,Tryz.ntmps264
 go_wp2_with fail
 refine (K.out _).mono ?_;rintro e w1 ⟨rfl,hb1⟩;have HZ:=H0.out.2.1.below hb1 (by simp)
 go_wp2_with (refine zi zu rfl (.tmp 4) (.tmp 17) rfl rfl (w.heap.size+1) rfl [_,_,_] rfl rfl HZ.2 (by simp [Value.oneCell']) ?_;intro w4 g1 g2 g3 g4 g5)
 refine bodyPost_ret (zP (cs:=[_,_,_]) Tryz.results264 Tryz.underlying41 rfl zu _ _ (w.heap.size+1) rfl g1) rfl ?_;exact ⟨rfl,(H0.out.2.2.trans (hb1.mono (by simp;omega))).trans (g3.mono (by omega))⟩
theorem zur (a:Int) (k:Value) (w:World) :
  Calls Tryz.prog 264 #[.string ⟨#[33]⟩,VV 2 a k] w fun e w'=>e =.returned (AV ⟨2,b2i (!(a == 1)),0⟩)/\Below w.heap.size w w':=by
 have H0:=zz9 (zbk w 2 a k);go_enter Tryz.func264,Tryz.ntmps264
 go_wp2_with fail
 refine (zls _ _ _ _).mono ?_;rintro e w1 ⟨rfl,hb1⟩
 go_wp2_with fail
 refine (zez _ _).mono ?_;rintro e w2 ⟨rfl,hb2⟩;have s1:=hb1.size;simp only [World.size_alloc] at s1;have HZ:=(H0.out.2.1.below hb1 (by simp)).below hb2 (by omega)
 go_wp2_with (refine zi zu rfl (.tmp 4) (.tmp 30) rfl rfl (w.heap.size+1) rfl [_,_,_] rfl rfl HZ.2 (by simp [Value.oneCell']) ?_;intro w4 g1 g2 g3 g4 g5)
 refine bodyPost_ret (zP (cs:=[_,_,_]) Tryz.results264 Tryz.underlying41 rfl zu _ _ (w.heap.size+1) rfl g1) rfl ?_;exact ⟨rfl,((H0.out.2.2.trans (hb1.mono (by simp;omega))).trans (hb2.mono (by omega))).trans (g3.mono (by omega))⟩
end
end
section
section
open Go.RowKit
theorem zg4 {base:Nat} {v:Value} (h:w.ownsRow base e 1 v n xs):∀ ad k c,v =.slice (some ad) k c->base<=ad.block:=by
 intro ad k c hv;rcases h.2 with ⟨rfl,_⟩|⟨g,cap,cur,rfl,hb,_⟩
 ·cases hv
 ·injection hv with h1
  injection h1 with h1
  subst h1;exact hb
theorem Lies.other {l:List Value} (h:Lies w B A c l) (hA:∀ ad,A =some ad->ad.block≠g) (hk:∀ k,k≠g->w'.heap[k]? =w.heap[k]?):Lies w' B A c l:=
 ⟨h.1,fun j u hu=>by
  obtain ⟨ad,e,hb,hc⟩:=h.2 j u hu
  exact ⟨ad,e,hb,by rw [World.cell?_of_block (hk _ (by rw [qh];exact hA ad e))];exact hc⟩⟩
def zk2 (w:World) (l:List Int) (e:Ending) (w':World):Prop:=
 ∃ A' c',e =.returned (.slice A' l.length c')/\l.length<=c'/\c'<=maxLen/\Lies w' w'.heap.size A' c' (zA l)/\(∀ ad,A' =some ad->w.heap.size<=ad.block)/\Below w.heap.size w w'
theorem zjc (w:World):(w.alloc (.cells #[] 5)).ownsRow w.heap.size 5 1 (.slice (some ⟨w.heap.size,0,none⟩) 0 0) 0 []:=
 World.ownsRow_made w #[] 0 (zzA0 _) (Nat.zero_le _) rfl
theorem zmf (w:World) (A:Option Addr) (n c:Nat):(binOp .eql 22 (.slice A n c) (.slice none 0 0)).run Tryz.prog w =.ok (.bool A.isNone) w:=by
 simp only [binOp];simp [run_equal_slice_nil w 22 5 A n c Tryz.underlying22]
theorem zso (A:Option Addr) (l:List Int) (c:Nat) (w:World) (hl:Lies w w.heap.size A c (zA l)) (hlen:l.length<=140737488355328) :
  Calls Tryz.prog 260 #[.slice A l.length c] w (zk2 w l):=by
 obtain ⟨i0,hi,hz0,hz1,hz2⟩:=info_parts zjf;cases A with
 | none=>
  obtain ⟨h1,rfl⟩:=hl.none_nil;have h2:l =[]:=by simpa using h1
  subst h2;clear h1 hl hlen;have hnil:=zmf w none 0 0;go_enter Tryz.func260,Tryz.ntmps260
  go_wp2
  go_ret;exact ⟨none,0,rfl,zzA0 _,Nat.zero_le _,Lies.nothing _ _,(fun _ h=>by cases h),Below.refl _ _⟩
 | some ad=>
  have ho:=zjc w;have hb:=(Below.refl w.heap.size w).alloc (zzA0 _) (.cells #[] 5);have hl1:=hl.below hb;clear hl;have hnil:=zmf w (some ad) l.length c;go_enter Tryz.func260,Tryz.ntmps260
  go_wp2_with (at_builtin;refine qV rfl (.tmp 5) (.tmp 6) 22 rfl w.heap.size 5 i0 (.int .u8 0) 1 Tryz.underlying22 hi hz0 hz1 hz2 rfl _ 0 [] rfl ho w.heap.size (some ad) l.length c (zA l) rfl (by simp) hl1 (xX l) (by unfold maxLen;omega) (by omega) (by simp) ?_;intro v2 w2 ho2 hg2)
  obtain ⟨A2,c2,rfl,h1,h2,h3⟩:=xG ho2;have h4:=zg4 ho2;have H4:=zz9 h4;clear h4
  go_wp2
  go_ret;simp only [Nat.zero_add,List.nil_append] at h1 h3 ⊢;exact ⟨A2,c2,rfl,h1,h2,h3,(fun ad e=>H4.out ad _ _ (by rw [e])),hb.grown hg2 (by simp) (fun k hk=>(ho.lt k hk).1)⟩
def zp1 (w:World) (l:List Int) (e:Ending) (w':World):Prop:=
 ∃ A' c',e =.returned (VV 3 0 (.slice A' l.length c'))/\l.length<=c'/\c'<=maxLen/\Lies w' w'.heap.size A' c' (zA l)/\(∀ ad,A' =some ad->w.heap.size<=ad.block)/\Below w.heap.size w w'
theorem zul (A:Option Addr) (l:List Int) (n c:Nat) (hn:l.length =n) (w:World) (hl:Lies w w.heap.size A c (zA l)) (hlen:n<=140737488355328) :
  Calls Tryz.prog 227 #[.slice A n c] w (zp1 w l):=by
 subst hn;have HL:=zz9 ((hl.below (za w zO)).more (Nat.le_succ _));clear hl;go_enter Tryz.func227,Tryz.ntmps227
 go_wp2_with fail
 refine (zso A l c _ (by simpa using HL.out) hlen).mono ?_;rintro e w1 ⟨A1,c1,rfl,h1,h2,h3,h4,hb1⟩;have HT:=zG (xE w) hb1 (by simp);have H3:=zz9 h3;have H4:=zz9 h4;clear h3 h4
 go_wp2_with (refine zi zu rfl (.tmp 2) (.tmp 5) rfl rfl w.heap.size rfl [_,_,_] rfl rfl HT (by simp [Value.oneCell']) ?_;intro w2 g1 g2 g3 g4 g5)
 refine bodyPost_ret (zU (cs:=[_,_,_]) Tryz.results227 Tryz.underlying41 rfl zu _ _ w.heap.size rfl g1) rfl ?_;refine ⟨A1,c1,rfl,h1,h2,?_,fun ad e=>?_,((za w zO).trans (hb1.mono (by simp))).trans g3⟩
 ·rw [g5]
  exact H3.out.other (fun ad e=>by have:=H4.out ad e;simp at this;omega) g4
 ·have:=H4.out ad e
  simp at this;omega
end
section
open Go.RowKit
end
section
open Go.RowKit
end
section
open Go.RowKit
def ztg (w:World) (B:Nat) (A:Option Addr) (c:Nat) (ls:List (List Int)):Prop:=
 (A =none->c =0)/\∀ i l,ls[i]? =some l->∃ ad A' c',A =some ad/\ad.block < B/\w.cell? (ad.add i) =some (.slice A' l.length c')/\l.length<=c'/\c'<=maxLen/\Lies w B A' c' (zA l)
def jh (ls:List (List Int)) (k:Nat):Nat:=((ls.take k).map List.length).sum
def zda (ls:List (List Int)) (k:Nat):List Int:=(ls.take k).flatten
theorem zbx {α:Type} {ls:List α} {l:α} (h:ls[k]? =some l):ls.take (k+1) =ls.take k++[l]:=by
 rw [List.take_add_one,h];rfl
theorem zbg {ls:List (List Int)} {l:List Int} (h:ls[k]? =some l):jh ls (k+1) =jh ls k+l.length:=by
 simp [jh,zbx h]
theorem ziq {ls:List (List Int)} {l:List Int} (h:ls[k]? =some l):zda ls (k+1) =zda ls k++l:=by
 simp [zda,zbx h]
theorem zop {ls:List (List Int)} (k:Nat):jh ls k<=jh ls ls.length:=by
 unfold jh;rw [List.take_length]
 conv=>rhs;rw [<- List.take_append_drop k ls]
 rw [List.map_append,List.sum_append];omega
theorem zv9 (n:Nat) (hn:n<=256) (w:World):Calls Tryz.prog 345 #[.slice none 0 0,.int .i64 n] w fun e w'=>∃ v,e =.returned v/\w'.ownsRow w.heap.size 5 1 v 0 []/\Below w.heap.size w w':=by
 obtain ⟨i0,hi,hz0,hz1,hz2⟩:=info_parts zjf;by_cases h0:n =0
 ·subst h0
  go_enter Tryz.func345,Tryz.ntmps345
  go_wp2
  go_ret;exact ⟨_,rfl,World.ownsRow_nil _ _ _ _,Below.refl _ _⟩
 ·have hr:=fun ty=>Lib.run_append_nil_zeros (P:=Tryz.prog) w 22 3 ty 5 i0 (.int .u8 0) .i64 .i64 Tryz.underlying22 Tryz.underlying3 hi hz0 n (by omega) (by rw [show i0.size =1 from hz1];omega) (by omega) (by rw [show i0.bytes =1 from hz2];omega)
  have hc1:=grownCap_ge w n 0 5;have hc2:=grownCap_le_maxLen w n 0 5 (by unfold maxLen;omega)
  generalize hcap:grownCap w n 0 5 =cap at *
  have hsz:(Builtin.zeroCells (Value.int .u8 0).cells n++Builtin.zeroCells (Value.int .u8 0).cells (cap-n)).size =cap:=by
   simp [Builtin.zeroCells,Value.cells];omega
  generalize Builtin.zeroCells (Value.int .u8 0).cells n++Builtin.zeroCells (Value.int .u8 0).cells (cap-n) =C at *
  have hpos:0 < n:=by omega
  have hc3:=hc2;unfold maxLen at hc3;have HO:=zz9 (World.ownsRow_made (base:=w.heap.size) (e:=5) (size:=1) w.drew C cap (zzA0 _) hc2 (by rw [hsz];simp));have HR:=zz9 hr;clear hr hsz h0 hi hz0 hz1 hz2 hcap hc2;go_enter Tryz.func345,Tryz.ntmps345
  go_wp2_with (at_builtin;refine Lib.wpList_append_run _ rfl (.tmp 20) (.tmp 21) 22 3 rfl _ _ rfl rfl _ _ (HR.out _) ?_)
  go_ret;exact ⟨_,rfl,HO.out,((Below.refl _ _).drew).alloc (zzA0 _) _⟩
theorem zq7 (A:Option Addr) (c:Nat) (ls:List (List Int)) (n:Nat) (w:World) (hn:ls.length =n) (hg:ztg w w.heap.size A c ls) (hn2:n<=2) (hc:n<=c) (hlen:jh ls n<=256) :
  Calls Tryz.prog 333 #[.slice A n c] w fun e w'=>∃ v,e =.returned v/\w'.ownsRow w.heap.size 5 1 v (jh ls n) (zA (zda ls n))/\Below w.heap.size w w':=by
 have HB:Hid (∀ k,jh ls k<=256):=fun k=>by have:=zop (ls:=ls) k;rw [hn] at this;omega
 have HZ:Hid (jh ls 0 =0/\zda ls 0 =[]):=⟨by simp [jh],by simp [zda]⟩;have HG:=zz9 hg;have HN:=zz9 hn;clear hg hlen hn;obtain ⟨i0,hi,hz0,hz1,hz2⟩:=info_parts zjf;go_enter Tryz.func333,Tryz.ntmps333
 go_wp2
 go_loop [3,11] (fun s i=>∃ k:Nat,k<=n/\i =.int .i64 k/\s =.int .i64 (jh ls k)) (fun _ i=>n-(intOf i).toNat)
 case atStart=>exact ⟨0,Nat.zero_le _,rfl,by rw [HZ.out.1];rfl⟩
 case round=>
  obtain ⟨k,hk,rfl,rfl⟩:=hrel;have hsz:=HB.out k;by_cases hkl:k < n
  ·obtain ⟨l,hl⟩:∃ l,ls[k]? =some l:=⟨_,List.getElem?_eq_getElem (by have:=HN.out;omega)⟩
   have HX:=zz9 (zbg hl);have hsz2:jh ls k+l.length<=256:=by have:=HB.out (k+1);rw [HX.out] at this;exact this
   obtain ⟨ad,A',c',rfl,hB,hc,h1,h2,h3⟩:=HG.out.2 k l hl;unfold maxLen at h2;clear hl h3
   go_wp2
   go_round
   case rel=>exact ⟨k+1,by omega,by go_num,by rw [HX.out];go_num⟩
   case measure=>simp [intOf];omega
  ·obtain rfl:k =n:=by omega
   go_wp2_with fail
   refine (zv9 _ hsz _).mono ?_;rintro e w1 ⟨v1,rfl,ho1,hb1⟩;have HO1:=zz9 ho1;clear ho1
   go_wp2
   go_loopw [6,27] (fun v i wr=>∃ j:Nat,j<=k/\i =.int .i64 j/\wr.ownsRow w.heap.size 5 1 v (jh ls j) (zA (zda ls j))/\Below w.heap.size w wr) (fun _ i _=>k-(intOf i).toNat)
   case atStart=>exact ⟨0,Nat.zero_le _,rfl,zlb HO1.out HZ.out.1.symm (by rw [HZ.out.2];rfl),hb1⟩
   case round=>
    clear hsz hk hkl hb1 HO1;obtain ⟨j,hj,rfl,ho,hb⟩:=hrel;have hs:=hb.size;by_cases hkl:j < k
    ·obtain ⟨l,hl⟩:∃ l,ls[j]? =some l:=⟨_,List.getElem?_eq_getElem (by have:=HN.out;omega)⟩
     have HX:=zz9 (zbg hl);have HY:=zz9 (ziq hl);have hsz2:jh ls j+l.length<=256:=by have:=HB.out (j+1);rw [HX.out] at this;exact this
     obtain ⟨ad,A',c',rfl,hB,hc0,h1,h2,h3⟩:=HG.out.2 j l hl;have hc:wr.cell? (ad.add j) =some (.slice A' l.length c'):=by rw [hb.cell (by rw [qh];exact hB)];exact hc0
     have h4:=h3.below hb;clear hl h3 hc0
     go_wp2_with (at_builtin;refine qV rfl (.tmp 31) (.tmp 32) 22 rfl w.heap.size 5 i0 (.int .u8 0) 1 Tryz.underlying22 hi hz0 hz1 hz2 rfl _ _ _ rfl ho w.heap.size A' l.length c' (zA l) rfl (by simp) h4 (xX l) (by unfold maxLen;omega) (by omega) hs ?_;intro v2 w2 ho2 hg2)
     go_roundw
     case rel=>exact ⟨j+1,by omega,by go_num,zlb ho2 HX.out.symm (by rw [HY.out];simp [zA]),hb.grown hg2 hs (fun q hq=>(ho.lt q hq).1)⟩
     case measure=>simp [intOf];omega
    ·obtain rfl:j =k:=by omega
     go_wp2
     go_ret;exact ⟨_,rfl,ho,hb⟩
end
section
open Go.RowKit
def ztz (w:World) (e:Ending) (w':World):Prop:=e =.returned (.tuple #[VV 0 0 kB,.int .i64 6])/\Below w.heap.size w w'
def JOk (w:World) (s u:List Int) (e:Ending) (w':World):Prop:=
 ∃ A c,e =.returned (.tuple #[VV 3 0 (.slice A (s.length+u.length) c),.int .i64 0])/\s.length+u.length<=c/\c<=maxLen/\Lies w' w'.heap.size A c (zA (s++u))/\(∀ ad,A =some ad->w.heap.size<=ad.block)/\Below w.heap.size w w'
theorem zou (w:World) (A B:Option Addr) (c d:Nat) (s u:List Int) (hs:s.length<=c) (hcs:c<=maxLen) (hu:u.length<=d) (hdu:d<=maxLen) (h1:Lies w w.heap.size A c (zA s)) (h2:Lies w w.heap.size B d (zA u)) (T:TypeId) :
  ztg (w.alloc (.cells #[.slice A s.length c,.slice B u.length d] T)) (w.alloc (.cells #[.slice A s.length c,.slice B u.length d] T)).heap.size (some ⟨w.heap.size,0,none⟩) 2 [s,u]:=by
 have hb:=za w (.cells #[.slice A s.length c,.slice B u.length d] T);have hcell:∀ j,(w.alloc (.cells #[.slice A s.length c,.slice B u.length d] T)).cell? ⟨w.heap.size,j,none⟩ =#[Value.slice A s.length c,.slice B u.length d][j]?:=fun j=>cell_of_row _ _ _ _ _ _ (heap_alloc_new w _);refine ⟨(fun e=>by cases e),fun i l hl=>?_⟩;rcases i with _|_|i
 ·simp at hl
  subst hl;exact ⟨_,A,c,rfl,by simp,by rw [Addr.add_lit];exact hcell 0,hs,hcs,(h1.below hb).more (by simp)⟩
 ·simp at hl
  subst hl;exact ⟨_,B,d,rfl,by simp,by rw [Addr.add_lit];exact hcell 1,hu,hdu,(h2.below hb).more (by simp)⟩
 ·simp at hl
theorem zjg (A B:Option Addr) (n m c d:Nat) (w:World) (b1:n<=140737488355328) (b2:m<=140737488355328) (hlong:256 < n+m) :
  Calls Tryz.prog 305 #[.slice A n c,.slice B m d] w (ztz w):=by
 go_enter Tryz.func305,Tryz.ntmps305
 go_wp2
 refine bodyPost_ret (zP (cs:=[_,_,_]) Tryz.results305 Tryz.underlying41 rfl zu _ _ w.heap.size rfl (qI (heap_alloc_new w _))) rfl ?_;exact ⟨rfl,za _ _⟩
theorem zrt (A B:Option Addr) (c d:Nat) (s u:List Int) (w:World) (hs:s.length<=c) (hcs:c<=maxLen) (hu:u.length<=d) (hdu:d<=maxLen) (hle:s.length+u.length<=256) (h1:Lies w w.heap.size A c (zA s)) (h2:Lies w w.heap.size B d (zA u)) :
  Calls Tryz.prog 305 #[.slice A s.length c,.slice B u.length d] w (JOk w s u):=by
 have hz:=za w zO;have HG:=zz9 (zou (w.alloc zO) A B c d s u hs hcs hu hdu ((h1.below hz).more (by simp)) ((h2.below hz).more (by simp)) 22);have K:=zz9 (zq7 _ _ _ 2 _ rfl HG.out (by omega) (by omega) (by simp [jh];omega));rw [show jh [s,u] 2 =s.length+u.length by simp [jh],show zda [s,u] 2 =s++u by simp [zda]] at K;simp only [World.size_alloc] at K;clear h1 h2 HG hz;go_enter Tryz.func305,Tryz.ntmps305
 go_wp2_with fail
 refine K.out.mono ?_;rintro e w1 ⟨v,rfl,ho,hb1⟩;obtain ⟨A1,c1,rfl,q1,q2,q3⟩:=xG ho;have HF:=zz9 (zg4 ho);have HL:=zz9 q3;have HT:=zG (zG (xE w) (za (w.alloc zO) (.cells #[.slice A s.length c,.slice B u.length d] 22)) (by simp)) hb1 (by omega);have HB:=zz9 hb1;clear ho q3 hb1 K
 go_wp2_with (refine zi zu rfl (.tmp 4) (.tmp 17) rfl rfl w.heap.size rfl [_,_,_] rfl rfl HT (by simp [Value.oneCell']) ?_;intro w2 g1 g2 g3 g4 g5)
 refine bodyPost_ret (zP (cs:=[_,_,_]) Tryz.results305 Tryz.underlying41 rfl zu _ _ w.heap.size rfl g1) rfl ?_;refine ⟨A1,c1,rfl,q1,q2,?_,fun ad e=>?_,?_⟩
 ·rw [g5]
  exact HL.out.other (fun ad e=>by subst e;have:=HF.out ad _ _ rfl;omega) g4
 ·subst e
  have:=HF.out ad _ _ rfl;omega
 ·exact ((xD w _ _).trans (HB.out.mono (by omega))).trans g3
theorem zel (w:World):Calls Tryz.prog 290 #[.string ⟨#[43]⟩] w fun e w'=>e =.returned (.agg #[.func (.func 304) #[] #[],.nilFunc,.func (.func 305) #[] #[]])/\Below w.heap.size w w':=by
 go_enter Tryz.func290,Tryz.ntmps290
 go_wp2_with (refine zi zH rfl (.tmp 2) (.tmp 6) rfl rfl w.heap.size rfl [_,_,_] rfl rfl (qB w) (by simp [Value.oneCell']) ?_;intro w2 g1 g2 g3 g4 g5)
 refine bodyPost_ret (zU (cs:=[_,_,_]) Tryz.results290 Tryz.underlying319 rfl zH _ _ w.heap.size rfl g1) rfl ?_;exact ⟨rfl,(za w rO).trans g3⟩
theorem zjr (A B:Option Addr) (n m c d:Nat) (w:World) (b1:n<=140737488355328) (b2:m<=140737488355328) (hlong:256 < n+m) :
  Calls Tryz.prog 262 #[.string ⟨#[43]⟩,VV 3 0 (.slice A n c),VV 3 0 (.slice B m d)] w (ztz w):=by
 have H0:=zz9 (jx w 3 0 3 0 (.slice A n c) (.slice B m d));have hq:=fun fn caps w=>zea 317 Tryz.underlying317 ⟨_,_,_,rfl⟩ fn caps w;have K:=zz9 (fun w=>zjg A B n m c d w b1 b2 hlong);clear b1 b2 hlong;go_enter Tryz.func262,Tryz.ntmps262
 go_wp2_with fail
 refine (zel _).mono ?_;rintro e w1 ⟨rfl,hb1⟩;have H1:=zz9 (H0.out.below hb1);clear hb1 H0
 go_wp2_with (refine zi zH rfl (.tmp 8) (.tmp 16) rfl rfl w1.heap.size rfl [_,_,_] rfl rfl (qB w1) (by simp [Value.oneCell']) ?_;intro w2 g1 g2 g3 g4 g5;have hb2:Below w1.heap.size w1 w2:=(za w1 rO).trans g3;obtain ⟨x0,x1,x2⟩:=(H1.out.below hb2).x.cells;obtain ⟨y0,y1,y2⟩:=(H1.out.below hb2).y.cells;obtain ⟨r0,r1,r2⟩:=kP g1;clear g1 g2 g3 g4 g5)
 refine (K.out _).mono ?_;rintro e w3 ⟨rfl,hb3⟩;have H3:=zz9 ((H1.out.below hb2).below hb3);clear x0 x1 x2 y0 y1 y2 r0 r1 r2 hb2 hb3
 go_wp2_with (refine zi zu rfl (.tmp 6) (.tmp 68) rfl rfl (w.heap.size+1+1) rfl [_,_,_] rfl rfl H3.out.z.2 (by simp [Value.oneCell']) ?_;intro w4 g1 g2 g3 g4 g5)
 refine bodyPost_ret (zP (cs:=[_,_,_]) Tryz.results262 Tryz.underlying41 rfl zu _ _ (w.heap.size+1+1) rfl g1) rfl ?_;exact ⟨rfl,H3.out.bl.trans (g3.mono (by omega))⟩
theorem zp9 (A B:Option Addr) (c d:Nat) (s u:List Int) (w:World) (hs:s.length<=c) (hcs:c<=maxLen) (hu:u.length<=d) (hdu:d<=maxLen) (hle:s.length+u.length<=256) (h1:Lies w w.heap.size A c (zA s)) (h2:Lies w w.heap.size B d (zA u)) :
  Calls Tryz.prog 262 #[.string ⟨#[43]⟩,VV 3 0 (.slice A s.length c),VV 3 0 (.slice B u.length d)] w (JOk w s u):=by
 have H0:=zz9 (jx w 3 0 3 0 (.slice A s.length c) (.slice B u.length d));have hq:=fun fn caps w=>zea 317 Tryz.underlying317 ⟨_,_,_,rfl⟩ fn caps w;have K:Hid (∀ w',Below w.heap.size w w'->Calls Tryz.prog 305 #[.slice A s.length c,.slice B u.length d] w' (JOk w' s u)):=fun w' hb=>zrt A B c d s u w' hs hcs hu hdu hle ((h1.below hb).more hb.size) ((h2.below hb).more hb.size);clear h1 h2 hcs hdu;go_enter Tryz.func262,Tryz.ntmps262
 go_wp2_with fail
 refine (zel _).mono ?_;rintro e w1 ⟨rfl,hb1⟩;have H1:=zz9 (H0.out.below hb1);clear hb1 H0
 go_wp2_with (refine zi zH rfl (.tmp 8) (.tmp 16) rfl rfl w1.heap.size rfl [_,_,_] rfl rfl (qB w1) (by simp [Value.oneCell']) ?_;intro w2 g1 g2 g3 g4 g5;have hb2:Below w1.heap.size w1 w2:=(za w1 rO).trans g3;obtain ⟨x0,x1,x2⟩:=(H1.out.below hb2).x.cells;obtain ⟨y0,y1,y2⟩:=(H1.out.below hb2).y.cells;obtain ⟨r0,r1,r2⟩:=kP g1;clear g1 g2 g3 g4 g5)
 have H2:=zz9 (H1.out.below hb2);refine (K.out _ H2.out.bl).mono ?_;rintro e w3 ⟨A3,c3,rfl,q1,q2,q3,q4,hb3⟩;have H3:=zz9 (H2.out.below hb3);have Q3:=zz9 q3;have Q4:=zz9 q4;have hs2:=H2.out.sz;clear x0 x1 x2 y0 y1 y2 r0 r1 r2 hb2 hb3 q3 q4
 go_wp2_with (refine zi zu rfl (.tmp 6) (.tmp 68) rfl rfl (w.heap.size+1+1) rfl [_,_,_] rfl rfl H3.out.z.2 (by simp [Value.oneCell']) ?_;intro w4 g1 g2 g3 g4 g5)
 refine bodyPost_ret (zP (cs:=[_,_,_]) Tryz.results262 Tryz.underlying41 rfl zu _ _ (w.heap.size+1+1) rfl g1) rfl ?_;refine ⟨A3,c3,rfl,q1,q2,?_,fun ad e=>?_,H3.out.bl.trans (g3.mono (by omega))⟩
 ·rw [g5]
  exact Q3.out.other (fun ad e=>by have:=Q4.out ad e;omega) g4
 ·have:=Q4.out ad e
  omega
end
end
end Go.Proofs.YtcilgkdnjgmogaaGreatDoor
