/- A part of the proof. -/
import Derived.Deep.RegionHeld2
import Derived.Test.YtcilgkdnjgmogaaGreatDoorXY
import Derived.RangeFuncNested
import Derived.RangeFuncBound
import Derived.RangeFuncCalls
import Derived.RangeFuncLeaves
import Derived.Shelf.Abstract
import Derived.Shelf.RegionOpen
import Derived.WalkKit
import Derived.OwnWalkIn
import Derived.TacticsInMore
import Derived.LoopNIn
import Derived.LoopIn
namespace Go.Proofs.YtcilgkdnjgmogaaGreatDoor
set_option maxRecDepth 100000
set_option maxHeartbeats 12800000
set_option linter.all false
variable {D:Nat->Prop} {W w w1:World} {i j m n0:Nat} {s:List Nat} {u:Value}
section
open Go.RowKit Go.MapKept
variable [Prt]
theorem ArgX.one {V:Value} {x:Va} (h:ArgX n0 w V [x]):∃ (kb ko c:Nat) (A0:Option Addr) (c0:Nat),V =.slice (some ⟨kb,ko,none⟩) 1 c/\1<=c/\c<=maxLen/\VaC w x (VV x.t x.n (.slice A0 x.s.length c0)) /\
  ∀ (w':World),Mv n0 (fun b=>n0<=b) w w'->w'.cell? ⟨kb,ko,none⟩ =some (.int .i64 x.t)/\w'.cell? ⟨kb,ko+1,none⟩ =some (.int .i64 x.n)/\w'.cell? ⟨kb,ko+2,none⟩ =some (.slice A0 x.s.length c0):=by
 obtain ⟨kb,ko,c,A0,c0,rfl,h1,h2,⟨a1,a2,a3⟩,hv,k1⟩:=h.getk (i:=0) (v:=x) rfl;refine ⟨kb,ko,c,A0,c0,rfl,h1,h2,hv,fun w' hm=>?_⟩;have hk:=k1 _ w' hm (fun b h=>h);have hc:∀ o,w'.cell? ⟨kb,o,none⟩ =w.cell? ⟨kb,o,none⟩:=fun o=>by simp only [World.cell?,hk]
 exact ⟨by rw [hc];simpa using a1,by rw [hc];simpa using a2,by rw [hc];simpa using a3⟩
theorem ArgX.pair {V:Value} {x y:Va} (h:ArgX n0 w V [x,y]):∃ (kb ko c:Nat) (A0 A1:Option Addr) (c0 c1:Nat),V =.slice (some ⟨kb,ko,none⟩) 2 c/\2<=c/\c<=maxLen/\VaC w x (VV x.t x.n (.slice A0 x.s.length c0))/\VaC w y (VV y.t y.n (.slice A1 y.s.length c1)) /\
  ∀ (w':World),Mv n0 (fun b=>n0<=b) w w'->w'.cell? ⟨kb,ko+2,none⟩ =some (.slice A0 x.s.length c0)/\w'.cell? ⟨kb,ko+3+2,none⟩ =some (.slice A1 y.s.length c1):=by
 obtain ⟨kb,ko,c,A0,c0,rfl,h1,h2,⟨_,_,a2⟩,v1,k1⟩:=h.getk (i:=0) (v:=x) rfl;obtain ⟨kb',ko',c',A1,c1,e,_,_,⟨_,_,b2⟩,v2,k2⟩:=h.getk (i:=1) (v:=y) rfl;injection e with e1 _ e3
 injection e1 with e1
 injection e1 with e1 e2 _
 subst e1 e2;refine ⟨kb,ko,c,A0,A1,c0,c1,rfl,h1,h2,v1,v2,fun w' hm=>?_⟩;have hk:=k1 _ w' hm (fun b h=>h);have hc:∀ o,w'.cell? ⟨kb,o,none⟩ =w.cell? ⟨kb,o,none⟩:=fun o=>by simp only [World.cell?,hk]
 exact ⟨by rw [hc];simpa using a2,by rw [hc];simpa using b2⟩
theorem zft (X:Cx10) (n:Nat) (hE:EOk X n) (hEs:EsOk X n) (hB:∀ m,m < n->BOk X m):SOk X (n+1):=by
 intro c env s σ r w b ms v hc hr hs hgm hv hsh hm;obtain ⟨op,text,exprs,body,els,place⟩:=s;obtain ⟨⟨ke,kb,kf⟩,rfl,hy,hx,hbd,hel⟩:=hv;obtain ⟨A1,c1,e1⟩:=zz hx;obtain ⟨A2,c2,e2⟩:=zt hbd;obtain ⟨A3,c3,e3⟩:=zt hel;dsimp only [Xs.exprs,Xs.body,Xs.els,Xs.text] at e1 e2 e3 hx hbd hel hy;subst e1 e2 e3;have hn0:=hr.hn;have HN:=zz9 hn0;unfold shS at hsh;simp only [Bool.and_eq_true] at hsh;obtain ⟨⟨s1,s2⟩,s3⟩:=hsh;have H3:=yq w (xsO op text (.slice A1 exprs.length c1) (.slice A2 body.length c2) (.slice A3 els.length c3) place);obtain ⟨w0,hw0⟩:∃ w0,(w.alloc (xsO op text (.slice A1 exprs.length c1) (.slice A2 body.length c2) (.slice A3 els.length c3) place)).alloc zO =w0:=⟨_,rfl⟩;rw [hw0] at H3;have HW0:=zz9 hw0;have hK0:Ks X c σ w #[.int .i64 op,.string (strN text),.slice A1 exprs.length c1,.slice A2 body.length c2,.slice A3 els.length c3,.int .i64 place] b ms env w0:=⟨hr.on H3.b,.of H3.b,H3.e,H3.z,hs.on H3.b⟩;unfold ji at hm;obtain ⟨ru,g1,HRU⟩:=xh hm;have K:=zz9 (xY X c σ w0 1 (by decide) (by decide) _ hK0.run g1);have HY:=zz9 (And.intro hx (And.intro hbd (And.intro hel (And.intro hy (And.intro s1 (And.intro s2 (And.intro s3 hgm)))))));have HB:=zz9 hB;have HE:=zz9 (And.intro hE hEs);have KC:=zz9 hK0;clear hx hbd hel hy s1 s2 s3 hgm hm hK0 H3 hw0 hr hs hE hEs g1 hB;show Calls Tryz.prog 130 #[.pointer (some ⟨X.R,0,none⟩),.agg #[.int .i64 op,.string (strN text),.slice A1 exprs.length c1,.slice A2 body.length c2,.slice A3 els.length c3,.int .i64 place],.pointer (some ⟨b,0,none⟩)] w (qR X c (·∈ms) (QB10 X b ms) w r);go_enter Tryz.func130,Tryz.ntmps130
 go_upto_region 1 with fail
 rw [HW0.out]
 go_wp2_with fail
 (with_reducible refine K.out.mono ?_)
 rintro e' w1 hG;rcases ru with ⟨_,τ⟩|⟨t,τ⟩
 rotate_left
 ·obtain ⟨hM,rfl,c',hs⟩:=hG
  exact ⟨rfl,zy (HRU.out.1 _ _ rfl) (KC.out.mv.trans (NoM.mono hM)) hs⟩
 obtain ⟨hM,u,rfl,hu,hs⟩:=hG;replace KC:=zz9 (KC.out.go hM hs);have h2:=HRU.out.2 _ _ rfl;clear K hM hs hu HRU;dsimp only;by_cases o3:op =3
 ·subst o3
  rw [if_pos rfl] at h2
  match exprs,h2,HY,KC,HW0 with
  | [e],h2,HY,KC,HW0=>
   dsimp only at h2;obtain ⟨y1,y2,y3,y4,y5,y6,y7,y8⟩:=HY.out;have y1':XesC w (Lo X.n0) [e] (.slice A1 1 c1):=y1;unfold shL at y5;simp only [Bool.and_eq_true] at y5;have KB:=zz9 (zn2 X n HE.out.1 HB.out c env text e body els place τ r w1 b ms A1 A2 A3 c1 c2 c3 hc KC.out.run KC.out.sc y8 (y1'.same (xk KC.out.mv HN.out)) (y2.same (xk KC.out.mv HN.out)) (y3.same (xk KC.out.mv HN.out)) y5.1 y6 y7 h2);clear y1 y2 y3 y4 y5 y6 y7 y8 y1' h2 HY HB HE
   simp only [List.length_cons,List.length_nil,Nat.zero_add] at *
   obtain ⟨e0,e1,e2,e3,e4,e5⟩:=yH KC.out.e
   go_wp2_with fail
   (with_reducible refine KB.out.mono ?_)
   rintro e2 w2 hG;rcases r with ⟨⟨o,env2⟩,τ2⟩|⟨t2,τ2⟩
   rotate_left
   ·obtain ⟨hM,rfl,c',hs⟩:=hG
    exact ⟨rfl,zy rfl (KC.out.mv.trans hM) hs⟩
   obtain ⟨hM,x,rfl,⟨hq,hsc⟩,hs⟩:=hG;dsimp only at hq hsc;obtain ⟨A5,c5,bb,rfl,_,rfl⟩:=zb2 hq;have KF:=zz9 (KC.out.block hM hs hsc);have HQ5:=zz9 hq;clear hM hs hsc hq e0 e1 e2 e3 e4 e5;dsimp only
   go_wp2_with (refine zm rfl (.tmp 6) (.tmp 19) rfl rfl (w.heap.size+1) rfl (o.getD qe).t (o.getD qe).n A5 (o.getD qe).s.length c5 rfl KF.out.z ?_;intro w7 g1)
   refine bodyPost_ret (qW Tryz.results130 _ _ (w.heap.size+1) rfl g1.here) rfl ?_;exact qY (o:=o) (env:=env2) rfl KF.out.run KF.out.mv HQ5.out KF.out.sc (by omega) KF.out.z g1 HN.out
 rw [if_neg o3] at h2;by_cases o4:op =4
 ·subst o4
  obtain ⟨y1,y2,y3,y4,y5,y6,y7,y8⟩:=HY.out;have KB:=zz9 (zsv X n HE.out.2 HB.out c env text exprs body els place τ r w1 b ms A1 A2 A3 c1 c2 c3 hc KC.out.run KC.out.sc y8 y4 (y1.same (xk KC.out.mv HN.out)) (y2.same (xk KC.out.mv HN.out)) y5 y6 h2);clear y1 y2 y3 y4 y5 y6 y7 y8 h2 HY HB HE;obtain ⟨e0,e1,e2,e3,e4,e5⟩:=yH KC.out.e
  go_wp2_with fail
  (with_reducible refine KB.out.mono ?_)
  rintro e2 w2 hG;rcases r with ⟨⟨o,env2⟩,τ2⟩|⟨t2,τ2⟩
  rotate_left
  ·obtain ⟨hM,rfl,c',hs⟩:=hG
   exact ⟨rfl,zy rfl (KC.out.mv.trans hM) hs⟩
  obtain ⟨hM,x,rfl,⟨hq,hsc⟩,hs⟩:=hG;dsimp only at hq hsc;obtain ⟨A5,c5,bb,rfl,_,rfl⟩:=zb2 hq;have KF:=zz9 (KC.out.block hM hs hsc);have HQ5:=zz9 hq;clear hM hs hsc hq e0 e1 e2 e3 e4 e5;dsimp only
  go_wp2_with (refine zm rfl (.tmp 6) (.tmp 27) rfl rfl (w.heap.size+1) rfl (o.getD qe).t (o.getD qe).n A5 (o.getD qe).s.length c5 rfl KF.out.z ?_;intro w7 g1)
  refine bodyPost_ret (qW Tryz.results130 _ _ (w.heap.size+1) rfl g1.here) rfl ?_;exact qY (o:=o) (env:=env2) rfl KF.out.run KF.out.mv HQ5.out KF.out.sc (by omega) KF.out.z g1 HN.out
 obtain ⟨ro,g1,HRO⟩:=xh h2;have K2:=zz9 (HE.out.2 c env exprs τ ro w1 _ ms _ hc KC.out.run KC.out.sc (HY.out.1.same (xk KC.out.mv HN.out)) HY.out.2.2.2.2.1 g1);obtain ⟨e0,e1,e2,e3,e4,e5⟩:=yH KC.out.e;clear h2 g1
 go_wp2_with fail
 (with_reducible refine K2.out.mono ?_)
 rintro e7 w2 hG;rcases ro with ⟨vs,τ2⟩|⟨t,τ2⟩
 rotate_left
 ·obtain ⟨hM,rfl,c',hs⟩:=hG
  exact ⟨rfl,zy (HRO.out.1 _ _ rfl) (KC.out.mv.trans (NoM.mono hM)) hs⟩
 obtain ⟨hM,V,rfl,hO,hs⟩:=hG;have h3:=HRO.out.2 _ _ rfl
 (try dsimp only at h3)
 rw [if_neg o4] at h3;replace KC:=zz9 (KC.out.go hM hs);have hX:=OwnV.argX (n0:=X.n0) hO;clear K2 HRO hM hO hs e0 e1 e2 e3 e4 e5;obtain ⟨e0,e1,e2,e3,e4,e5⟩:=yH KC.out.e;by_cases o5:op =5
 ·subst o5
  rw [if_pos rfl] at h3;have H3:Hid (r =.ok (some (zay vs),env) τ2):=by
   show _ =_;injection h3 with h
   exact h.symm
  have KR:=zz9 (ziy X.n0 w2 V vs hX);obtain ⟨AV,cV,rfl⟩:=hX.len;clear h3 hX HY HB HE o3 o4
  go_wp2_with fail
  (with_reducible refine KR.out.mono ?_)
  rintro e8 w3 ⟨u3,rfl,hv3,b3⟩;obtain ⟨A5,c5,rfl,_,_⟩:=xM hv3;have KF:=zz9 (KC.out.on b3);have HV3:=zz9 hv3;clear hv3 b3 e0 e1 e2 e3 e4 e5 KR
  generalize zay vs =v at *
  go_wp2_with (refine zm rfl (.tmp 6) (.tmp 57) rfl rfl (w.heap.size+1) rfl v.t v.n A5 v.s.length c5 rfl KF.out.z ?_;intro w7 g1)
  refine bodyPost_ret (qW Tryz.results130 _ _ (w.heap.size+1) rfl g1.here) rfl ?_;exact qY (o:=some v) (env:=env) H3.out KF.out.run KF.out.mv ⟨_,rfl,HV3.out⟩ KF.out.sc (by omega) KF.out.z g1 HN.out
 rw [if_neg o5] at h3;have hsh2:(∃ a,vs =[a])\/∃ a a',vs =[a,a']:=by
  match vs,h3 with
  | [a],_=>exact .inl ⟨a,rfl⟩
  | [a,a'],_=>exact .inr ⟨a,a',rfl⟩
  | [],h=>cases h
  | _::_::_::_,h=>cases h
 obtain ⟨a,rfl⟩|⟨a,a',rfl⟩:=hsh2
 ·dsimp only at h3
  by_cases o1:op =1
  ·subst o1
   (first|rw [if_pos rfl] at h3|rw [if_pos True.intro] at h3)
   have H3:Hid (r =.ok (none,zfr env text a) τ2):=by
    show _ =_;injection h3 with h
    exact h.symm
   obtain ⟨f,rest,rfl⟩:∃ f rest,env =f::rest:=by
    cases env with
    | nil=>exact absurd KC.out.sc (by intro h;cases h)
    | cons f rest=>exact ⟨f,rest,rfl⟩
   obtain ⟨kb,ko,vc,A5,c5,rfl,p1,p2,hva,hcells⟩:=hX.one;obtain ⟨m,bms,rfl⟩:∃ m bms,ms =m::bms:=by
    cases ms with
    | nil=>exact absurd KC.out.sc (by intro h;cases h)
    | cons m bms=>exact ⟨m,bms,rfl⟩
   replace KC:=zz9 (KC.out.on (Below.refl w2.heap.size w2).drew);have hnm:X.n0<=m:=(KC.out.sc.ms m (by simp)).1;have KD:=zz9 (ww X c τ2 w2.drew b m bms f rest text a _ KC.out.run KC.out.sc (by intro e;exact HY.out.2.2.2.2.2.2.2 (by simp [e])) HY.out.2.2.2.1 (hva.on (Below.refl w2.heap.size w2).drew))
   have HCE:Hid (∀ w',Mv X.n0 (· =m) w2.drew w'->w'.cell? ⟨w.heap.size,1,none⟩ =some (.string (strN text))/\w'.cell? ⟨kb,ko,none⟩ =some (.int .i64 a.t)/\w'.cell? ⟨kb,ko+1,none⟩ =some (.int .i64 a.n)/\w'.cell? ⟨kb,ko+2,none⟩ =some (.slice A5 a.s.length c5)):=fun w' h=>
    ⟨(yH (h.kept KC.out.e (by decide))).2.1,hcells w' ((Mv.of (Below.refl w2.heap.size w2).drew).trans (h.less fun k _ e=>by have e:k =m:=e;rw [e];exact hnm))⟩
   clear h3 hX hva hcells HB HE o3 o4 o5
   go_upto_region 10 with fail
   go_region_held2 (fun w'=>w'.cell? ⟨w.heap.size,1,none⟩ =some (.string (strN text))/\w'.cell? ⟨kb,ko,none⟩ =some (.int .i64 a.t)/\w'.cell? ⟨kb,ko+1,none⟩ =some (.int .i64 a.n)/\w'.cell? ⟨kb,ko+2,none⟩ =some (.slice A5 a.s.length c5))
    (first|(with_reducible exact HCE.out _ (.refl _ _ _))|(with_reducible exact HCE.out _ hD))
    (first|(go_at_call 84;refine KD.out.mono ?_;rintro e3 w3 ⟨rfl,hD,hS3,hR3⟩))
   have KF:=zz9 (KC.out.block (hD.less fun k _ e=>by have e:k =m:=e;simp [e]) hR3 hS3);clear hD hS3 hR3 e0 e1 e2 e3 e4 e5
   go_wp2_with (refine zm rfl (.tmp 6) (.tmp 78) rfl rfl (w.heap.size+1) rfl 0 0 none 0 0 rfl KF.out.z ?_;intro w7 g1)
   refine bodyPost_ret (qW Tryz.results130 _ _ (w.heap.size+1) rfl g1.here) rfl ?_;exact qY (o:=none) (env:=updF f text a::rest) H3.out KF.out.run KF.out.mv rfl KF.out.sc (by omega) KF.out.z g1 HN.out
  rw [if_neg o1] at h3;by_cases o2:op =2
  ·subst o2
   (first|rw [if_pos rfl] at h3|rw [if_pos True.intro] at h3)
   cases hse:setE env text a with
   | none=>rw [hse] at h3;cases h3
   | some env'=>
   rw [hse] at h3;have H3:Hid (r =.ok (none,env') τ2):=by
    show _ =_;injection h3 with h
    exact h.symm
   obtain ⟨kb,ko,vc,A5,c5,rfl,p1,p2,hva,hcells⟩:=hX.one;replace KC:=zz9 (KC.out.on (Below.refl w2.heap.size w2).drew);have hms:∀ m∈ms,X.n0<=m:=fun m h=>(KC.out.sc.ms m h).1;have KD:=zz9 (zvc X c τ2 w2.drew _ ms env env' text a _ KC.out.run KC.out.sc HY.out.2.2.2.2.2.2.2 HY.out.2.2.2.1 (hva.on (Below.refl w2.heap.size w2).drew) hse)
   have HCE:Hid (∀ w',Mv X.n0 (·∈ms) w2.drew w'->w'.cell? ⟨w.heap.size,1,none⟩ =some (.string (strN text))/\w'.cell? ⟨kb,ko,none⟩ =some (.int .i64 a.t)/\w'.cell? ⟨kb,ko+1,none⟩ =some (.int .i64 a.n)/\w'.cell? ⟨kb,ko+2,none⟩ =some (.slice A5 a.s.length c5)):=fun w' h=>
    ⟨(yH (h.kept KC.out.e (by decide))).2.1,hcells w' ((Mv.of (Below.refl w2.heap.size w2).drew).trans (h.less fun k _ e=>hms k e))⟩
   clear h3 hX hva hcells HB HE o3 o4 o5 hse o1
   go_upto_region 12 with fail
   go_region_held2 (fun w'=>w'.cell? ⟨w.heap.size,1,none⟩ =some (.string (strN text))/\w'.cell? ⟨kb,ko,none⟩ =some (.int .i64 a.t)/\w'.cell? ⟨kb,ko+1,none⟩ =some (.int .i64 a.n)/\w'.cell? ⟨kb,ko+2,none⟩ =some (.slice A5 a.s.length c5))
    (first|(with_reducible exact HCE.out _ (.refl _ _ _))|(with_reducible exact HCE.out _ hD))
    (first|(go_at_call 156;refine KD.out.mono ?_;rintro e3 w3 ⟨rfl,hD,hS3,hR3⟩))
   have KF:=zz9 (KC.out.block hD hR3 hS3);clear hD hS3 hR3 e0 e1 e2 e3 e4 e5
   go_wp2_with (refine zm rfl (.tmp 6) (.tmp 78) rfl rfl (w.heap.size+1) rfl 0 0 none 0 0 rfl KF.out.z ?_;intro w7 g1)
   refine bodyPost_ret (qW Tryz.results130 _ _ (w.heap.size+1) rfl g1.here) rfl ?_;exact qY (o:=none) (env:=env') H3.out KF.out.run KF.out.mv rfl KF.out.sc (by omega) KF.out.z g1 HN.out
  rw [if_neg o2] at h3;by_cases o7:op =7
  ·subst o7
   (first|rw [if_pos rfl] at h3|rw [if_pos True.intro] at h3)
   by_cases ht:a.t≠3
   ·rw [if_pos ht] at h3;cases h3
   rw [if_neg ht] at h3;obtain ⟨rd,g1,HRD⟩:=xh h3;obtain ⟨kb,ko,vc,A5,c5,rfl,p1,p2,hva,hcells⟩:=hX.one;obtain ⟨q0,q1,q2⟩:=hcells w2 (.refl _ _ _);obtain ⟨kk,ek,hk,hok⟩:=hva;have hkk:kk =.slice A5 a.s.length c5:=by injection ek with ek;simp at ek;exact ek.symm
   subst hkk;have KD:=zz9 (zu2 X c τ2 w2 _ a.s rd KC.out.run hk g1);clear h3 hX hcells HB HE o3 o4 o5 o1 o2 hk ek hok g1 q0 q1
   go_wp2_with fail
   (with_reducible refine KD.out.mono ?_)
   rintro e8 w3 hG;rcases rd with ⟨_,τ3⟩|⟨t,τ3⟩
   rotate_left
   ·obtain ⟨hM,rfl,c',hs⟩:=hG
    exact ⟨rfl,zy (HRD.out.1 _ _ rfl) (KC.out.mv.trans (NoM.mono hM)) hs⟩
   obtain ⟨hM,u3,rfl,hu3,hs⟩:=hG;have H3:Hid (r =.ok (none,env) τ3):=by
    have h4:=HRD.out.2 _ _ rfl;show _ =_;injection h4 with h
    exact h.symm
   have KF:=zz9 (KC.out.go hM hs);clear hM hs hu3 e0 e1 e2 e3 e4 e5 HRD
   go_wp2_with (refine zm rfl (.tmp 6) (.tmp 78) rfl rfl (w.heap.size+1) rfl 0 0 none 0 0 rfl KF.out.z ?_;intro w7 g1)
   refine bodyPost_ret (qW Tryz.results130 _ _ (w.heap.size+1) rfl g1.here) rfl ?_;exact qY (o:=none) (env:=env) H3.out KF.out.run KF.out.mv rfl KF.out.sc (by omega) KF.out.z g1 HN.out
  rw [if_neg o7] at h3;by_cases o8:op =8
  ·subst o8
   (first|rw [if_pos rfl] at h3|rw [if_pos True.intro] at h3)
   have H3:Hid (r =.ok (none,env) τ2):=by
    show _ =_;injection h3 with h
    exact h.symm
   have KF:=KC;obtain ⟨AV,cV,rfl⟩:=hX.len;clear h3 hX HB HE o3 o4 o5 o1 o2 o7
   go_wp2_with (refine zm rfl (.tmp 6) (.tmp 78) rfl rfl (w.heap.size+1) rfl 0 0 none 0 0 rfl KF.out.z ?_;intro w7 g1)
   refine bodyPost_ret (qW Tryz.results130 _ _ (w.heap.size+1) rfl g1.here) rfl ?_;exact qY (o:=none) (env:=env) H3.out KF.out.run KF.out.mv rfl KF.out.sc (by omega) KF.out.z g1 HN.out
  rw [if_neg o8] at h3;cases h3
 ·dsimp only at h3
  by_cases o6:op =6/\a.t =3/\a'.t =3
  ·rw [if_pos o6] at h3
   obtain ⟨rfl,t1,t2⟩:=o6;obtain ⟨rd,g1,HRD⟩:=xh h3;obtain ⟨kb,ko,vc,A5,A6,c5,c6,rfl,p1,p2,hva,hvb,hcells⟩:=hX.pair;obtain ⟨kk,ek,hk,hok⟩:=hva;have hkk:kk =.slice A5 a.s.length c5:=by injection ek with ek;simp at ek;exact ek.symm
   subst hkk;obtain ⟨kk,ek2,hk2,hok2⟩:=hvb;have hkk:kk =.slice A6 a'.s.length c6:=by injection ek2 with ek;simp at ek;exact ek.symm
   subst hkk;replace KC:=zz9 (KC.out.on (Below.refl w2.heap.size w2).drew);have KD:=zz9 (zvi X c τ2 w2.drew _ _ a.s a'.s rd KC.out.run (hk.on (Below.refl w2.heap.size w2).drew) (hk2.on (Below.refl w2.heap.size w2).drew) hok.2 hok2.2 g1)
   have HCE:Hid (∀ w',Mv X.n0 NoM w2.drew w'->w'.cell? ⟨kb,ko+2,none⟩ =some (.slice A5 a.s.length c5)/\w'.cell? ⟨kb,ko+3+2,none⟩ =some (.slice A6 a'.s.length c6)):=fun w' h=>
    hcells w' ((Mv.of (Below.refl w2.heap.size w2).drew).trans (NoM.mono h))
   clear h3 hX hcells HB HE o3 o4 o5 hk ek hok hk2 ek2 hok2 g1 t1 t2
   go_upto_region 16 with fail
   go_region_held2 (fun w'=>w'.cell? ⟨kb,ko+2,none⟩ =some (.slice A5 a.s.length c5)/\w'.cell? ⟨kb,ko+3+2,none⟩ =some (.slice A6 a'.s.length c6))
    (first|(with_reducible exact HCE.out _ (.refl _ _ _))|(with_reducible exact HCE.out _ hM))
    (first|(go_at_call 158;refine KD.out.mono ?_;rintro e3 w3 hG;(rcases rd with ⟨_,τ3⟩|⟨t,τ3⟩ <;> (try (obtain ⟨hM,he,c',hs⟩:=hG;subst he;exact ⟨rfl,zy (HRD.out.1 _ _ rfl) (KC.out.mv.trans (NoM.mono hM)) hs⟩)));obtain ⟨hM,u3,rfl,hu3,hs⟩:=hG))
   have H3:Hid (r =.ok (none,env) τ3):=by
    have h4:=HRD.out.2 _ _ rfl;show _ =_;injection h4 with h
    exact h.symm
   have KF:=zz9 (KC.out.go hM hs);clear hM hs hu3 e0 e1 e2 e3 e4 e5 HRD
   go_wp2_with (refine zm rfl (.tmp 6) (.tmp 78) rfl rfl (w.heap.size+1) rfl 0 0 none 0 0 rfl KF.out.z ?_;intro w7 g1)
   refine bodyPost_ret (qW Tryz.results130 _ _ (w.heap.size+1) rfl g1.here) rfl ?_;exact qY (o:=none) (env:=env) H3.out KF.out.run KF.out.mv rfl KF.out.sc (by omega) KF.out.z g1 HN.out
  ·rw [if_neg o6] at h3
   cases h3
end
section
open Go.RowKit Go.MapKept
variable [Prt]
theorem zvk (X:Cx10) (n:Nat):EOk X n/\EsOk X n/\COk X n/\BOk X n/\SOk X n:=by
 induction n using Nat.strongRecOn with
 | ind n ih=>
  have h1:=zrd X n fun m h=>(ih m h).1;have h2:=zrk X n fun m h=>(ih m h).2.2.2.2;cases n with
  | zero=>
   refine ⟨fun c env e σ r w a ms v _ _ _ _ _ hm=>?_,h1,fun c f k vs σ r w V _ _ _ _ _ hm=>?_,h2,fun c env s σ r w b ms v _ _ _ _ _ _ hm=>?_⟩
   ·unfold qD at hm;cases hm
   ·unfold xo at hm;cases hm
   ·unfold ji at hm;cases hm
  | succ n=>
   obtain ⟨e1,e2,e3,e4,e5⟩:=ih n (Nat.lt_succ_self n);exact ⟨zta X n e1 e2 e3,h1,zte X n e4,h2,zft X n e1 e2 fun m h=>(ih m (by omega)).2.2.2.1⟩
end
section
open Go.RowKit Go.MapKept
variable [Prt]
def jg (t:Int) (v:Va):Bool:=if v.t≠t then false else if t =3 then (v.n == 0) && decide (v.s.length<=256) else v.s.length == 0
theorem zuc (v:Va) (t:Int) (A:Option Addr) (c:Nat) (w:World) (hl:v.s.length<=9223372036854775807) :
  Calls Tryz.prog 78 #[VV v.t v.n (.slice A v.s.length c),.int .i64 t] w fun e w'=>e =.returned (.bool (jg t v))/\Below w.heap.size w w':=by
 have BA:=zz9 (za w (.cells #[.int .i64 v.t,.int .i64 v.n,.slice A v.s.length c] 41));obtain ⟨z0,z1,z2⟩:=qr (heap_alloc_new w (.cells #[.int .i64 v.t,.int .i64 v.n,.slice A v.s.length c] 41));go_enter Tryz.func78,Tryz.ntmps78;by_cases h0:v.t =t
 ·have q0:(v.t != t) =false:=by simp [h0]
  by_cases h3:t =3
  ·have q3:(t == 3) =true:=by simp [h3]
   by_cases hn:v.n =0
   ·have qn:(v.n == 0) =true:=by simp [hn]
    by_cases h6:(v.s.length:Int)<=256
    ·have HR:Hid (jg t v =true):=by
      show _ =_;unfold jg;rw [if_neg (by simpa using h0),if_pos h3,qn];have:v.s.length<=256:=by omega
      simpa using this
     clear h0 h3 hn
     go_wp2
     go_ret;exact ⟨by rw [HR.out];rfl,BA.out⟩
    ·have HR:Hid (jg t v =false):=by
      show _ =_;unfold jg;rw [if_neg (by simpa using h0),if_pos h3,qn];have:¬ v.s.length<=256:=by omega
      simpa using this
     clear h0 h3 hn
     go_wp2
     go_ret;exact ⟨by rw [HR.out];rfl,BA.out⟩
   ·have qn:(v.n == 0) =false:=by rw [beq_eq_false_iff_ne];exact hn
    have HR:Hid (jg t v =false):=by
     show _ =_;unfold jg;rw [if_neg (by simpa using h0),if_pos h3,qn];rfl
    clear h0 h3 hn
    go_wp2
    go_ret;exact ⟨by rw [HR.out];rfl,BA.out⟩
  ·have q3:(t == 3) =false:=by rw [beq_eq_false_iff_ne];exact h3
   have HR:Hid (jg t v =((v.s.length:Int) == 0)):=by
    show _ =_;unfold jg;rw [if_neg (by simpa using h0),if_neg h3,zaq]
   clear h0 h3
   go_wp2
   go_ret;exact ⟨by rw [HR.out];rfl,BA.out⟩
 ·have q0:(v.t != t) =true:=by simp [h0]
  have HR:Hid (jg t v =false):=by
   show _ =_;unfold jg;rw [if_pos h0]
  clear h0
  go_wp2
  go_ret;exact ⟨by rw [HR.out];rfl,BA.out⟩
def fitL:List (List Nat×Int)->List Va->Bool
 | p::ps,v::vs=>jg p.2 v && fitL ps vs
 | _,_=>true
theorem ziw {ps:List (List Nat×Int)} {vs:List Va} {p:List Nat×Int} {v:Va} (hp:ps[j]? =some p) (hv:vs[j]? =some v) (h:jg p.2 v =false):fitL (ps.drop j) (vs.drop j) =false:=by
 rw [xw hp,xw hv];unfold fitL;rw [h];rfl
def fitB (ps:List (List Nat×Int)) (vs:List Va):Bool:=vs.length == ps.length && fitL ps vs
def FtS (n0:Nat) (w:World) (ps:List (List Nat×Int)) (vs:List Va) (k:Nat) (i:Value) (wr:World):Prop:=
 ∃ j:Nat,i =.int .i64 j/\k+j =ps.length/\Below w.heap.size w wr/\fitL ps vs =fitL (ps.drop j) (vs.drop j)
theorem zvu (n0:Nat) (w:World) (ps:List (List Nat×Int)) (vs:List Va) (V P:Value) (hn0:n0<=w.heap.size) (hx:ArgX n0 w V vs) (hp:RowF w (Lo n0) ps.length (xpsC ps) P) :
  Calls Tryz.prog 43 #[V,P] w fun e w'=>e =.returned (.bool (fitB ps vs))/\Below w.heap.size w w':=by
 obtain ⟨AV,cV,rfl⟩:=hx.len;obtain ⟨AP,cP,rfl⟩:=hp.slice5;have hpl:ps.length<=9223372036854775807:=hp.len5;go_enter Tryz.func43,Tryz.ntmps43;by_cases hl:vs.length =ps.length
 ·have ql:((vs.length:Int) != (ps.length:Int)) =false:=by rw [hl];simp
  have HX:=zz9 hx;have HP:=zz9 hp;have HST:Hid (FtS n0 w ps vs ps.length (.int .i64 0) w):=⟨0,rfl,rfl,.refl _ _,rfl⟩;have HB:Hid (fitB ps vs =fitL ps vs):=by show _ =_;unfold fitB;simp [hl]
  have HL:=zz9 hl;clear hx hp hl
  go_wp2_with fail
  go_loopg [14] ps.length (fun k i wr=>FtS n0 w ps vs k i wr)
  case atStart=>exact HST.out
  case round=>
   obtain ⟨j,rfl,hk,hb,hf⟩:=hrel;by_cases hlt:j < ps.length
   ·have hlt':(j:Int) < (ps.length:Int):=by omega
    obtain ⟨p,hp⟩:∃ p,ps[j]? =some p:=⟨_,List.getElem?_eq_getElem hlt⟩;obtain ⟨v,hv⟩:∃ v,vs[j]? =some v:=⟨_,List.getElem?_eq_getElem (by have:=HL.out;omega)⟩;have hlt2:(j:Int) < (vs.length:Int):=by have:=HL.out;omega
    obtain ⟨pb,po,pc,hsl,p1,p2,q1,q2⟩:=(HP.out.same (xj hb hn0)).param hp;injection hsl with hA _ hcc
    subst hA hcc;obtain ⟨kb,ko,ac,A0,c0,hsl2,p3,p4,⟨a1,a2,a3⟩,hva,hkeep⟩:=(HX.out.on hb).getk hv;injection hsl2 with hA2 _ hcc2
    subst hA2 hcc2;have hok:v.s.length<=1000000:=by obtain ⟨_,_,_,_,h⟩:=hva;exact h
    have BP:Below wr.heap.size wr (wr.alloc (.cells #[.string (strN p.1),.int .i64 p.2] 87)).drew:=(za _ _).drew;have KF:=fun w'=>zuc v p.2 A0 c0 w' (by omega);have HC:Hid (∀ w',Below (wr.alloc (.cells #[.string (strN p.1),.int .i64 p.2] 87)).drew.heap.size (wr.alloc (.cells #[.string (strN p.1),.int .i64 p.2] 87)).drew w'->w'.cell? ⟨wr.heap.size,1,none⟩ =some (.int .i64 p.2)/\w'.cell? ⟨kb,ko+j*3,none⟩ =some (.int .i64 v.t)/\w'.cell? ⟨kb,ko+j*3+1,none⟩ =some (.int .i64 v.n)/\w'.cell? ⟨kb,ko+j*3+2,none⟩ =some (.slice A0 v.s.length c0)):=fun w' h=>by
     have hn':w'.heap[wr.heap.size]? =some (.cells #[.string (strN p.1),.int .i64 p.2] 87 (0,0)):=zg h (heap_alloc_new wr _) (by simp);have hk':=BP.trans (h.mono BP.size);exact ⟨zZ (cs:=[.string (strN p.1),.int .i64 p.2]) hn' 1 _ rfl,zb a1 hk',zb a2 hk',zb a3 hk'⟩
    have HG:=zz9 (And.intro hk (And.intro hb (And.intro hf (And.intro hp hv))));have HBP:=zz9 BP;have KFF:=zz9 KF;clear hk hb hf hva hkeep hp hv BP a1 a2 a3 KF hok
    go_upto_region 6 with fail
    clear q1 q2
    go_region_held2 (fun w'=>w'.cell? ⟨wr.heap.size,1,none⟩ =some (.int .i64 p.2)/\w'.cell? ⟨kb,ko+j*3,none⟩ =some (.int .i64 v.t)/\w'.cell? ⟨kb,ko+j*3+1,none⟩ =some (.int .i64 v.n)/\w'.cell? ⟨kb,ko+j*3+2,none⟩ =some (.slice A0 v.s.length c0))
     (first|(with_reducible exact HC.out _ (.refl _ _))|(with_reducible exact HC.out _ h3))
     (first|(go_at_call 78;with_reducible refine (KFF.out (wr.alloc (.cells #[.string (strN p.1),.int .i64 p.2] 87)).drew).mono ?_;rintro e w3 ⟨rfl,h3⟩))
    have hb3:=HG.out.2.1.trans ((HBP.out.trans (h3.mono HBP.out.size)).mono HG.out.2.1.size);by_cases hff:jg p.2 v =true
    ·rw [hff]
     have HB3:=zz9 hb3;have HN3:Hid (fitL ps vs =fitL (ps.drop (j+1)) (vs.drop (j+1))):=by
      show _ =_;rw [HG.out.2.2.1,xw HG.out.2.2.2.1,xw HG.out.2.2.2.2]
      conv=>lhs;unfold fitL
      rw [hff];rfl
     clear h3 hb3 hff
     go_wp2_with fail
     go_roundg (ps.length-(j+1))
     case measure=>have:=HG.out.1;omega
     case rel=>exact ⟨j+1,by simp,by have:=HG.out.1;omega,HB3.out,HN3.out⟩
    ·have hff':jg p.2 v =false:=by simpa using hff
     rw [hff'];have HB3:=zz9 hb3;have HN3:Hid (fitB ps vs =false):=by
      show _ =_;rw [HB.out,HG.out.2.2.1];exact ziw HG.out.2.2.2.1 HG.out.2.2.2.2 hff'
     clear h3 hb3 hff hff'
     go_wp2_with fail
     go_ret;exact ⟨by rw [HN3.out];rfl,HB3.out⟩
   ·have hj:j =ps.length:=by omega
    have hnlt:¬ (j:Int) < (ps.length:Int):=by omega
    have HN3:Hid (fitB ps vs =true):=by
     show _ =_;rw [HB.out,hf,hj,List.drop_length];rfl
    have HB3:=zz9 hb;clear hk hb hf hj hlt
    go_wp2_with fail
    go_ret;exact ⟨by rw [HN3.out];rfl,HB3.out⟩
 ·have ql:((vs.length:Int) != (ps.length:Int)) =true:=by
   have:(vs.length:Int)≠(ps.length:Int):=by omega
   simpa using this
  have HR:Hid (fitB ps vs =false):=by
   show _ =_;unfold fitB;have:(vs.length == ps.length) =false:=by rw [beq_eq_false_iff_ne];exact hl
   rw [this];rfl
  clear hl hx hp
  go_wp2_with fail
  go_ret;exact ⟨by rw [HR.out];rfl,.refl _ _⟩
end
section
open Go.RowKit Go.MapKept
variable [Prt]
theorem zhk:∀ {l:List (List Nat×Value)},(∀ p∈l,p.1≠s)->updV l s u =l++[(s,u)]
 | [],_=>rfl
 | p::l,h=>by
  unfold updV;rw [if_neg (h p (by simp)),zhk fun q hq=>h q (by simp [hq])];rfl
theorem zbn:∀ {l seen:List Xf},(runL wX seen l).1 =none->∀ (i:Nat) (f:Xf),l[i]? =some f->(∀ g∈seen,g.name≠f.name)/\∀ j g,j < i->l[j]? =some g->g.name≠f.name
 | [],_,_,i,f,h=>by simp at h
 | x::l,seen,h,i,f,hf=>by
  unfold runL wX at h;by_cases hx:seen.any (fun g=>g.name == x.name) =true
  ·rw [if_pos hx] at h;cases h
  ·rw [if_neg hx] at h
   dsimp only at h;have ih:=zbn h;have hx':∀ g∈seen,g.name≠x.name:=by
    intro g hg e;exact hx (List.any_eq_true.2 ⟨g,hg,by simp [e]⟩)
   cases i with
   | zero=>
    simp at hf;subst hf;exact ⟨hx',fun j g hj=>by omega⟩
   | succ i=>
    have h1:=ih i f (by simpa using hf);refine ⟨fun g hg=>h1.1 g (by simp [hg]),fun j g hj hg=>?_⟩;cases j with
    | zero=>simp at hg;subst hg;exact h1.1 _ (by simp)
    | succ j=>exact h1.2 j g (by omega) (by simpa using hg)
theorem zok {fs:List Xf} {ks:List Two} {f:Xf} {k:Two} (hf:fs[j]? =some f) (hk:ks[j]? =some k):tabC (fs.take (j+1)) (ks.take (j+1)) =tabC (fs.take j) (ks.take j)++[(f.name,.agg (xfC f k.p k.b).toArray)]:=by
 have h1:fs.take (j+1) =fs.take j++[f]:=by rw [List.take_add_one,hf];rfl
 have h2:ks.take (j+1) =ks.take j++[k]:=by rw [List.take_add_one,hk];rfl
 have l1:=(List.getElem?_eq_some_iff.1 hf).1;have l2:=(List.getElem?_eq_some_iff.1 hk).1;rw [h1,h2,zdk _ _ (by simp;omega)]
theorem XfsC.getV {l:List Xf} {ks:List Two} {V:Value} (h:XfsC w D l ks V) {f:Xf} (he:l[i]? =some f):∃ (kb ko c:Nat) (k:Two) (A1 A2:Option Addr) (c1 c2:Nat),V =.slice (some ⟨kb,ko,none⟩) l.length c/\l.length<=c/\c<=maxLen/\ks[i]? =some k/\k.p =.slice A1 f.params.length c1/\k.b =.slice A2 f.body.length c2 /\
  w.rangeAt kb (ko+i*5) [.string (strN f.name),.slice A1 f.params.length c1,.int .i64 f.result,.slice A2 f.body.length c2,.int .i64 f.place]/\XfK w D f k:=by
 obtain ⟨hk,h1,h2⟩:=h;have hi:=(List.getElem?_eq_some_iff.1 he).1;obtain ⟨k,hk'⟩:∃ k,ks[i]? =some k:=⟨ks[i]'(by omega),List.getElem?_eq_getElem _⟩;have hx:=h2 i f k he hk';have hg:=fun j hj=>ky (f:=fun (f:Xf) (k:Two)=>xfC f k.p k.b) (m:=5) (fun _ _=>rfl) l ks i j f k he hk' hj;obtain ⟨A1,c1,e1⟩:=hx.params.slice5;obtain ⟨A2,c2,e2⟩:=zt hx.body
 obtain ⟨b,o,c,rfl,a1,a2,a3,a4⟩:=h1.plain5 (by
  intro e0;have:=hg 0 (by omega);unfold xfsC at e0;rw [e0] at this
  simp [xfC] at this)
 refine ⟨b,o,c,k,A1,A2,c1,c2,rfl,a1,a2,hk',e1,e2,fun j v hv=>?_,hx⟩;have hj:j < 5:=by
  have:=(List.getElem?_eq_some_iff.1 hv).1;simpa using this
 rw [Nat.add_assoc];refine a4 _ v ((hg j hj).trans ?_);show (xfC f k.p k.b)[j]? =_;rw [e1,e2];exact hv
theorem zrc:(Tryz.prog.info? 69).map (·.size) =some 5:=by kernel_rfl
def CbS (w:World) (g:Nat) (fs:List Xf) (ks:List Two) (k:Nat) (i:Value) (wr:World):Prop:=
 ∃ j:Nat,i =.int .i64 j/\k+j =fs.length/\qs wr g (tabC (fs.take j) (ks.take j))/\Below w.heap.size w wr
theorem zh8 (fs:List Xf) (ks:List Two) (A:Option Addr) (c:Nat) (w:World) (B:Nat) (hB:B<=w.heap.size) (hr:XfsC w (Lo B) fs ks (.slice A fs.length c)) (hp:kD fs =none) :
  Calls Tryz.prog 42 #[.agg #[.slice A fs.length c]] w fun e w'=>e =.returned (.map (some (w.heap.size+1)))/\qs w' (w.heap.size+1) (tabC fs ks)/\Below w.heap.size w w':=by
 have hl:fs.length<=9223372036854775807:=hr.2.1.len5;have htw:(runL wX [] fs).1 =none:=by
  unfold kD at hp
  split at hp
  ·cases hp
  ·split at hp
   ·cases hp
   ·assumption
 have HTW:=zz9 (zbn htw);have HR:=zz9 hr;have hcm:je fs =(0,0):=by unfold je;rw [hp];rfl
 have K0:Hid (∀ w',B<=w'.heap.size->XfsC w' (Lo B) fs ks (.slice A fs.length c)->Calls Tryz.prog 56 #[.agg #[.slice A fs.length c]] w' fun e w''=>e =.returned (.tuple #[.int .i64 0,.int .i64 0])/\Below w'.heap.size w' w''):=fun w' h1 h2=>by
  have h:=zpj fs ks A c w' B h1 h2;rw [hcm] at h;exact h
 clear hr hp htw hcm;have hmm:∀ (t:TypeId) (w:World),(Instr.makeMap t none).run Tryz.prog w =.ok (.map (some w.heap.size)) (w.alloc (.map #[] 0)):=fun t w=>run_makeMap t w;have b1:=za w (.cells #[.slice A fs.length c] 26);have b2:=za (w.alloc (.cells #[.slice A fs.length c] 26)) (.map #[] 0);have z0:((w.alloc (.cells #[.slice A fs.length c] 26)).alloc (.map #[] 0)).cell? ⟨w.heap.size,0,none⟩ =some (.slice A fs.length c):=zb (by rw [cell_of_row _ _ _ _ _ _ (heap_alloc_new w _)];rfl) b2;have hm:=qs.made (w.alloc (.cells #[.slice A fs.length c] 26));rw [World.size_alloc] at hm;have HB0:=zz9 (zd b1 b2 b1.size);have K:=zz9 (K0.out _ (by have:=HB0.out.size;omega) (HR.out.same (xj HB0.out hB)));have HM0:=zz9 hm;clear hm b1 b2;go_enter Tryz.func42,Tryz.ntmps42
 go_upto_region 2 with fail
 clear hmm
 generalize (w.alloc (.cells #[.slice A fs.length c] 26)).alloc (.map #[] 0) =w0 at *
 go_wp2_with fail
 with_reducible refine K.out.mono ?_
 rintro e w1 ⟨rfl,hb⟩;have HM1:=zz9 (HM0.out.of (hb.block _ HM0.out.lt));have HB1:=zz9 (zd HB0.out hb HB0.out.size);have y0:=zb z0 hb;have HST:Hid (CbS w (w.heap.size+1) fs ks fs.length (.int .i64 0) w1):=⟨0,rfl,rfl,by simpa [tabC] using HM1.out,HB1.out⟩;clear hb K z0 HM0 HM1 HB0
 go_wp2_with fail
 go_loopg [20] fs.length (fun k i wr=>CbS w (w.heap.size+1) fs ks k i wr)
 case atStart=>exact HST.out
 case round=>
  obtain ⟨j,rfl,hk,hm,hb⟩:=hrel;by_cases hlt:j < fs.length
  ·have hlt':(j:Int) < (fs.length:Int):=by omega
   obtain ⟨f,hf⟩:∃ f,fs[j]? =some f:=⟨_,List.getElem?_eq_getElem hlt⟩;obtain ⟨kb,ko,kc,k,A1,A2,c1,c2,hsl,p1,p2,hkk,ek1,ek2,hrg,hxf⟩:=(HR.out.same (xj hb hB)).getV hf;injection hsl with hA _ hcc
   subst hA hcc;have HRG:=zz9 hrg;have BP:=za wr (.cells #[.string (strN f.name),.slice A1 f.params.length c1,.int .i64 f.result,.slice A2 f.body.length c2,.int .i64 f.place] 69);obtain ⟨x0,x1,x2,x3,x4⟩:=znn (heap_alloc_new wr (.cells #[.string (strN f.name),.slice A1 f.params.length c1,.int .i64 f.result,.slice A2 f.body.length c2,.int .i64 f.place] 69));have hm1:=hm.of (BP.block _ hm.lt);have HNM:=zz9 hxf.name;obtain ⟨w2,hup,hm2,hg2,hz2⟩:=zf2 hm1 HNM.out Tryz.underlying96 (.agg #[.string (strN f.name),.slice A1 f.params.length c1,.int .i64 f.result,.slice A2 f.body.length c2,.int .i64 f.place]);have hnew:∀ p∈tabC (fs.take j) (ks.take j),p.1≠f.name:=by
    intro p hp;unfold tabC at hp;obtain ⟨i,hi,e⟩:=List.getElem_of_mem hp;have hi2:i < j:=by simp at hi;omega
    have:p.1 =(fs[i]'(by omega)).name:=by rw [<- e];simp
    rw [this];exact (HTW.out j f hf).2 i _ hi2 (List.getElem?_eq_getElem _)
   rw [zhk hnew] at hm2;have HM2:Hid (qs w2 (w.heap.size+1) (tabC (fs.take (j+1)) (ks.take (j+1)))):=by
    show qs _ _ _;rw [zok hf hkk];unfold xfC;rw [ek1,ek2];exact hm2
   have HB2:Hid (Below w.heap.size w w2):=hb.trans ((BP.mono hb.size).trans (show Below w.heap.size _ w2 from ⟨hg2.os,hg2.tape,hg2.output,by have:=hg2.size;omega,fun b hb'=>hg2.block b (by have:=hb.size;simp;omega) (fun e=>by injection e with e;omega)⟩));have HK:=zz9 hk;clear hk hm hb hf hrg hxf hm1 hm2 hg2 hz2 hnew BP hkk ek1 ek2
   go_wp2_with (first|(refine wpList_load_mid rfl 69 (.tmp 22) rfl kb (ko+j*5) rfl [.string (strN f.name),.slice A1 f.params.length c1,.int .i64 f.result,.slice A2 f.body.length c2,.int .i64 f.place] _ HRG.out Tryz.underlying69 rfl zrc ?_;refine Hid.out ?_)|fail)
   refine zz9 ?_
   go_wp2_with fail
   go_roundg (fs.length-(j+1))
   case measure=>have:=HK.out;omega
   case rel=>exact ⟨j+1,by simp,by have:=HK.out;omega,HM2.out,HB2.out⟩
  ·have hj:j =fs.length:=by omega
   have hnlt:¬ (j:Int) < (fs.length:Int):=by omega
   have HF:Hid (qs wr (w.heap.size+1) (tabC fs ks)/\Below w.heap.size w wr):=by
    refine ⟨?_,hb⟩;rw [hj,List.take_length,<- HR.out.1,List.take_length] at hm;exact hm
   clear hk hm hb hj hlt
   go_wp2_with fail
   go_ret;exact ⟨rfl,HF.out.1,HF.out.2⟩
end
section
section
open Go.RowKit Go.Shelf
attribute [local go_sem] Oper.semAt_some
abbrev lv:Value:=.func (.func 272) #[] #[]
def KpD (D:Nat->Prop) (W W':World):Prop:=∀ b,D b->W'.heap[b]? =W.heap[b]?
theorem KpD.refl (D:Nat->Prop) (W:World):KpD D W W:=fun _ _=>rfl
theorem KpD.t {A B C:World} (h:KpD D A B) (k:KpD D B C):KpD D A C:=fun b hb=>(k b hb).trans (h b hb)
theorem KpD.b (hD:∀ b,D b->b < w.heap.size) (W:World) (l:Nat) (o o':Obj) (hl:w.heap.size<=l) (_:W.heap[l]? =some o) (_:o.isCells =false) (_:o.isWalk =false):KpD D W (W.putObj l o'):=fun b hb=>
 World.putObj_heap_other (by have:=hD b hb;omega)
def vl (n r:Nat):List Nat:=(List.range r).map fun j=>n-1-j
theorem zbc (n r:Nat):vl n (r+1) =vl n r++[n-1-r]:=by simp [vl,List.range_succ]
theorem zdr (n r:Nat):(vl n r).length =r:=by simp [vl]
abbrev encB (gs:List Value) (x:Nat):Array Value:=#[.int .i64 (x:Int),gs.getD x lv]
theorem zvj (n:Nat) (hn:1<=n) (l Bs:Nat) (D:Nat->Prop) (A:Option Addr) (cap:Nat) (gs:List Value) (hsm:gs.length<=50000) (J Jx:List Nat->World->Prop)
  (hY:∀ pre x W,J pre W->pre.length < gs.length->YieldAt Fence.wide (n-1) Tryz.prog l (encB gs x) W fun e W'=>
   (e =.returned (.bool true)/\J (pre++[x]) W'/\KpD D W W')\/(e =.returned (.bool false)/\Jx (pre++[x]) W'))
  (W:World) (hBs:W.cell? ⟨Bs,0,none⟩ =some (.slice A gs.length cap)) (hDB:D Bs) (hc:∀ j,j < gs.length->∃ g o,A =some ⟨g,o,none⟩/\D g/\W.cell? ⟨g,o+j,none⟩ =some (gs.getD j lv)) (h0:J [] W) :
  CallsIn Fence.wide n Tryz.prog 129 #[.func (.yield l) #[] #[],.pointer (some ⟨Bs,0,none⟩)] W fun e W'=>(∃ v,e =.returned v) /\
   ((∃ ys,ys =vl gs.length gs.length/\J ys W')\/(∃ pre,True/\Jx pre W')):=by
 refine callsIn_of_wp Tryz.func129 rfl trivial ?_ rfl;simp only [Tryz.ntmps129,List.size_toArray,List.length_cons,List.length_nil,Nat.reduceAdd,Nat.reduceSub,Array.replicate_succ,Array.replicate_zero,List.push_toArray,List.append_toArray,List.nil_append,List.cons_append]
 gi_wp2
 gi_loopw [3] (fun i wr=>∃ r q:Nat,r+q =gs.length/\i =.int .i64 ((q:Int)-1)/\J (vl gs.length r) wr/\KpD D W wr)
  (fun i _=>(intOf i+1).toNat)
 case atStart=>exact ⟨0,gs.length,by omega,by go_num,h0,KpD.refl _ _⟩
 case round=>
  obtain ⟨r,q,hrq,rfl,hJs,hnx⟩:=hrel;have hcb:wr.cell? ⟨Bs,0,none⟩ =some (.slice A gs.length cap):=(World.cell?_of_block (a:=⟨Bs,0,none⟩) (w:=W) (hnx Bs hDB)).trans hBs;cases q with
  | zero=>
   obtain rfl:r =gs.length:=by omega
   gi_wp2
   go_end0
   exact ⟨⟨_,rfl⟩,.inl ⟨_,rfl,hJs⟩⟩
  | succ q=>
   have e:((q+1:Nat):Int)-1 =(q:Int):=by omega
   rw [e];obtain ⟨g,o,rfl,hDg,hcx0⟩:=hc q (by omega);have hcx:wr.cell? ⟨g,o+q,none⟩ =some (gs.getD q lv):=(World.cell?_of_block (a:=⟨g,o+q,none⟩) (w:=W) (hnx g hDg)).trans hcx0;obtain ⟨fn,tmps,assign,body,hy,hR⟩:=hY _ q wr hJs (by rw [zdr];omega);dsimp only [encB] at hy;have hq:q < gs.length:=by omega
   have hl:vl gs.length (r+1) =vl gs.length r++[q]:=by rw [zbc];congr 2;omega
   clear hcx0 e
   generalize gs.getD q lv =v at *
   gi_wp2
   refine hR.mono ?_;rintro e W3 (⟨rfl,hJ3,hk3⟩|⟨rfl,hJx3⟩)
   ·gi_wp2
    go_roundw
    case rel=>exact ⟨r+1,q,by omega,by go_num,by rw [hl];exact hJ3,hnx.t hk3⟩
    case measure=>simp [intOf] <;> omega
   ·gi_wp2
    refine bodyPost_ret (results_none rfl _ _ _) rfl ?_;exact ⟨⟨_,rfl⟩,.inr ⟨_,trivial,hJx3⟩⟩
theorem zbh (n:Nat) (hn:1<=n) (Bs:Nat) (D:Nat->Prop) (A:Option Addr) (cap:Nat) (gs:List Value) (hsm:gs.length<=50000) (w:World) (hBs:w.cell? ⟨Bs,0,none⟩ =some (.slice A gs.length cap)) (hDB:D Bs) (hDlt:∀ b,D b->b < w.heap.size)
  (hc:∀ j,j < gs.length->∃ g o,A =some ⟨g,o,none⟩/\D g/\w.cell? ⟨g,o+j,none⟩ =some (gs.getD j lv)) :
  SeqStopsK Fence.wide n Tryz.prog 129 #[.pointer (some ⟨Bs,0,none⟩)] (encB gs) (KpD D) (fun ys=>ys =vl gs.length gs.length) (fun _=>True) gs.length w:=fun l J Jx W hW _ _ hY h0=>
 zvj n hn l Bs D A cap gs hsm J Jx hY W ((hW.cell (p:=⟨Bs,0,none⟩) (hDlt _ hDB)).trans hBs) hDB (fun j hj=>by
  obtain ⟨g,o,e,hDg,h⟩:=hc j hj
  exact ⟨g,o,e,hDg,(hW.cell (p:=⟨g,o+j,none⟩) (hDlt _ hDg)).trans h⟩) h0
theorem zed (A:Option Addr) (n c:Nat) (w:World) :
  Calls Tryz.prog 80 #[.slice A n c] w fun e w'=>e =.returned (.func (.func 129) #[] #[.pointer (some ⟨w.heap.size,0,none⟩)])/\w.alloc (.cells #[.slice A n c] 90) =w':=by
 go_enter Tryz.func80,Tryz.ntmps80
 go_wp2
 go_ret;exact ⟨rfl,rfl⟩
end
section
open Go.RowKit Go.Shelf
attribute [local go_sem] Oper.semAt_some
def za2 (n0 J:Nat) (w1:World) (cur:List PR) (Gs:List (List PR->List PR)) (r:Value) (pre:List Nat) (W:World):Prop:=
 Off n0 w1 W/\(∀ b,b < w1.heap.size->b≠J->W.heap[b]? =w1.heap[b]?)/\∃ A c,W.heap[J]? =some (.cells #[.slice A (back Gs cur pre).length c,r] 92 (0,0))/\(back Gs cur pre).length<=c/\c<=maxLen/\PrsX n0 W A c (back Gs cur pre)
theorem zeh {P:Program} {c:Code} {K:Act->World->Prop} {Q:Exit->Act->World->Prop} {a:Act} (h:c.wp P (fun e a w=>e =.normal/\K a w) a w):c.wp P (Exit.then K Q) a w:=
 Code.wp_mono (fun e a w h=>by obtain ⟨rfl,hk⟩:=h;exact hk) h
theorem zdu (Fs:List (List PR->List PR)) (cur:List PR) (m n:Nat) (hm:m<=n):∀ r,r<=n-m->back (Fs.drop m) cur (vl (n-m) r) =back Fs cur ((List.range r).map fun j=>n-1-j)
 | 0,_=>rfl
 | r+1,h=>by
  rw [zbc,jp,zdu Fs cur m n hm r (by omega),List.range_succ,List.map_append,List.map_cons,List.map_nil,jp,List.getD,List.getD,List.getElem?_drop,show m+(n-m-1-r) =n-1-r by omega]
theorem zg8 {hs:List (List PR)} {cur res:List PR} {Fs:List (List PR->List PR)} (hc:zas (hs++[cur]) Fs) (hl:Fs.length =hs.length) (hm:m<=hs.length) (hr:(hs++[cur])[m]? =some res) :
  back (Fs.drop m) cur (vl (hs.length-m) (hs.length-m)) =res:=by
 rw [zdu Fs cur m hs.length hm _ (zzA0 _)];have h:=zb3 hc hl (hs.length-m) (by omega);rw [show hs.length-(hs.length-m) =m by omega,hr] at h;injection h with h
 exact h.symm
theorem zgc {r:Nat} {o:Obj} (h:W.heap[r]? =some o) (ho:o.isCells =false):¬ Cel W r:=by
 rintro ⟨cs,T,z,h'⟩;rw [h] at h';injection h' with h'
 subst h';cases ho
theorem za2.own {n0 J:Nat} {cur:List PR} {Gs:List (List PR->List PR)} {r:Value} (hn:n0<=w1.heap.size) (hJ:J < w1.heap.size):OwnFrom w1.heap.size (za2 n0 J w1 cur Gs r):=by
 intro s W W' row hs hg hr;obtain ⟨h1,h2,A,c,h3,h4,h5,h6⟩:=hs;have ho:Off n0 W W':=by
  cases row with
  | none=>exact .of ((Below.refl W.heap.size W).grown hg (zzA0 _) (fun k hk=>by cases hk))
  | some i=>
   obtain ⟨g1,o,g2,g3⟩:=hr i rfl;exact .other hg (zgc g2 g3) (by omega)
 have hb:∀ b,b < w1.heap.size->W'.heap[b]? =W.heap[b]?:=fun b hb=>hg.block b (zzA1 hb h1.size) fun e=>by have:=(hr b e.symm).1;omega
 exact ⟨h1.trans ho,fun b hb' hne=>(hb b hb').trans (h2 b hb' hne),A,c,by rw [hb J hJ];exact h3,h4,h5,h6.off ho⟩
end
end
end Go.Proofs.YtcilgkdnjgmogaaGreatDoor
