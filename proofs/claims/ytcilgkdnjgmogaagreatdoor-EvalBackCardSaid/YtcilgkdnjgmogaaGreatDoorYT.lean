/- A part of the proof. -/
import Derived.Deep.RegionHeld2
import Derived.Test.YtcilgkdnjgmogaaGreatDoorYS
namespace Go.Proofs.YtcilgkdnjgmogaaGreatDoor
open Go.Proofs.Tryz
set_option maxRecDepth 100000
set_option maxHeartbeats 12800000
set_option linter.all false
variable {j n0:Nat} {w:World}
section
open Go.RowKit Go.MapKept
variable [Prt]
def ArgX.one{V:Value}{x:Va}(h:ArgX n0 w V [x]):∃(kb ko c:Nat) (A0:Option Addr) (c0:Nat),V=.slice (some ⟨kb,ko,none⟩) 1 c/\1<=c/\c<=maxLen/\VaC w x (VV x.t x.n (.slice A0 x.s.length c0)) /\
  ∀(w':World),Mv n0 (fun b=>n0<=b) w w'->w'.cell? ⟨kb,ko,none⟩=some (.int .i64 x.t)/\w'.cell? ⟨kb,ko+1,none⟩=some (.int .i64 x.n)/\w'.cell? ⟨kb,ko+2,none⟩=some (.slice A0 x.s.length c0):=by
 obtain⟨kb,ko,c,A0,c0,rfl,h1,h2,⟨a1,a2,a3⟩,hv,k1⟩:=h.getk (i:=0) (v:=x) rfl;refine⟨kb,ko,c,A0,c0,rfl,h1,h2,hv,fun w' hm=>?_⟩;have hk:=k1 _ w' hm (fun b h=>h);have hc:∀o,w'.cell? ⟨kb,o,none⟩=w.cell? ⟨kb,o,none⟩:=fun o=>by simp only[World.cell?,hk]
 exact⟨by rw[hc];simpa using a1,by rw[hc];simpa using a2,by rw[hc];simpa using a3⟩
def ArgX.pair{V:Value}{x y:Va}(h:ArgX n0 w V [x,y]):∃(kb ko c:Nat) (A0 A1:Option Addr) (c0 c1:Nat),V=.slice (some ⟨kb,ko,none⟩) 2 c/\2<=c/\c<=maxLen/\VaC w x (VV x.t x.n (.slice A0 x.s.length c0))/\VaC w y (VV y.t y.n (.slice A1 y.s.length c1)) /\
  ∀(w':World),Mv n0 (fun b=>n0<=b) w w'->w'.cell? ⟨kb,ko+2,none⟩=some (.slice A0 x.s.length c0)/\w'.cell? ⟨kb,ko+3+2,none⟩=some (.slice A1 y.s.length c1):=by
 obtain⟨kb,ko,c,A0,c0,rfl,h1,h2,⟨_,_,a2⟩,v1,k1⟩:=h.getk (i:=0) (v:=x) rfl;obtain⟨kb',ko',c',A1,c1,e,_,_,⟨_,_,b2⟩,v2,k2⟩:=h.getk (i:=1) (v:=y) rfl;injection e with e1 _ e3
 injection e1 with e1
 injection e1 with e1 e2 _
 subst e1 e2;refine⟨kb,ko,c,A0,A1,c0,c1,rfl,h1,h2,v1,v2,fun w' hm=>?_⟩;have hk:=k1 _ w' hm (fun b h=>h);have hc:∀o,w'.cell? ⟨kb,o,none⟩=w.cell? ⟨kb,o,none⟩:=fun o=>by simp only[World.cell?,hk]
 exact⟨by rw[hc];simpa using a2,by rw[hc];simpa using b2⟩
def zft(X:Cx10)(n:Nat)(hE:EOk X n)(hEs:EsOk X n)(hB:∀m,m<n->BOk X m):SOk X (n+1):=by
 intro c env s σ r w b ms v hc hr hs hgm hv hsh hm;obtain⟨op,aZ,aY,body,els,aW⟩:=s;obtain⟨⟨ke,kb,kf⟩,rfl,hy,hx,hbd,hel⟩:=hv;obtain⟨A1,c1,e1⟩:=zu hx;obtain⟨A2,c2,e2⟩:=zt hbd;obtain⟨A3,c3,e3⟩:=zt hel;dsimp only[Xs.aY,Xs.body,Xs.els,Xs.aZ]at e1 e2 e3 hx hbd hel hy;subst e1 e2 e3;have hn0:=hr.hn;have HN:=aQ hn0;unfold shS at hsh;simp only[aM]at hsh;obtain⟨⟨s1,s2⟩,s3⟩:=hsh;have H3:=yq w (xsO op aZ (.slice A1 aY.length c1) (.slice A2 body.length c2) (.slice A3 els.length c3) aW);obtain⟨w0,hw0⟩:∃w0,(w.alloc (xsO op aZ (.slice A1 aY.length c1) (.slice A2 body.length c2) (.slice A3 els.length c3) aW)).alloc zO=w0:=⟨_,rfl⟩;rw[hw0]at H3;have HW0:=aQ hw0;have hK0:Ks X c σ w #[.int .i64 op,.string (strN aZ),.slice A1 aY.length c1,.slice A2 body.length c2,.slice A3 els.length c3,.int .i64 aW] b ms env w0:=⟨hr.on H3.b,.of H3.b,H3.e,H3.z,hs.on H3.b⟩;unfold ji at hm;obtain⟨ru,g1,HRU⟩:=xh hm;have K:=aQ (xY X c σ w0 1 (by decide) (by decide) _ hK0.run g1);have HY:=aQ (And.intro hx (And.intro hbd (And.intro hel (And.intro hy (And.intro s1 (And.intro s2 (And.intro s3 hgm)))))));have HB:=aQ hB;have HE:=aQ (And.intro hE hEs);have KC:=aQ hK0;clear hx hbd hel hy s1 s2 s3 hgm hm hK0 H3 hw0 hr hs hE hEs g1 hB;show Calls prog 130 #[.pointer (some ⟨X.R,0,none⟩),.agg #[.int .i64 op,.string (strN aZ),.slice A1 aY.length c1,.slice A2 body.length c2,.slice A3 els.length c3,.int .i64 aW],.pointer (some ⟨b,0,none⟩)] w (qR X c (·∈ms) (QB10 X b ms) w r);go_enter func130,ntmps130;go_upto_region 1 with fail
 rw[HW0.out]
 go_wp2_with fail
 (with_reducible refine K.out.mono ?_)
 rintro e' w1 hG;rcases ru with⟨_,τ⟩|⟨t,τ⟩
 rotate_left
 ·obtain⟨hM,rfl,c',hs⟩:=hG;exact⟨rfl,zy (HRU.out.1 _ _ rfl) (KC.out.mv.trans (NoM.mono hM)) hs⟩
 obtain⟨hM,u,rfl,hu,hs⟩:=hG;replace KC:=aQ (KC.out.go hM hs);have h2:=HRU.out.2 _ _ rfl;clear K hM hs hu HRU;dsimp only;by_cases o3:op=3
 ·subst o3;rw[if_pos rfl]at h2
  match aY,h2,HY,KC,HW0 with
  | [e],h2,HY,KC,HW0=>
   dsimp only at h2;obtain⟨y1,y2,y3,y4,y5,y6,y7,y8⟩:=HY.out;have y1':XesC w (Lo X.n0) [e] (.slice A1 1 c1):=y1;unfold shL at y5;simp only[aM]at y5;have KB:=aQ (zn2 X n HE.out.1 HB.out c env aZ e body els aW τ r w1 b ms A1 A2 A3 c1 c2 c3 hc KC.out.run KC.out.sc y8 (y1'.same (xk KC.out.mv HN.out)) (y2.same (xk KC.out.mv HN.out)) (y3.same (xk KC.out.mv HN.out)) y5.1 y6 y7 h2);clear y1 y2 y3 y4 y5 y6 y7 y8 y1' h2 HY HB HE
   simp only[aB,List.length_nil,Nat.zero_add]at *
   obtain⟨e0,e1,e2,e3,e4,e5⟩:=yH KC.out.e
   go_wp2_with fail
   (with_reducible refine KB.out.mono ?_)
   rintro e2 w2 hG;rcases r with⟨⟨o,env2⟩,τ2⟩|⟨t2,τ2⟩
   rotate_left
   ·obtain⟨hM,rfl,c',hs⟩:=hG;exact⟨rfl,zy rfl (KC.out.mv.trans hM) hs⟩
   obtain⟨hM,x,rfl,⟨hq,hsc⟩,hs⟩:=hG;dsimp only at hq hsc;obtain⟨A5,c5,bb,rfl,_,rfl⟩:=zb2 hq;have KF:=aQ (KC.out.block hM hs hsc);have HQ5:=aQ hq;clear hM hs hsc hq e0 e1 e2 e3 e4 e5;dsimp only
   go_wp2_with(refine zm rfl (.tmp 6) (.tmp 19) rfl rfl (w.heap.size+1) rfl (o.getD qe).t (o.getD qe).n A5 (o.getD qe).s.length c5 rfl KF.out.z ?_;intro w7 g1)
   refine vS (qW results130 _ _ (w.heap.size+1) rfl g1.here) rfl ?_;exact qY (o:=o) (env:=env2) rfl KF.out.run KF.out.mv HQ5.out KF.out.sc (by omega) KF.out.z g1 HN.out
 rw[if_neg o3]at h2;by_cases o4:op=4
 ·subst o4;obtain⟨y1,y2,y3,y4,y5,y6,y7,y8⟩:=HY.out;have KB:=aQ (zsv X n HE.out.2 HB.out c env aZ aY body els aW τ r w1 b ms A1 A2 A3 c1 c2 c3 hc KC.out.run KC.out.sc y8 y4 (y1.same (xk KC.out.mv HN.out)) (y2.same (xk KC.out.mv HN.out)) y5 y6 h2);clear y1 y2 y3 y4 y5 y6 y7 y8 h2 HY HB HE;obtain⟨e0,e1,e2,e3,e4,e5⟩:=yH KC.out.e
  go_wp2_with fail
  (with_reducible refine KB.out.mono ?_)
  rintro e2 w2 hG;rcases r with⟨⟨o,env2⟩,τ2⟩|⟨t2,τ2⟩
  rotate_left
  ·obtain⟨hM,rfl,c',hs⟩:=hG;exact⟨rfl,zy rfl (KC.out.mv.trans hM) hs⟩
  obtain⟨hM,x,rfl,⟨hq,hsc⟩,hs⟩:=hG;dsimp only at hq hsc;obtain⟨A5,c5,bb,rfl,_,rfl⟩:=zb2 hq;have KF:=aQ (KC.out.block hM hs hsc);have HQ5:=aQ hq;clear hM hs hsc hq e0 e1 e2 e3 e4 e5;dsimp only
  go_wp2_with(refine zm rfl (.tmp 6) (.tmp 27) rfl rfl (w.heap.size+1) rfl (o.getD qe).t (o.getD qe).n A5 (o.getD qe).s.length c5 rfl KF.out.z ?_;intro w7 g1)
  refine vS (qW results130 _ _ (w.heap.size+1) rfl g1.here) rfl ?_;exact qY (o:=o) (env:=env2) rfl KF.out.run KF.out.mv HQ5.out KF.out.sc (by omega) KF.out.z g1 HN.out
 obtain⟨ro,g1,HRO⟩:=xh h2;have K2:=aQ (HE.out.2 c env aY τ ro w1 _ ms _ hc KC.out.run KC.out.sc (HY.out.1.same (xk KC.out.mv HN.out)) HY.out.2.2.2.2.1 g1);obtain⟨e0,e1,e2,e3,e4,e5⟩:=yH KC.out.e;clear h2 g1
 go_wp2_with fail
 (with_reducible refine K2.out.mono ?_)
 rintro e7 w2 hG;rcases ro with⟨vs,τ2⟩|⟨t,τ2⟩
 rotate_left
 ·obtain⟨hM,rfl,c',hs⟩:=hG;exact⟨rfl,zy (HRO.out.1 _ _ rfl) (KC.out.mv.trans (NoM.mono hM)) hs⟩
 obtain⟨hM,V,rfl,hO,hs⟩:=hG;have h3:=HRO.out.2 _ _ rfl
 (try dsimp only at h3)
 rw[if_neg o4]at h3;replace KC:=aQ (KC.out.go hM hs);have hX:=OwnV.argX (n0:=X.n0) hO;clear K2 HRO hM hO hs e0 e1 e2 e3 e4 e5;obtain⟨e0,e1,e2,e3,e4,e5⟩:=yH KC.out.e;by_cases o5:op=5
 ·subst o5;rw[if_pos rfl]at h3;have H3:Hid (r=.ok (some (zay vs),env) τ2):=by
   show _=_;injection h3 with h
   exact h.symm
  have KR:=aQ (ziy X.n0 w2 V vs hX);obtain⟨AV,cV,rfl⟩:=hX.len;clear h3 hX HY HB HE o3 o4
  go_wp2_with fail
  (with_reducible refine KR.out.mono ?_)
  rintro e8 w3⟨u3,rfl,hv3,b3⟩;obtain⟨A5,c5,rfl,_,_⟩:=xM hv3;have KF:=aQ (KC.out.on b3);have HV3:=aQ hv3;clear hv3 b3 e0 e1 e2 e3 e4 e5 KR
  generalize zay vs=v at *
  go_wp2_with(refine zm rfl (.tmp 6) (.tmp 57) rfl rfl (w.heap.size+1) rfl v.t v.n A5 v.s.length c5 rfl KF.out.z ?_;intro w7 g1)
  refine vS (qW results130 _ _ (w.heap.size+1) rfl g1.here) rfl ?_;exact qY (o:=some v) (env:=env) H3.out KF.out.run KF.out.mv ⟨_,rfl,HV3.out⟩ KF.out.sc (by omega) KF.out.z g1 HN.out
 rw[if_neg o5]at h3;have hsh2:(∃a,vs=[a])\/∃a a',vs=[a,a']:=by
  match vs,h3 with
  | [a],_=>exact .inl ⟨a,rfl⟩
  | [a,a'],_=>exact .inr ⟨a,a',rfl⟩
  | [],h=>cases h
  | _::_::_::_,h=>cases h
 obtain⟨a,rfl⟩|⟨a,a',rfl⟩:=hsh2
 ·dsimp only at h3;by_cases o1:op=1
  ·subst o1
   (first|rw[if_pos rfl]at h3|rw[if_pos True.intro]at h3)
   have H3:Hid (r=.ok (none,zfr env aZ a) τ2):=by
    show _=_;injection h3 with h
    exact h.symm
   obtain⟨f,rest,rfl⟩:∃f rest,env=f::rest:=by
    cases env with
    | nil=>exact absurd KC.out.sc (by intro h;cases h)
    | cons f rest=>exact⟨f,rest,rfl⟩
   obtain⟨kb,ko,vc,A5,c5,rfl,p1,p2,hva,hcells⟩:=hX.one;obtain⟨m,bms,rfl⟩:∃m bms,ms=m::bms:=by
    cases ms with
    | nil=>exact absurd KC.out.sc (by intro h;cases h)
    | cons m bms=>exact⟨m,bms,rfl⟩
   replace KC:=aQ (KC.out.on (Below.refl w2.heap.size w2).drew);have hnm:X.n0<=m:=(KC.out.sc.ms m (by simp)).1;have KD:=aQ (ww X c τ2 w2.drew b m bms f rest aZ a _ KC.out.run KC.out.sc (by intro e;exact HY.out.2.2.2.2.2.2.2 (by simp[e])) HY.out.2.2.2.1 (hva.on (Below.refl w2.heap.size w2).drew))
   have HCE:Hid (∀w',Mv X.n0 (· =m) w2.drew w'->w'.cell? ⟨w.heap.size,1,none⟩=some (.string (strN aZ))/\w'.cell? ⟨kb,ko,none⟩=some (.int .i64 a.t)/\w'.cell? ⟨kb,ko+1,none⟩=some (.int .i64 a.n)/\w'.cell? ⟨kb,ko+2,none⟩=some (.slice A5 a.s.length c5)):=fun w' h=>
    ⟨(yH (h.kept KC.out.e (by decide))).2.1,hcells w' ((Mv.of (Below.refl w2.heap.size w2).drew).trans (h.less fun k _ e=>by have e:k=m:=e;rw[e];exact hnm))⟩
   clear h3 hX hva hcells HB HE o3 o4 o5;go_upto_region 10 with fail
   go_region_held2 (fun w'=>w'.cell? ⟨w.heap.size,1,none⟩=some (.string (strN aZ))/\w'.cell? ⟨kb,ko,none⟩=some (.int .i64 a.t)/\w'.cell? ⟨kb,ko+1,none⟩=some (.int .i64 a.n)/\w'.cell? ⟨kb,ko+2,none⟩=some (.slice A5 a.s.length c5))
    (first|(with_reducible exact HCE.out _ (.refl _ _ _))|(with_reducible exact HCE.out _ hD))
    (first|(go_at_call 84;refine KD.out.mono ?_;rintro e3 w3 ⟨rfl,hD,hS3,hR3⟩))
   have KF:=aQ (KC.out.block (hD.less fun k _ e=>by have e:k=m:=e;simp[e]) hR3 hS3);clear hD hS3 hR3 e0 e1 e2 e3 e4 e5
   go_wp2_with(refine zm rfl (.tmp 6) (.tmp 78) rfl rfl (w.heap.size+1) rfl 0 0 none 0 0 rfl KF.out.z ?_;intro w7 g1)
   refine vS (qW results130 _ _ (w.heap.size+1) rfl g1.here) rfl ?_;exact qY (o:=none) (env:=updF f aZ a::rest) H3.out KF.out.run KF.out.mv rfl KF.out.sc (by omega) KF.out.z g1 HN.out
  rw[if_neg o1]at h3;by_cases o2:op=2
  ·subst o2
   (first|rw[if_pos rfl]at h3|rw[if_pos True.intro]at h3)
   cases hse:setE env aZ a with
   | none=>rw[hse]at h3;cases h3
   | some env'=>
   rw[hse]at h3;have H3:Hid (r=.ok (none,env') τ2):=by
    show _=_;injection h3 with h
    exact h.symm
   obtain⟨kb,ko,vc,A5,c5,rfl,p1,p2,hva,hcells⟩:=hX.one;replace KC:=aQ (KC.out.on (Below.refl w2.heap.size w2).drew);have hms:∀m∈ms,X.n0<=m:=fun m h=>(KC.out.sc.ms m h).1;have KD:=aQ (zvc X c τ2 w2.drew _ ms env env' aZ a _ KC.out.run KC.out.sc HY.out.2.2.2.2.2.2.2 HY.out.2.2.2.1 (hva.on (Below.refl w2.heap.size w2).drew) hse)
   have HCE:Hid (∀w',Mv X.n0 (·∈ms) w2.drew w'->w'.cell? ⟨w.heap.size,1,none⟩=some (.string (strN aZ))/\w'.cell? ⟨kb,ko,none⟩=some (.int .i64 a.t)/\w'.cell? ⟨kb,ko+1,none⟩=some (.int .i64 a.n)/\w'.cell? ⟨kb,ko+2,none⟩=some (.slice A5 a.s.length c5)):=fun w' h=>
    ⟨(yH (h.kept KC.out.e (by decide))).2.1,hcells w' ((Mv.of (Below.refl w2.heap.size w2).drew).trans (h.less fun k _ e=>hms k e))⟩
   clear h3 hX hva hcells HB HE o3 o4 o5 hse o1;go_upto_region 12 with fail
   go_region_held2 (fun w'=>w'.cell? ⟨w.heap.size,1,none⟩=some (.string (strN aZ))/\w'.cell? ⟨kb,ko,none⟩=some (.int .i64 a.t)/\w'.cell? ⟨kb,ko+1,none⟩=some (.int .i64 a.n)/\w'.cell? ⟨kb,ko+2,none⟩=some (.slice A5 a.s.length c5))
    (first|(with_reducible exact HCE.out _ (.refl _ _ _))|(with_reducible exact HCE.out _ hD))
    (first|(go_at_call 156;refine KD.out.mono ?_;rintro e3 w3 ⟨rfl,hD,hS3,hR3⟩))
   have KF:=aQ (KC.out.block hD hR3 hS3);clear hD hS3 hR3 e0 e1 e2 e3 e4 e5
   go_wp2_with(refine zm rfl (.tmp 6) (.tmp 78) rfl rfl (w.heap.size+1) rfl 0 0 none 0 0 rfl KF.out.z ?_;intro w7 g1)
   refine vS (qW results130 _ _ (w.heap.size+1) rfl g1.here) rfl ?_;exact qY (o:=none) (env:=env') H3.out KF.out.run KF.out.mv rfl KF.out.sc (by omega) KF.out.z g1 HN.out
  rw[if_neg o2]at h3;by_cases o7:op=7
  ·subst o7
   (first|rw[if_pos rfl]at h3|rw[if_pos True.intro]at h3)
   by_cases ht:a.t≠3
   ·rw[if_pos ht]at h3;cases h3
   rw[if_neg ht]at h3;obtain⟨rd,g1,HRD⟩:=xh h3;obtain⟨kb,ko,vc,A5,c5,rfl,p1,p2,hva,hcells⟩:=hX.one;obtain⟨q0,q1,q2⟩:=hcells w2 (.refl _ _ _);obtain⟨kk,ek,hk,hok⟩:=hva;have hkk:kk=.slice A5 a.s.length c5:=by injection ek with ek;simp at ek;exact ek.symm
   subst hkk;have KD:=aQ (zu2 X c τ2 w2 _ a.s rd KC.out.run hk g1);clear h3 hX hcells HB HE o3 o4 o5 o1 o2 hk ek hok g1 q0 q1
   go_wp2_with fail
   (with_reducible refine KD.out.mono ?_)
   rintro e8 w3 hG;rcases rd with⟨_,τ3⟩|⟨t,τ3⟩
   rotate_left
   ·obtain⟨hM,rfl,c',hs⟩:=hG;exact⟨rfl,zy (HRD.out.1 _ _ rfl) (KC.out.mv.trans (NoM.mono hM)) hs⟩
   obtain⟨hM,u3,rfl,hu3,hs⟩:=hG;have H3:Hid (r=.ok (none,env) τ3):=by
    have h4:=HRD.out.2 _ _ rfl;show _=_;injection h4 with h
    exact h.symm
   have KF:=aQ (KC.out.go hM hs);clear hM hs hu3 e0 e1 e2 e3 e4 e5 HRD
   go_wp2_with(refine zm rfl (.tmp 6) (.tmp 78) rfl rfl (w.heap.size+1) rfl 0 0 none 0 0 rfl KF.out.z ?_;intro w7 g1)
   refine vS (qW results130 _ _ (w.heap.size+1) rfl g1.here) rfl ?_;exact qY (o:=none) (env:=env) H3.out KF.out.run KF.out.mv rfl KF.out.sc (by omega) KF.out.z g1 HN.out
  rw[if_neg o7]at h3;by_cases o8:op=8
  ·subst o8
   (first|rw[if_pos rfl]at h3|rw[if_pos True.intro]at h3)
   have H3:Hid (r=.ok (none,env) τ2):=by
    show _=_;injection h3 with h
    exact h.symm
   have KF:=KC;obtain⟨AV,cV,rfl⟩:=hX.len;clear h3 hX HB HE o3 o4 o5 o1 o2 o7
   go_wp2_with(refine zm rfl (.tmp 6) (.tmp 78) rfl rfl (w.heap.size+1) rfl 0 0 none 0 0 rfl KF.out.z ?_;intro w7 g1)
   refine vS (qW results130 _ _ (w.heap.size+1) rfl g1.here) rfl ?_;exact qY (o:=none) (env:=env) H3.out KF.out.run KF.out.mv rfl KF.out.sc (by omega) KF.out.z g1 HN.out
  rw[if_neg o8]at h3;cases h3
 ·dsimp only at h3;by_cases o6:op=6/\a.t=3/\a'.t=3
  ·rw[if_pos o6]at h3;obtain⟨rfl,t1,t2⟩:=o6;obtain⟨rd,g1,HRD⟩:=xh h3;obtain⟨kb,ko,vc,A5,A6,c5,c6,rfl,p1,p2,hva,hvb,hcells⟩:=hX.pair;obtain⟨kk,ek,hk,hok⟩:=hva;have hkk:kk=.slice A5 a.s.length c5:=by injection ek with ek;simp at ek;exact ek.symm
   subst hkk;obtain⟨kk,ek2,hk2,hok2⟩:=hvb;have hkk:kk=.slice A6 a'.s.length c6:=by injection ek2 with ek;simp at ek;exact ek.symm
   subst hkk;replace KC:=aQ (KC.out.on (Below.refl w2.heap.size w2).drew);have KD:=aQ (zvi X c τ2 w2.drew _ _ a.s a'.s rd KC.out.run (hk.on (Below.refl w2.heap.size w2).drew) (hk2.on (Below.refl w2.heap.size w2).drew) hok.2 hok2.2 g1)
   have HCE:Hid (∀w',Mv X.n0 NoM w2.drew w'->w'.cell? ⟨kb,ko+2,none⟩=some (.slice A5 a.s.length c5)/\w'.cell? ⟨kb,ko+3+2,none⟩=some (.slice A6 a'.s.length c6)):=fun w' h=>
    hcells w' ((Mv.of (Below.refl w2.heap.size w2).drew).trans (NoM.mono h))
   clear h3 hX hcells HB HE o3 o4 o5 hk ek hok hk2 ek2 hok2 g1 t1 t2;go_upto_region 16 with fail
   go_region_held2 (fun w'=>w'.cell? ⟨kb,ko+2,none⟩=some (.slice A5 a.s.length c5)/\w'.cell? ⟨kb,ko+3+2,none⟩=some (.slice A6 a'.s.length c6))
    (first|(with_reducible exact HCE.out _ (.refl _ _ _))|(with_reducible exact HCE.out _ hM))
    (first|(go_at_call 158;refine KD.out.mono ?_;rintro e3 w3 hG;(rcases rd with⟨_,τ3⟩|⟨t,τ3⟩<;>(try(obtain⟨hM,he,c',hs⟩:=hG;subst he;exact⟨rfl,zy (HRD.out.1 _ _ rfl) (KC.out.mv.trans (NoM.mono hM)) hs⟩)));obtain⟨hM,u3,rfl,hu3,hs⟩:=hG))
   have H3:Hid (r=.ok (none,env) τ3):=by
    have h4:=HRD.out.2 _ _ rfl;show _=_;injection h4 with h
    exact h.symm
   have KF:=aQ (KC.out.go hM hs);clear hM hs hu3 e0 e1 e2 e3 e4 e5 HRD
   go_wp2_with(refine zm rfl (.tmp 6) (.tmp 78) rfl rfl (w.heap.size+1) rfl 0 0 none 0 0 rfl KF.out.z ?_;intro w7 g1)
   refine vS (qW results130 _ _ (w.heap.size+1) rfl g1.here) rfl ?_;exact qY (o:=none) (env:=env) H3.out KF.out.run KF.out.mv rfl KF.out.sc (by omega) KF.out.z g1 HN.out
  ·rw[if_neg o6]at h3;cases h3
variable [Prt]
def zvk(X:Cx10)(n:Nat):EOk X n/\EsOk X n/\COk X n/\BOk X n/\SOk X n:=by
 induction n using Nat.strongRecOn with
 | ind n ih=>
  have h1:=zrd X n fun m h=>(ih m h).1;have h2:=zrk X n fun m h=>(ih m h).2.2.2.2;cases n with
  | zero=>
   refine⟨fun c env e σ r w a ms v _ _ _ _ _ hm=>?_,h1,fun c f k vs σ r w V _ _ _ _ _ hm=>?_,h2,fun c env s σ r w b ms v _ _ _ _ _ _ hm=>?_⟩
   ·unfold qD at hm;cases hm
   ·unfold xo at hm;cases hm
   ·unfold ji at hm;cases hm
  | succ n=>
   obtain⟨e1,e2,e3,e4,e5⟩:=ih n (Nat.lt_succ_self n);exact⟨zta X n e1 e2 e3,h1,zte X n e4,h2,zft X n e1 e2 fun m h=>(ih m (by omega)).2.2.2.1⟩
variable [Prt]
def jg(t:Int)(v:Va):Bool:=if v.t≠t then false else if t=3 then(v.n==0)&&decide (v.s.length<=256)else v.s.length==0
def zuc(v:Va)(t:Int)(A:Option Addr)(c:Nat)(w:World)(hl:v.s.length<=9223372036854775807):Calls prog 78 #[VV v.t v.n (.slice A v.s.length c),.int .i64 t] w fun e w'=>e=.returned (.bool (jg t v))/\Below w.heap.size w w':=by
 have BA:=aQ (za w (.cells #[.int .i64 v.t,.int .i64 v.n,.slice A v.s.length c] 41));obtain⟨z0,z1,z2⟩:=qr (ye w (.cells #[.int .i64 v.t,.int .i64 v.n,.slice A v.s.length c] 41));go_enter func78,ntmps78;by_cases h0:v.t=t
 ·have q0:(v.t != t)=false:=by simp[h0]
  by_cases h3:t=3
  ·have q3:(t==3)=true:=by simp[h3]
   by_cases hn:v.n=0
   ·have qn:(v.n==0)=true:=by simp[hn]
    by_cases h6:(v.s.length:Int)<=256
    ·have HR:Hid (jg t v=true):=by
      show _=_;unfold jg;rw[if_neg (by simpa using h0),if_pos h3,qn];have:v.s.length<=256:=by omega
      simpa using this
     clear h0 h3 hn;go_wp2;go_ret;exact⟨by rw[HR.out];rfl,BA.out⟩
    ·have HR:Hid (jg t v=false):=by
      show _=_;unfold jg;rw[if_neg (by simpa using h0),if_pos h3,qn];have:¬v.s.length<=256:=by omega
      simpa using this
     clear h0 h3 hn;go_wp2;go_ret;exact⟨by rw[HR.out];rfl,BA.out⟩
   ·have qn:(v.n==0)=false:=by rw[yI];exact hn
    have HR:Hid (jg t v=false):=by
     show _=_;unfold jg;rw[if_neg (by simpa using h0),if_pos h3,qn];rfl
    clear h0 h3 hn;go_wp2;go_ret;exact⟨by rw[HR.out];rfl,BA.out⟩
  ·have q3:(t==3)=false:=by rw[yI];exact h3
   have HR:Hid (jg t v=((v.s.length:Int)==0)):=by
    show _=_;unfold jg;rw[if_neg (by simpa using h0),if_neg h3,zaq]
   clear h0 h3;go_wp2;go_ret;exact⟨by rw[HR.out];rfl,BA.out⟩
 ·have q0:(v.t != t)=true:=by simp[h0]
  have HR:Hid (jg t v=false):=by
   show _=_;unfold jg;rw[if_pos h0]
  clear h0;go_wp2;go_ret;exact⟨by rw[HR.out];rfl,BA.out⟩
def fitL:List (List Nat×Int)->List Va->Bool
 | p::ps,v::vs=>jg p.2 v&&fitL ps vs
 | _,_=>true
def ziw{ps:List (List Nat×Int)}{vs:List Va}{p:List Nat×Int}{v:Va}(hp:ps[j]? =some p)(hv:vs[j]? =some v)(h:jg p.2 v=false):fitL (ps.drop j) (vs.drop j)=false:=by
 rw[xw hp,xw hv];unfold fitL;rw[h];rfl
def fitB(ps:List (List Nat×Int))(vs:List Va):Bool:=vs.length==ps.length&&fitL ps vs
def FtS(n0:Nat)(w:World)(ps:List (List Nat×Int))(vs:List Va)(k:Nat)(i:Value)(wr:World):Prop:=
 ∃j:Nat,i=.int .i64 j/\k+j=ps.length/\Below w.heap.size w wr/\fitL ps vs=fitL (ps.drop j) (vs.drop j)
def zvu(n0:Nat)(w:World)(ps:List (List Nat×Int))(vs:List Va)(V P:Value)(hn0:n0<=w.heap.size)(hx:ArgX n0 w V vs)(hp:RowF w (Lo n0) ps.length (xpsC ps) P):Calls prog 43 #[V,P] w fun e w'=>e=.returned (.bool (fitB ps vs))/\Below w.heap.size w w':=by
 obtain⟨AV,cV,rfl⟩:=hx.len;obtain⟨AP,cP,rfl⟩:=hp.slice5;have hpl:ps.length<=9223372036854775807:=hp.len5;go_enter func43,ntmps43;by_cases hl:vs.length=ps.length
 ·have ql:((vs.length:Int)!=(ps.length:Int))=false:=by rw[hl];simp
  have HX:=aQ hx;have HP:=aQ hp;have HST:Hid (FtS n0 w ps vs ps.length (.int .i64 0) w):=⟨0,rfl,rfl,.refl _ _,rfl⟩;have HB:Hid (fitB ps vs=fitL ps vs):=by show _=_;unfold fitB;simp[hl]
  have HL:=aQ hl;clear hx hp hl
  go_wp2_with fail
  go_loopg [14] ps.length (fun k i wr=>FtS n0 w ps vs k i wr)
  case atStart=>exact HST.out
  case round=>
   obtain⟨j,rfl,hk,hb,hf⟩:=hrel;by_cases hlt:j<ps.length
   ·have hlt':(j:Int)<(ps.length:Int):=by omega
    obtain⟨p,hp⟩:∃p,ps[j]? =some p:=⟨_,vp hlt⟩;obtain⟨v,hv⟩:∃v,vs[j]? =some v:=⟨_,vp (by have:=HL.out;omega)⟩;have hlt2:(j:Int)<(vs.length:Int):=by have:=HL.out;omega
    obtain⟨pb,po,pc,hsl,p1,p2,q1,q2⟩:=(HP.out.same (xj hb hn0)).param hp;injection hsl with hA _ hcc
    subst hA hcc;obtain⟨kb,ko,ac,A0,c0,hsl2,p3,p4,⟨a1,a2,a3⟩,hva,hkeep⟩:=(HX.out.on hb).getk hv;injection hsl2 with hA2 _ hcc2
    subst hA2 hcc2;have hok:v.s.length<=1000000:=by obtain⟨_,_,_,_,h⟩:=hva;exact h
    have BP:Below wr.heap.size wr (wr.alloc (.cells #[.string (strN p.1),.int .i64 p.2] 87)).drew:=(za _ _).drew;have KF:=fun w'=>zuc v p.2 A0 c0 w' (by omega);have HC:Hid (∀w',Below (wr.alloc (.cells #[.string (strN p.1),.int .i64 p.2] 87)).drew.heap.size (wr.alloc (.cells #[.string (strN p.1),.int .i64 p.2] 87)).drew w'->w'.cell? ⟨wr.heap.size,1,none⟩=some (.int .i64 p.2)/\w'.cell? ⟨kb,ko+j*3,none⟩=some (.int .i64 v.t)/\w'.cell? ⟨kb,ko+j*3+1,none⟩=some (.int .i64 v.n)/\w'.cell? ⟨kb,ko+j*3+2,none⟩=some (.slice A0 v.s.length c0)):=fun w' h=>by
     have hn':w'.heap[wr.heap.size]? =some (.cells #[.string (strN p.1),.int .i64 p.2] 87 (0,0)):=zg h (ye wr _) (by simp);have hk':=BP.trans (h.mono BP.size);exact⟨zZ (cs:=[.string (strN p.1),.int .i64 p.2]) hn' 1 _ rfl,zb a1 hk',zb a2 hk',zb a3 hk'⟩
    have HG:=aQ (And.intro hk (And.intro hb (And.intro hf (And.intro hp hv))));have HBP:=aQ BP;have KFF:=aQ KF;clear hk hb hf hva hkeep hp hv BP a1 a2 a3 KF hok;(go_upto_region 6 with fail);clear q1 q2
    go_region_held2 (fun w'=>w'.cell? ⟨wr.heap.size,1,none⟩=some (.int .i64 p.2)/\w'.cell? ⟨kb,ko+j*3,none⟩=some (.int .i64 v.t)/\w'.cell? ⟨kb,ko+j*3+1,none⟩=some (.int .i64 v.n)/\w'.cell? ⟨kb,ko+j*3+2,none⟩=some (.slice A0 v.s.length c0))
     (first|(with_reducible exact HC.out _ (.refl _ _))|(with_reducible exact HC.out _ h3))
     (first|(go_at_call 78;with_reducible refine(KFF.out (wr.alloc (.cells #[.string (strN p.1),.int .i64 p.2] 87)).drew).mono ?_;rintro e w3 ⟨rfl,h3⟩))
    have hb3:=HG.out.2.1.trans ((HBP.out.trans (h3.mono HBP.out.size)).mono HG.out.2.1.size);by_cases hff:jg p.2 v=true
    ·rw[hff];have HB3:=aQ hb3;have HN3:Hid (fitL ps vs=fitL (ps.drop (j+1)) (vs.drop (j+1))):=by
      show _=_;rw[HG.out.2.2.1,xw HG.out.2.2.2.1,xw HG.out.2.2.2.2]
      conv=>lhs;unfold fitL
      rw[hff];rfl
     clear h3 hb3 hff
     go_wp2_with fail
     go_roundg (ps.length-(j+1))
     case measure=>have:=HG.out.1;omega
     case rel=>exact⟨j+1,by simp,by have:=HG.out.1;omega,HB3.out,HN3.out⟩
    ·have hff':jg p.2 v=false:=by simpa using hff
     rw[hff'];have HB3:=aQ hb3;have HN3:Hid (fitB ps vs=false):=by
      show _=_;rw[HB.out,HG.out.2.2.1];exact ziw HG.out.2.2.2.1 HG.out.2.2.2.2 hff'
     clear h3 hb3 hff hff'
     (go_wp2_with fail);go_ret;exact⟨by rw[HN3.out];rfl,HB3.out⟩
   ·have hj:j=ps.length:=by omega
    have hnlt:¬(j:Int)<(ps.length:Int):=by omega
    have HN3:Hid (fitB ps vs=true):=by
     show _=_;rw[HB.out,hf,hj,List.drop_length];rfl
    have HB3:=aQ hb;clear hk hb hf hj hlt
    (go_wp2_with fail);go_ret;exact⟨by rw[HN3.out];rfl,HB3.out⟩
 ·have ql:((vs.length:Int)!=(ps.length:Int))=true:=by
   have:(vs.length:Int)≠(ps.length:Int):=by omega
   simpa using this
  have HR:Hid (fitB ps vs=false):=by
   show _=_;unfold fitB;have:(vs.length==ps.length)=false:=by rw[yI];exact hl
   rw[this];rfl
  clear hl hx hp
  (go_wp2_with fail);go_ret;exact⟨by rw[HR.out];rfl,.refl _ _⟩
end
end Go.Proofs.YtcilgkdnjgmogaaGreatDoor
