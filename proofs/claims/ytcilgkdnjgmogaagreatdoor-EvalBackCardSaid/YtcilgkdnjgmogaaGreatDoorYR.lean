/- A part of the proof. -/
import Derived.Test.YtcilgkdnjgmogaaGreatDoorYQ
import Derived.Laws.IdiomStrings
import Derived.Deep.RegionHeld2
namespace Go.Proofs.YtcilgkdnjgmogaaGreatDoor
open Go.Proofs.Tryz
set_option maxRecDepth 100000
set_option maxHeartbeats 12800000
set_option linter.all false
variable {B c g i kb ko o:Nat} {D:Nat->Prop} {K:Value} {w w' w1 w2:World}
section
open Go.RowKit Go.MapKept
variable [Prt]
def twoM(lim:Int)(F:List Nat->Option Xf)(n c:Nat)(env:Env)(aZ:List Nat)(a b:Xe)(σ:Stt):Ev Va:=
 (qD lim F n c env a σ).bind fun v σ=>
  if aZ=[38,38]then(if v.n=1 then qD lim F n c env b σ else qv (xS false) σ)
  else if aZ=[124,124]then(if v.n=1 then qv (xS true) σ else qD lim F n c env b σ)
  else(qD lim F n c env b σ).bind fun u σ=>
   if aZ=[43]/\v.t=3 then(useE lim (((v.s.length+u.s.length:Nat):Int) / 16) σ).bind fun _ σ=>endE (twoE aZ v u) σ
   else endE (twoE aZ v u) σ
structure Two2(w:World)(eo:Obj)(w0:World):Prop where
 e:w0.heap[w.heap.size]? =some eo
 z:w0.heap[w.heap.size+1]? =some (.cells #[.int .i64 0,.int .i64 0,.slice none 0 0] 41 (0,0))
 b:Below w.heap.size w w0
 s:w0.heap.size=w.heap.size+2
def qO(w:World)(eo:Obj):Two2 w eo ((w.alloc eo).alloc zO):=by
 have b1:=za w eo;have b2:=za (w.alloc eo) zO;refine⟨?_,?_,b1.trans (b2.mono b1.size),by simp⟩
 ·rw[b2.block _ (by simp)];exact ye w eo
 ·have:=ye (w.alloc eo) zO;simpa using this
abbrev xO6(op num:Int)(aZ:List Nat)(K:Value)(aW:Int):Obj:=.cells #[.int .i64 op,.int .i64 num,.string (strN aZ),K,.int .i64 aW] 202
def zk5{l:List Xe}{V:Value}(h:XesC w D l V){e:Xe}(he:l[i]? =some e)(ho:o=i*5):∃(kb ko c:Nat) (A0:Option Addr) (c0:Nat),V=.slice (some ⟨kb,ko,none⟩) l.length c /\
  w.rangeAt kb (ko+o) [.int .i64 e.op,.int .i64 e.num,.string (strN e.aZ),.slice A0 e.aX.length c0,.int .i64 e.aW]/\XeV w D e (.agg #[.int .i64 e.op,.int .i64 e.num,.string (strN e.aZ),.slice A0 e.aX.length c0,.int .i64 e.aW]):=by
 subst ho;obtain⟨kb,ko,c,A0,c0,h1,_,_,h2,h3⟩:=h.get5 he;exact⟨kb,ko,c,A0,c0,h1,h2,h3⟩
def zlc{l:List Xe}{kb ko len cp:Nat}(h:XesC w D l (.slice (some ⟨kb,ko,none⟩) len cp)){e:Xe}(he:l[i]? =some e)(ho:o=i*5):∃(A0:Option Addr) (c0:Nat),
  w.rangeAt kb (ko+o) [.int .i64 e.op,.int .i64 e.num,.string (strN e.aZ),.slice A0 e.aX.length c0,.int .i64 e.aW]/\XeV w D e (.agg #[.int .i64 e.op,.int .i64 e.num,.string (strN e.aZ),.slice A0 e.aX.length c0,.int .i64 e.aW]):=by
 obtain⟨kb',ko',c,A0,c0,h1,h2,h3⟩:=zk5 h he ho;injection h1 with h1 _ _
 injection h1 with h1
 injection h1 with h4 h5 _
 subst h4 h5;exact⟨A0,c0,h2,h3⟩
structure Kp2(X:Cx10)(c:Nat)(τ:Stt)(w:World)(eo:Obj)(p:Option Addr)(ms:List Nat)(env:Env)(l:List Xe)(V:Value)(w1:World):Prop where
 run:RunS X c τ w1
 mv:Mv X.n0 NoM w w1
 e:w1.heap[w.heap.size]? =some eo
 z:w1.heap[w.heap.size+1]? =some (.cells #[.int .i64 0,.int .i64 0,.slice none 0 0] 41 (0,0))
 sc:ScAt X.n0 w1 (.pointer p) ms env
 k:XesC w1 (Lo X.n0) l V
def Kp2.on{X:Cx10}{τ:Stt}{eo:Obj}{p:Option Addr}{ms:List Nat}{env:Env}{l:List Xe}{V:Value}(h:Kp2 X c τ w eo p ms env l V w1)(hb:Below w1.heap.size w1 w2):Kp2 X c τ w eo p ms env l V w2:=
 ⟨h.run.on hb,h.mv.then hb,zg hb h.e (aU.1 h.e).1,zg hb h.z (aU.1 h.z).1,h.sc.on hb,h.k.same (xj hb h.run.hn)⟩
def Kp2.go{X:Cx10}{τ τ':Stt}{op num aW:Int}{s:ByteArray}{p:Option Addr}{ms:List Nat}{env:Env}{l:List Xe}{V:Value}(h:Kp2 X c τ w (.cells #[.int .i64 op,.int .i64 num,.string s,K,.int .i64 aW] 202) p ms env l V w1)(hm:Mv X.n0 NoM w1 w2)(hr:RunS X c τ' w2):Kp2 X c τ' w (.cells #[.int .i64 op,.int .i64 num,.string s,K,.int .i64 aW] 202) p ms env l V w2:=
 ⟨hr,h.mv.trans hm,hm.kept h.e (by decide),hm.kept h.z (by decide),h.sc.mv hm (fun _ _ h=>h),h.k.same (xk hm h.run.hn)⟩
def zll(X:Cx10)(m c:Nat)(env:Env)(σ:Stt)(w:World)(op num:Int)(aZ:List Nat)(a b:Xe)(A:Option Addr)(cp:Nat)(aW:Int)(p:Option Addr)(ms:List Nat)(r:Ou Va)(hE:EOk X m)(hc:c<=16)(hr:RunS X c σ w)(hs:ScAt X.n0 w (.pointer p) ms env)(hy:Byn aZ)(hk:XesC w (Lo X.n0) [a,b] (.slice A 2 cp))(hsh:shL [a,b]=true)(hm:twoM X.lim X.F m c env aZ a b σ=some r):Calls prog 229 #[.pointer (some ⟨X.R,0,none⟩),.agg #[.int .i64 op,.int .i64 num,.string (strN aZ),.slice A 2 cp,.int .i64 aW],.pointer p] w (qR X c NoM VaC w r):=by
 have H3:=qO w (xO6 op num aZ (.slice A 2 cp) aW);obtain⟨w0,hw0⟩:∃w0,(w.alloc (xO6 op num aZ (.slice A 2 cp) aW)).alloc zO=w0:=⟨_,rfl⟩;rw[hw0]at H3;have HW0:=aQ hw0;have hn0:=hr.hn;have HN:=aQ hn0;have HH:=aQ H3;obtain⟨e0,e1,e2,e3,e4⟩:=kA H3.e;have hr0:=hr.on H3.b;have hs0:=hs.on H3.b;have hk0:=hk.same (xj H3.b hn0);obtain⟨kb,ko,kc,A0,c0,hV,hrg,hxa⟩:=zk5 hk0 (i:=0) (e:=a) rfl (o:=0) rfl;injection hV with hA _ hcc
 subst hA hcc;have HS:=aQ hs0;have HK:=aQ hk0;have HSH:=aQ hsh;have HRG:=aQ hrg;have HE:=aQ hE;have HM:=aQ hm;have HY:=aQ hy;have hsa:shE a=true:=zev hsh (i:=0) rfl;unfold twoM at hm;rcases qF hm with⟨t,τ,h1,h2⟩|⟨v,τ,h1,h2⟩
 ·have K:=aQ (hE c env a σ _ w0 p ms _ hc hr0 hs0 hxa hsa h1);have H2:=aQ h2;clear hr hs hk hm h1 h2 hr0 hs0 hk0 H3 hw0 hE hsh hrg hxa hsa hy HM;go_enter func229,ntmps229;(go_upto_region 1 with fail);rw[HW0.out]
  go_wp2_with(first|(refine wpList_load_mid rfl 202 (.tmp 14) rfl kb (ko+0) rfl [.int .i64 a.op,.int .i64 a.num,.string (strN a.aZ),.slice A0 a.aX.length c0,.int .i64 a.aW] _ HRG.out underlying202 rfl kr ?_;refine Hid.out ?_)|fail)
  refine aQ ?_
  go_wp2_with fail
  (with_reducible refine K.out.mono ?_)
  rintro e w1⟨hM,rfl,c',hs⟩;exact⟨rfl,zy H2.out ((Mv.of HH.out.b).trans hM) hs⟩
 ·have K:=aQ (hE c env a σ _ w0 p ms _ hc hr0 hs0 hxa hsa h1);have H2:=aQ h2
  have K0:Hid (∀w1,Mv X.n0 NoM w0 w1->RunS X c τ w1->Kp2 X c τ w (xO6 op num aZ (.slice (some ⟨kb,ko,none⟩) 2 cp) aW) p ms env [a,b] (.slice (some ⟨kb,ko,none⟩) 2 cp) w1):=fun w1 hm hr1=>
   (Kp2.go (τ:=σ) ⟨hr0,Mv.of HH.out.b,HH.out.e,HH.out.z,hs0,hk0⟩ hm hr1)
  have HSB:Hid (shE b=true):=zev hsh (i:=1) rfl;have q1:=kZ hy [38,38] (by unfold Byn;decide);have q2:=kZ hy [124,124] (by unfold Byn;decide);have q3:=kZ hy [43] (by unfold Byn;decide);have HQ:Hid (((strN aZ).toList == [38,38])=decide (aZ=[38,38])/\((strN aZ).toList == [124,124])=decide (aZ=[124,124])/\((strN aZ).toList == [43])=decide (aZ=[43])):=⟨q1,q2,q3⟩;clear hr hs hk hm h1 h2 hr0 hs0 hk0 H3 hw0 hE hsh hrg hxa hsa hy HM q1 q2 q3;go_enter func229,ntmps229;(go_upto_region 1 with fail);rw[HW0.out]
  go_wp2_with(first|(refine wpList_load_mid rfl 202 (.tmp 14) rfl kb (ko+0) rfl [.int .i64 a.op,.int .i64 a.num,.string (strN a.aZ),.slice A0 a.aX.length c0,.int .i64 a.aW] _ HRG.out underlying202 rfl kr ?_;refine Hid.out ?_)|fail)
  refine aQ ?_
  go_wp2_with fail
  (with_reducible refine K.out.mono ?_)
  rintro e w1⟨hM,V1,rfl,hv,hs1⟩;obtain⟨A1,c1,rfl,hA1,hok1⟩:=xM hv;have BZ:=za w1 (.cells #[.int .i64 v.t,.int .i64 v.n,.slice A1 v.s.length c1] 41);have KC:=aQ ((K0.out w1 hM hs1).on BZ);have HV:=aQ (hv.on BZ);have hU:=ye w1 (.cells #[.int .i64 v.t,.int .i64 v.n,.slice A1 v.s.length c1] 41);have HU:=aQ hU;have HLV:=aQ (And.intro hok1 BZ.size);obtain⟨u0,u1,u2⟩:=qr hU;obtain⟨y0,y1,y2,y3,y4⟩:=kA KC.out.e;have HUL:Hid (w1.heap.size<(w1.alloc (.cells #[.int .i64 v.t,.int .i64 v.n,.slice A1 v.s.length c1] 41)).heap.size):=by show _<_;simp
  clear hM hs1 hv hA1 hok1 BZ K K0 e0 e1 e2 e3 e4 hU;go_upto_region 2 with fail
  generalize w1.alloc (.cells #[.int .i64 v.t,.int .i64 v.n,.slice A1 v.s.length c1] 41)=w2 at *
  rcases HQ.out with⟨q1,q2,q3⟩
  by_cases t1:aZ=[38,38]
  ·rw[decide_eq_true t1]at q1;have H3:=H2;rw[if_pos t1]at H3;clear q2 q3 t1
   (go_wp2_with fail);refine(zch v.t v.n _ _).mono ?_;rintro e w3 ⟨rfl,hb3⟩;replace KC:=aQ (KC.out.on hb3);obtain⟨x0,x1,x2,x3,x4⟩:=kA KC.out.e;clear hb3 y0 y1 y2 y3 y4 u0 u1 u2;by_cases hv1:v.n=1
   ·rw[if_pos hv1]at H3;have hb1:(v.n==1)=true:=by rw[hv1];rfl
    clear hv1;obtain⟨AB,cB,hrgb,hxb⟩:=zlc KC.out.k (i:=1) (e:=b) rfl (o:=5) rfl;have HRGB:=aQ hrgb;have K2:=aQ (HE.out c env b τ _ _ p ms _ hc KC.out.run KC.out.sc hxb HSB.out H3.out);clear hrgb hxb
    go_wp2_with(first|(refine wpList_load_mid rfl 202 (.tmp 29) rfl kb (ko+5) rfl [.int .i64 b.op,.int .i64 b.num,.string (strN b.aZ),.slice AB b.aX.length cB,.int .i64 b.aW] _ HRGB.out underlying202 rfl kr ?_;refine Hid.out ?_)|fail)
    refine aQ ?_
    go_wp2_with fail
    (with_reducible refine K2.out.mono ?_)
    cases r with
    | trap t' τ'=>
     rintro e w4⟨hM,rfl,c',hs⟩;exact⟨rfl,zy rfl (KC.out.mv.trans hM) hs⟩
    | ok x τ'=>
     rintro e w4⟨hM,V4,rfl,hv4,hs4⟩;obtain⟨A4,c4,rfl,hA4,hok4⟩:=xM hv4;have KC4:=aQ (KC.out.go hM hs4);have HV4:=aQ hv4;clear hM hs4 hv4 hA4 hok4 K2 KC;have HZ4:=aQ KC4.out.z
     go_wp2_with(refine zm rfl (.tmp 6) (.tmp 32) rfl rfl (w.heap.size+1) rfl x.t x.n A4 x.s.length c4 rfl HZ4.out ?_;intro w5 g1)
     refine vS (qH results229 _ _ (w.heap.size+1) rfl g1.here) rfl ?_;exact qQ (v:=x) rfl KC4.out.run KC4.out.mv HV4.out (by omega) HZ4.out g1 HN.out
   ·rw[if_neg hv1]at H3;have hb1:(v.n==1)=false:=by rw[yI];exact hv1
    clear hv1;have HR2:Hid (r=.ok (xS false) τ):=by show _=_;have h:=H3.out;injection h with h;exact h.symm
    (go_wp2_with fail);refine(zez false _).mono ?_;rintro e w4 ⟨rfl,hb4⟩;have KC4:=aQ (KC.out.on hb4);clear hb4 KC;have HZ4:=aQ KC4.out.z
    go_wp2_with(refine zm rfl (.tmp 6) (.tmp 25) rfl rfl (w.heap.size+1) rfl 2 (b2i false) none 0 0 rfl HZ4.out ?_;intro w5 g1)
    refine vS (qH results229 _ _ (w.heap.size+1) rfl g1.here) rfl ?_;exact qQ (v:=xS false) HR2.out KC4.out.run KC4.out.mv (zde _ false) (by omega) HZ4.out g1 HN.out
  rw[decide_eq_false t1]at q1;by_cases t2:aZ=[124,124]
  ·rw[decide_eq_true t2]at q2;have H3:=H2;rw[if_neg t1,if_pos t2]at H3;clear q3 t1 t2
   (go_wp2_with fail);refine(zch v.t v.n _ _).mono ?_;rintro e w3 ⟨rfl,hb3⟩;replace KC:=aQ (KC.out.on hb3);obtain⟨x0,x1,x2,x3,x4⟩:=kA KC.out.e;clear hb3 y0 y1 y2 y3 y4 u0 u1 u2;by_cases hv1:v.n=1
   ·rw[if_pos hv1]at H3;have hb1:(v.n==1)=true:=by rw[hv1];rfl
    clear hv1;have HR2:Hid (r=.ok (xS true) τ):=by show _=_;have h:=H3.out;injection h with h;exact h.symm
    (go_wp2_with fail);refine(zez true _).mono ?_;rintro e w4 ⟨rfl,hb4⟩;have KC4:=aQ (KC.out.on hb4);clear hb4 KC;have HZ4:=aQ KC4.out.z
    go_wp2_with(refine zm rfl (.tmp 6) (.tmp 37) rfl rfl (w.heap.size+1) rfl 2 (b2i true) none 0 0 rfl HZ4.out ?_;intro w5 g1)
    refine vS (qH results229 _ _ (w.heap.size+1) rfl g1.here) rfl ?_;exact qQ (v:=xS true) HR2.out KC4.out.run KC4.out.mv (zde _ true) (by omega) HZ4.out g1 HN.out
   ·rw[if_neg hv1]at H3;have hb1:(v.n==1)=false:=by rw[yI];exact hv1
    clear hv1;obtain⟨AB,cB,hrgb,hxb⟩:=zlc KC.out.k (i:=1) (e:=b) rfl (o:=5) rfl;have HRGB:=aQ hrgb;have K2:=aQ (HE.out c env b τ _ _ p ms _ hc KC.out.run KC.out.sc hxb HSB.out H3.out);clear hrgb hxb
    go_wp2_with(first|(refine wpList_load_mid rfl 202 (.tmp 41) rfl kb (ko+5) rfl [.int .i64 b.op,.int .i64 b.num,.string (strN b.aZ),.slice AB b.aX.length cB,.int .i64 b.aW] _ HRGB.out underlying202 rfl kr ?_;refine Hid.out ?_)|fail)
    refine aQ ?_
    go_wp2_with fail
    (with_reducible refine K2.out.mono ?_)
    cases r with
    | trap t' τ'=>
     rintro e w4⟨hM,rfl,c',hs⟩;exact⟨rfl,zy rfl (KC.out.mv.trans hM) hs⟩
    | ok x τ'=>
     rintro e w4⟨hM,V4,rfl,hv4,hs4⟩;obtain⟨A4,c4,rfl,hA4,hok4⟩:=xM hv4;have KC4:=aQ (KC.out.go hM hs4);have HV4:=aQ hv4;clear hM hs4 hv4 hA4 hok4 K2 KC;have HZ4:=aQ KC4.out.z
     go_wp2_with(refine zm rfl (.tmp 6) (.tmp 44) rfl rfl (w.heap.size+1) rfl x.t x.n A4 x.s.length c4 rfl HZ4.out ?_;intro w5 g1)
     refine vS (qH results229 _ _ (w.heap.size+1) rfl g1.here) rfl ?_;exact qQ (v:=x) rfl KC4.out.run KC4.out.mv HV4.out (by omega) HZ4.out g1 HN.out
  rw[decide_eq_false t2]at q2;have H3:=H2;rw[if_neg t1,if_neg t2]at H3;clear t1 t2;obtain⟨AB,cB,hrgb,hxb⟩:=zlc KC.out.k (i:=1) (e:=b) rfl (o:=5) rfl;have HRGB:=aQ hrgb;have KB:=aQ (fun ro h=>HE.out c env b τ ro _ p ms _ hc KC.out.run KC.out.sc hxb HSB.out h);clear hrgb hxb;rcases qF H3 with⟨t',τ',h1,h2⟩|⟨u,τ',h1,h2⟩
  ·have K2:=aQ (KB.out _ h1);have H5:=aQ h2;clear KB h1 H3 H2 h2
   go_wp2_with(first|(refine wpList_load_mid rfl 202 (.tmp 48) rfl kb (ko+5) rfl [.int .i64 b.op,.int .i64 b.num,.string (strN b.aZ),.slice AB b.aX.length cB,.int .i64 b.aW] _ HRGB.out underlying202 rfl kr ?_;refine Hid.out ?_)|fail)
   refine aQ ?_
   go_wp2_with fail
   (with_reducible refine K2.out.mono ?_)
   rintro e w4⟨hM,rfl,c',hs⟩;exact⟨rfl,zy H5.out (KC.out.mv.trans hM) hs⟩
  ·have K2:=aQ (KB.out _ h1);have H5:=aQ h2;clear KB h1 H3 H2 h2
   go_wp2_with(first|(refine wpList_load_mid rfl 202 (.tmp 48) rfl kb (ko+5) rfl [.int .i64 b.op,.int .i64 b.num,.string (strN b.aZ),.slice AB b.aX.length cB,.int .i64 b.aW] _ HRGB.out underlying202 rfl kr ?_;refine Hid.out ?_)|fail)
   refine aQ ?_
   go_wp2_with fail
   (with_reducible refine K2.out.mono ?_)
   rintro e w4⟨hM,V4,rfl,hv4,hs4⟩;obtain⟨A4,c4,rfl,hA4,hok4⟩:=xM hv4;have BZ4:=za w4 (.cells #[.int .i64 u.t,.int .i64 u.n,.slice A4 u.s.length c4] 41);have hu4:=hM.kept HU.out (by decide);have hu5:=zg BZ4 hu4 (aU.1 hu4).1;replace KC:=aQ ((KC.out.go hM hs4).on BZ4);have HV5:=aQ ((HV.out.off hM.off).on BZ4);have HU5:=aQ (hv4.on BZ4);have HL:Hid (v.s.length<=1000000/\u.s.length<=1000000):=⟨HLV.out.1.2,hok4.2⟩;obtain⟨u0',u1',u2'⟩:=qr hu5;obtain⟨z0,z1,z2⟩:=qr (ye w4 (.cells #[.int .i64 u.t,.int .i64 u.n,.slice A4 u.s.length c4] 41));obtain⟨x0,x1,x2,x3,x4⟩:=kA KC.out.e;have HVH:=aQ hu5;have HUH:=aQ (ye w4 (.cells #[.int .i64 u.t,.int .i64 u.n,.slice A4 u.s.length c4] 41));clear hM hs4 hv4 hA4 hok4 K2 BZ4 hu4 hu5 u0 u1 u2 y0 y1 y2 y3 y4 q1 q2;go_upto_region 12 with fail
   generalize w4.alloc (.cells #[.int .i64 u.t,.int .i64 u.n,.slice A4 u.s.length c4] 41)=w5 at *
   have h5:=H5.out;by_cases hp:aZ=[43]/\v.t=3
   ·rw[if_pos hp]at h5;have q4:((strN aZ).toList == [43])=true:=by rw[q3,decide_eq_true hp.1]
    have q5:(v.t==3)=true:=by rw[hp.2];rfl
    clear q3 hp H5;have hwrap:IntKind.i64.wrap ((v.s.length:Int)+(u.s.length:Int))=(v.s.length:Int)+(u.s.length:Int):=IntWalk.i64_in _ (by have:=HL.out;omega);have KT:Hid (∀w',Calls prog 261 #[.int .i64 ((v.s.length:Int)+(u.s.length:Int))] w' fun e w''=>e=.returned (.int .i64 (((v.s.length+u.s.length:Nat):Int) / 16))/\Below w'.heap.size w' w''):=fun w'=>by
     have h:=ztx ((v.s.length:Int)+(u.s.length:Int)) w' (by have:=HL.out;unfold xt;omega);rw[show max ((v.s.length:Int)+(u.s.length:Int)) 0=((v.s.length+u.s.length:Nat):Int) by omega,zck (by omega)]at h;exact h
    go_wp2_with fail
    (with_reducible refine(KT.out _).mono ?_)
    rintro e w6⟨rfl,hb6⟩;have KC6:=aQ (KC.out.on hb6);have HV6:=aQ (HV5.out.on hb6);have HU6:=aQ (HU5.out.on hb6);have u0a:=zb u0' hb6;have u1a:=zb u1' hb6;have u2a:=zb u2' hb6;have z0a:=zb z0 hb6;have z1a:=zb z1 hb6;have z2a:=zb z2 hb6;have hcost:(0:Int)<=((v.s.length+u.s.length:Nat):Int) / 16/\((v.s.length+u.s.length:Nat):Int) / 16<=1000000000:=by have:=HL.out;omega
    rcases qF h5 with⟨t5,τ5,g1,g2⟩|⟨x5,τ5,g1,g2⟩
    ·have K6:=aQ (xY X c τ' w6 _ hcost.1 hcost.2 _ KC6.out.run g1);have H6:=aQ g2;clear g1 g2 h5 hcost hb6 KT u0' u1' u2' z0 z1 z2 KC HV5 HU5 HL
     generalize((v.s.length+u.s.length:Nat):Int) / 16=cst at *
     go_wp2_with fail
     (with_reducible refine K6.out.mono ?_)
     rintro e w7⟨hM,rfl,c',hs⟩;exact⟨rfl,zy H6.out (KC6.out.mv.trans hM) hs⟩
    ·have K6:=aQ (xY X c τ' w6 _ hcost.1 hcost.2 _ KC6.out.run g1);have H6:=aQ g2;have HVH6:=aQ (zg hb6 HVH.out (aU.1 HVH.out).1);have HUH6:=aQ (zg hb6 HUH.out (aU.1 HUH.out).1);clear g1 g2 h5 hcost hb6 KT u0' u1' u2' z0 z1 z2 KC HV5 HU5 HL
     generalize((v.s.length+u.s.length:Nat):Int) / 16=cst at *
     go_wp2_with fail
     (with_reducible refine K6.out.mono ?_)
     rintro e w7⟨hM,x,rfl,rfl,hs⟩;obtain⟨a0,a1,a2⟩:=qr (hM.kept HVH6.out (by decide));obtain⟨b0,b1,b2⟩:=qr (hM.kept HUH6.out (by decide));have KC:=aQ (KC6.out.go hM hs);have HV5:=aQ (HV6.out.off hM.off);have HU5:=aQ (HU6.out.off hM.off);obtain⟨x0',x1',x2',x3',x4'⟩:=kA KC.out.e;clear hM hs K6 KC6 HV6 HU6 u0a u1a u2a z0a z1a z2a x0 x1 x2 x3 x4;cases hq2:twoE aZ v u with
     | none=>have h:=H6.out;rw[hq2]at h;cases h
     | some q=>
      (go_wp2_with fail);have KS:=aQ (zcp aZ v u q hq2 _ _ _ HV5.out HU5.out);obtain⟨pv,pt⟩:=q;have HP:Hid ((pt=0/\r=.ok pv τ5)\/(pt≠0/\r=.trap pt τ5)):=vG (by rw[<- hq2];exact H6.out);clear hq2
      (with_reducible refine KS.out.mono ?_)
      rintro e w7⟨pt',pn,A7,m7,c7,rfl,hpv,hb7⟩;dsimp only at hpv⊢;obtain⟨A8,c8,e8,hA8,hok8⟩:=xM hpv;injection e8 with e8
      simp only[Array.mk.injEq,aN,Value.int.injEq,Value.slice.injEq,true_and,and_true]at e8;obtain⟨rfl,rfl,rfl,rfl,rfl⟩:=e8;have BZ7:=za w7 (.cells #[.int .i64 pv.t,.int .i64 pv.n,.slice A7 pv.s.length c7] 41);have K7:=aQ ((KC.out.on hb7).on BZ7);have HV7:=aQ (hpv.on BZ7);obtain⟨s0,s1,s2⟩:=qr (ye w7 (.cells #[.int .i64 pv.t,.int .i64 pv.n,.slice A7 pv.s.length c7] 41));clear hpv hb7 hA8 hok8 KS KC HV5 HU5 BZ7
      go_wp2_with fail
      generalize w7.alloc (.cells #[.int .i64 pv.t,.int .i64 pv.n,.slice A7 pv.s.length c7] 41)=w8 at *
      rcases HP.out with⟨rfl,h2⟩|⟨h1,h2⟩
      ·have H9:=aQ h2;clear h2 HP;refine(yV _).mono ?_;rintro e w9 ⟨rfl,rfl⟩;have HZ7:=aQ K7.out.z
       go_wp2_with(refine zm rfl (.tmp 6) (.tmp 80) rfl rfl (w.heap.size+1) rfl pv.t pv.n A7 pv.s.length c7 rfl HZ7.out ?_;intro w3 g1)
       refine vS (qH results229 _ _ (w.heap.size+1) rfl g1.here) rfl ?_;exact qQ (v:=pv) H9.out K7.out.run K7.out.mv HV7.out (by omega) HZ7.out g1 HN.out
      ·have H9:=aQ h2;clear h2 HP;refine(kt pt h1 _).mono ?_;rintro e w9 ⟨rfl,rfl⟩;exact⟨rfl,zy H9.out K7.out.mv K7.out.run⟩
   ·rw[if_neg hp]at h5;have H6:=aQ h5;cases hq2:twoE aZ v u with
    | none=>rw[hq2]at h5;cases h5
    | some q=>
     have hg:(aZ=[43]->(v.t==3)=false):=fun e=>by rw[yI];exact fun h=>hp ⟨e,h⟩
     clear h5 H5 hp;by_cases e43:aZ=[43]
     ·have q5:=hg e43;rw[decide_eq_true e43]at q3;clear hg e43
      (go_wp2_with fail);have KS:=aQ (zcp aZ v u q hq2 _ _ _ HV5.out HU5.out);obtain⟨pv,pt⟩:=q;have HP:Hid ((pt=0/\r=.ok pv τ')\/(pt≠0/\r=.trap pt τ')):=vG (by rw[<- hq2];exact H6.out);clear hq2
      (with_reducible refine KS.out.mono ?_)
      rintro e w7⟨pt',pn,A7,m7,c7,rfl,hpv,hb7⟩;dsimp only at hpv⊢;obtain⟨A8,c8,e8,hA8,hok8⟩:=xM hpv;injection e8 with e8
      simp only[Array.mk.injEq,aN,Value.int.injEq,Value.slice.injEq,true_and,and_true]at e8;obtain⟨rfl,rfl,rfl,rfl,rfl⟩:=e8;have BZ7:=za w7 (.cells #[.int .i64 pv.t,.int .i64 pv.n,.slice A7 pv.s.length c7] 41);have K7:=aQ ((KC.out.on hb7).on BZ7);have HV7:=aQ (hpv.on BZ7);obtain⟨s0,s1,s2⟩:=qr (ye w7 (.cells #[.int .i64 pv.t,.int .i64 pv.n,.slice A7 pv.s.length c7] 41));clear hpv hb7 hA8 hok8 KS KC HV5 HU5 BZ7
      go_wp2_with fail
      generalize w7.alloc (.cells #[.int .i64 pv.t,.int .i64 pv.n,.slice A7 pv.s.length c7] 41)=w8 at *
      rcases HP.out with⟨rfl,h2⟩|⟨h1,h2⟩
      ·have H9:=aQ h2;clear h2 HP;refine(yV _).mono ?_;rintro e w9 ⟨rfl,rfl⟩;have HZ7:=aQ K7.out.z
       go_wp2_with(refine zm rfl (.tmp 6) (.tmp 80) rfl rfl (w.heap.size+1) rfl pv.t pv.n A7 pv.s.length c7 rfl HZ7.out ?_;intro w3 g1)
       refine vS (qH results229 _ _ (w.heap.size+1) rfl g1.here) rfl ?_;exact qQ (v:=pv) H9.out K7.out.run K7.out.mv HV7.out (by omega) HZ7.out g1 HN.out
      ·have H9:=aQ h2;clear h2 HP;refine(kt pt h1 _).mono ?_;rintro e w9 ⟨rfl,rfl⟩;exact⟨rfl,zy H9.out K7.out.mv K7.out.run⟩
     ·rw[decide_eq_false e43]at q3;clear hg e43
      (go_wp2_with fail);have KS:=aQ (zcp aZ v u q hq2 _ _ _ HV5.out HU5.out);obtain⟨pv,pt⟩:=q;have HP:Hid ((pt=0/\r=.ok pv τ')\/(pt≠0/\r=.trap pt τ')):=vG (by rw[<- hq2];exact H6.out);clear hq2
      (with_reducible refine KS.out.mono ?_)
      rintro e w7⟨pt',pn,A7,m7,c7,rfl,hpv,hb7⟩;dsimp only at hpv⊢;obtain⟨A8,c8,e8,hA8,hok8⟩:=xM hpv;injection e8 with e8
      simp only[Array.mk.injEq,aN,Value.int.injEq,Value.slice.injEq,true_and,and_true]at e8;obtain⟨rfl,rfl,rfl,rfl,rfl⟩:=e8;have BZ7:=za w7 (.cells #[.int .i64 pv.t,.int .i64 pv.n,.slice A7 pv.s.length c7] 41);have K7:=aQ ((KC.out.on hb7).on BZ7);have HV7:=aQ (hpv.on BZ7);obtain⟨s0,s1,s2⟩:=qr (ye w7 (.cells #[.int .i64 pv.t,.int .i64 pv.n,.slice A7 pv.s.length c7] 41));clear hpv hb7 hA8 hok8 KS KC HV5 HU5 BZ7
      go_wp2_with fail
      generalize w7.alloc (.cells #[.int .i64 pv.t,.int .i64 pv.n,.slice A7 pv.s.length c7] 41)=w8 at *
      rcases HP.out with⟨rfl,h2⟩|⟨h1,h2⟩
      ·have H9:=aQ h2;clear h2 HP;refine(yV _).mono ?_;rintro e w9 ⟨rfl,rfl⟩;have HZ7:=aQ K7.out.z
       go_wp2_with(refine zm rfl (.tmp 6) (.tmp 80) rfl rfl (w.heap.size+1) rfl pv.t pv.n A7 pv.s.length c7 rfl HZ7.out ?_;intro w3 g1)
       refine vS (qH results229 _ _ (w.heap.size+1) rfl g1.here) rfl ?_;exact qQ (v:=pv) H9.out K7.out.run K7.out.mv HV7.out (by omega) HZ7.out g1 HN.out
      ·have H9:=aQ h2;clear h2 HP;refine(kt pt h1 _).mono ?_;rintro e w9 ⟨rfl,rfl⟩;exact⟨rfl,zy H9.out K7.out.mv K7.out.run⟩
variable [Prt]
def kW{op num aW:Int}{aZ:List Nat}{aX:List Xe}(h:shE (.mk op num aZ aX aW)=true):aZ.length<=1000000/\fits num/\shL aX=true:=by
 unfold shE at h;simp only[aM,decide_eq_true_eq]at h;exact⟨h.1,h.2.1,h.2.2⟩
def zfb(w:World)(s:List Nat)(hs:Byn s)(hm:s.length<=maxLen):∃c w',(convert 9 22 (.string (strN s))).run prog w=.ok (.slice (some ⟨w.heap.size,0,none⟩) s.length c) w'/\s.length<=c/\c<=maxLen/\Below w.heap.size w w'/\Lies w' w'.heap.size (some ⟨w.heap.size,0,none⟩) c (bts s):=by
 have h:=run_bytes_of_string (P:=prog) w 9 22 5 (strN s) underlying9 underlying22 underlying5;rw[vk]at h;generalize hc:grownCap w s.length 0 5=c at h;have h1:=grownCap_ge w s.length 0 5;have h2:=grownCap_le_maxLen w s.length 0 5 hm;rw[hc]at h1 h2;refine⟨c,_,h,h1,h2,((Below.refl _ _).drew).alloc (aR _) _,(fun e=>by cases e),fun j u hu=>⟨_,rfl,by simp,?_⟩⟩;have hj:j<s.length:=by
  have:=(vm.1 hu).1;simpa[bts]using this
 have hb:(w.drew.alloc (.cells (bytesRow (strN s) c) 5 ((bytesRow (strN s) c).size,(bytesRow (strN s) c).size+1))).heap[w.heap.size]? =some (.cells (bytesRow (strN s) c) 5 ((bytesRow (strN s) c).size,(bytesRow (strN s) c).size+1)):=ye w.drew _;rw[Addr.add_lit,wy _ _ _ _ _ _ hb,Nat.zero_add,bytesRow_at _ _ _ (by rw[xr];simpa using hj)];have e1:(bts s)[j]? =some (.int .u8 (s[j]:Nat)):=zkc (vp hj);rw[<- hu,e1];have hb2:=hs s[j] (List.getElem_mem hj);simp only[xr];simp;omega
def zsx(X:Cx10)(n c:Nat)(env:Env)(σ:Stt)(w:World)(num:Int)(aZ:List Nat)(aX:List Xe)(A:Option Addr)(cp:Nat)(aW:Int)(p:Option Addr)(ms:List Nat)(r:Ou Va)(hc:c<=16)(hr:RunS X c σ w)(hs:ScAt X.n0 w (.pointer p) ms env)(hy:Byn aZ)(hk:XesC w (Lo X.n0) aX (.slice A aX.length cp))(hsh:shE (.mk 1 num aZ aX aW)=true)(hm:qD X.lim X.F (n+1) c env (.mk 1 num aZ aX aW) σ=some r):Calls prog 189 #[.pointer (some ⟨X.R,0,none⟩),.agg #[.int .i64 1,.int .i64 num,.string (strN aZ),.slice A aX.length cp,.int .i64 aW],.pointer p] w (qR X c NoM VaC w r):=by
 have H3:=qO w (xO6 1 num aZ (.slice A aX.length cp) aW);obtain⟨w0,hw0⟩:∃w0,(w.alloc (xO6 1 num aZ (.slice A aX.length cp) aW)).alloc zO=w0:=⟨_,rfl⟩;rw[hw0]at H3;have HW0:=aQ hw0;have hn0:=hr.hn;have HN:=aQ hn0;have HH:=aQ H3;have hr0:=hr.on H3.b;have hs0:=hs.on H3.b;have hk0:=hk.same (xj H3.b hn0);have HY:=aQ hy;have hsp:=kW hsh;have HSP:=aQ hsp;unfold qD at hm;rcases qF hm with⟨t,τ,h1,h2⟩|⟨v0,τ,h1,h2⟩
 ·have K:=aQ (xY X c σ w0 1 (by decide) (by decide) _ hr0 h1);have H2:=aQ h2;clear hr hs hk hm h1 h2 hr0 hs0 hk0 H3 hw0 hsh hy hsp;go_enter func189,ntmps189;(go_upto_region 1 with fail);rw[HW0.out]
  go_wp2_with fail
  (with_reducible refine K.out.mono ?_)
  rintro e w1⟨hM,rfl,c',hs⟩;exact⟨rfl,zy H2.out ((Mv.of HH.out.b).trans hM) hs⟩
 ·have K:=aQ (xY X c σ w0 1 (by decide) (by decide) _ hr0 h1)
  have K0:Hid (∀w1,Mv X.n0 NoM w0 w1->RunS X c τ w1->Kp2 X c τ w (xO6 1 num aZ (.slice A aX.length cp) aW) p ms env aX (.slice A aX.length cp) w1):=fun w1 hm hr1=>
   (Kp2.go (τ:=σ) ⟨hr0,Mv.of HH.out.b,HH.out.e,HH.out.z,hs0,hk0⟩ hm hr1)
  have H2:=aQ h2;clear hr hs hk hm h1 h2 hr0 hs0 hk0 H3 hw0 hsh hsp;go_enter func189,ntmps189;(go_upto_region 1 with fail);rw[HW0.out]
  go_wp2_with fail
  (with_reducible refine K.out.mono ?_)
  rintro e w1⟨hM,x,rfl,rfl,hs1⟩;have KC:=aQ (K0.out w1 hM hs1);obtain⟨x0,x1,x2,x3,x4⟩:=kA KC.out.e;clear hM hs1 K K0 v0;have H9:Hid (r=.ok (intV num) τ):=by show _=_;have h:=H2.out;(first|rw[if_pos rfl]at h|rw[if_pos True.intro]at h);injection h with h;exact h.symm
  have HF:Hid (fits num):=HSP.out.2.1
  (go_wp2_with fail);refine(numC num _).mono ?_;rintro e w2 ⟨rfl,hb⟩;replace KC:=aQ (KC.out.on hb);have HV:Hid (VaC w2 (intV num) (VV 1 num (.slice none 0 0))):=⟨_,rfl,SB.nil _ _,HF.out,by simp[intV]⟩;clear hb x0 x1 x2 x3 x4 H2;have HZ4:=aQ KC.out.z
  go_wp2_with(refine zm rfl (.tmp 6) (.tmp 15) rfl rfl (w.heap.size+1) rfl 1 num none 0 0 rfl HZ4.out ?_;intro w5 g1)
  refine vS (qH results189 _ _ (w.heap.size+1) rfl g1.here) rfl ?_;exact qQ (v:=intV num) H9.out KC.out.run KC.out.mv HV.out (by omega) HZ4.out g1 HN.out
def zqd(X:Cx10)(n c:Nat)(env:Env)(σ:Stt)(w:World)(num:Int)(aZ:List Nat)(aX:List Xe)(A:Option Addr)(cp:Nat)(aW:Int)(p:Option Addr)(ms:List Nat)(r:Ou Va)(hc:c<=16)(hr:RunS X c σ w)(hs:ScAt X.n0 w (.pointer p) ms env)(hy:Byn aZ)(hk:XesC w (Lo X.n0) aX (.slice A aX.length cp))(hsh:shE (.mk 2 num aZ aX aW)=true)(hm:qD X.lim X.F (n+1) c env (.mk 2 num aZ aX aW) σ=some r):Calls prog 189 #[.pointer (some ⟨X.R,0,none⟩),.agg #[.int .i64 2,.int .i64 num,.string (strN aZ),.slice A aX.length cp,.int .i64 aW],.pointer p] w (qR X c NoM VaC w r):=by
 have H3:=qO w (xO6 2 num aZ (.slice A aX.length cp) aW);obtain⟨w0,hw0⟩:∃w0,(w.alloc (xO6 2 num aZ (.slice A aX.length cp) aW)).alloc zO=w0:=⟨_,rfl⟩;rw[hw0]at H3;have HW0:=aQ hw0;have hn0:=hr.hn;have HN:=aQ hn0;have HH:=aQ H3;have hr0:=hr.on H3.b;have hs0:=hs.on H3.b;have hk0:=hk.same (xj H3.b hn0);have HY:=aQ hy;have hsp:=kW hsh;have HSP:=aQ hsp;unfold qD at hm;rcases qF hm with⟨t,τ,h1,h2⟩|⟨v0,τ,h1,h2⟩
 ·have K:=aQ (xY X c σ w0 1 (by decide) (by decide) _ hr0 h1);have H2:=aQ h2;clear hr hs hk hm h1 h2 hr0 hs0 hk0 H3 hw0 hsh hy hsp;go_enter func189,ntmps189;(go_upto_region 1 with fail);rw[HW0.out]
  go_wp2_with fail
  (with_reducible refine K.out.mono ?_)
  rintro e w1⟨hM,rfl,c',hs⟩;exact⟨rfl,zy H2.out ((Mv.of HH.out.b).trans hM) hs⟩
 ·have K:=aQ (xY X c σ w0 1 (by decide) (by decide) _ hr0 h1)
  have K0:Hid (∀w1,Mv X.n0 NoM w0 w1->RunS X c τ w1->Kp2 X c τ w (xO6 2 num aZ (.slice A aX.length cp) aW) p ms env aX (.slice A aX.length cp) w1):=fun w1 hm hr1=>
   (Kp2.go (τ:=σ) ⟨hr0,Mv.of HH.out.b,HH.out.e,HH.out.z,hs0,hk0⟩ hm hr1)
  have H2:=aQ h2;clear hr hs hk hm h1 h2 hr0 hs0 hk0 H3 hw0 hsh hsp;go_enter func189,ntmps189;(go_upto_region 1 with fail);rw[HW0.out]
  go_wp2_with fail
  (with_reducible refine K.out.mono ?_)
  rintro e w1⟨hM,x,rfl,rfl,hs1⟩;have KC:=aQ (K0.out w1 hM hs1);obtain⟨x0,x1,x2,x3,x4⟩:=kA KC.out.e;clear hM hs1 K K0 v0;have H9:Hid (r=.ok (xS (num==1)) τ):=by show _=_;have h:=H2.out;rw[if_neg (by decide)]at h;(first|rw[if_pos rfl]at h|rw[if_pos True.intro]at h);injection h with h;exact h.symm
  generalize hq:(num==1)=q at H9
  (go_wp2_with fail);refine(zez q _).mono ?_;rintro e w2 ⟨rfl,hb⟩;replace KC:=aQ (KC.out.on hb);clear hb x0 x1 x2 x3 x4 H2 hq;have HZ4:=aQ KC.out.z
  go_wp2_with(refine zm rfl (.tmp 6) (.tmp 21) rfl rfl (w.heap.size+1) rfl 2 (b2i q) none 0 0 rfl HZ4.out ?_;intro w5 g1)
  refine vS (qH results189 _ _ (w.heap.size+1) rfl g1.here) rfl ?_;exact qQ (v:=xS q) H9.out KC.out.run KC.out.mv (zde _ q) (by omega) HZ4.out g1 HN.out
def zqt(X:Cx10)(n c:Nat)(env:Env)(σ:Stt)(w:World)(num:Int)(aZ:List Nat)(aX:List Xe)(A:Option Addr)(cp:Nat)(aW:Int)(p:Option Addr)(ms:List Nat)(r:Ou Va)(hc:c<=16)(hr:RunS X c σ w)(hs:ScAt X.n0 w (.pointer p) ms env)(hy:Byn aZ)(hk:XesC w (Lo X.n0) aX (.slice A aX.length cp))(hsh:shE (.mk 3 num aZ aX aW)=true)(hm:qD X.lim X.F (n+1) c env (.mk 3 num aZ aX aW) σ=some r):Calls prog 189 #[.pointer (some ⟨X.R,0,none⟩),.agg #[.int .i64 3,.int .i64 num,.string (strN aZ),.slice A aX.length cp,.int .i64 aW],.pointer p] w (qR X c NoM VaC w r):=by
 have H3:=qO w (xO6 3 num aZ (.slice A aX.length cp) aW);obtain⟨w0,hw0⟩:∃w0,(w.alloc (xO6 3 num aZ (.slice A aX.length cp) aW)).alloc zO=w0:=⟨_,rfl⟩;rw[hw0]at H3;have HW0:=aQ hw0;have hn0:=hr.hn;have HN:=aQ hn0;have HH:=aQ H3;have hr0:=hr.on H3.b;have hs0:=hs.on H3.b;have hk0:=hk.same (xj H3.b hn0);have HY:=aQ hy;have hsp:=kW hsh;have HSP:=aQ hsp;unfold qD at hm;rcases qF hm with⟨t,τ,h1,h2⟩|⟨v0,τ,h1,h2⟩
 ·have K:=aQ (xY X c σ w0 1 (by decide) (by decide) _ hr0 h1);have H2:=aQ h2;clear hr hs hk hm h1 h2 hr0 hs0 hk0 H3 hw0 hsh hy hsp;go_enter func189,ntmps189;(go_upto_region 1 with fail);rw[HW0.out]
  go_wp2_with fail
  (with_reducible refine K.out.mono ?_)
  rintro e w1⟨hM,rfl,c',hs⟩;exact⟨rfl,zy H2.out ((Mv.of HH.out.b).trans hM) hs⟩
 ·have K:=aQ (xY X c σ w0 1 (by decide) (by decide) _ hr0 h1)
  have K0:Hid (∀w1,Mv X.n0 NoM w0 w1->RunS X c τ w1->Kp2 X c τ w (xO6 3 num aZ (.slice A aX.length cp) aW) p ms env aX (.slice A aX.length cp) w1):=fun w1 hm hr1=>
   (Kp2.go (τ:=σ) ⟨hr0,Mv.of HH.out.b,HH.out.e,HH.out.z,hs0,hk0⟩ hm hr1)
  have H2:=aQ h2;clear hr hs hk hm h1 h2 hr0 hs0 hk0 H3 hw0 hsh hsp;go_enter func189,ntmps189;(go_upto_region 1 with fail);rw[HW0.out]
  go_wp2_with fail
  (with_reducible refine K.out.mono ?_)
  rintro e w1⟨hM,x,rfl,rfl,hs1⟩;have KC:=aQ (K0.out w1 hM hs1);obtain⟨x0,x1,x2,x3,x4⟩:=kA KC.out.e;clear hM hs1 K K0 v0;have H9:Hid (r=.ok (ya (ints aZ)) τ):=by show _=_;have h:=H2.out;rw[if_neg (by decide),if_neg (by decide)]at h;(first|rw[if_pos rfl]at h|rw[if_pos True.intro]at h);injection h with h;exact h.symm
  obtain⟨c5,w5,hconv,l1,l2,hb5,hl5⟩:=zfb w1 aZ HY.out (by have:=HSP.out.1;unfold maxLen;omega);have KT:=aQ (zul (some ⟨w1.heap.size,0,none⟩) (ints aZ) aZ.length c5 (by simp) w5 hl5 (by have:=HSP.out.1;omega));replace KC:=aQ (KC.out.on hb5);have HBY:Hid (Byt (ints aZ)):=HY.out.byt;have HLN:Hid ((ints aZ).length=aZ.length):=by show _=_;simp
  clear l1 l2 hb5 hl5 H2 hy
  go_wp2_with fail
  (with_reducible refine KT.out.mono ?_)
  rintro e w6⟨A6,c6,rfl,m1,m2,m3,m4,hb6⟩;replace KC:=aQ (KC.out.on hb6);have HV:Hid (VaC w6 (ya (ints aZ)) (VV 3 0 (.slice A6 (ints aZ).length c6))):=⟨_,rfl,⟨A6,c6,rfl,m1,m2,m3,HBY.out⟩,(by show fits 0;unfold fits;decide),by show(ints aZ).length<=_;rw[HLN.out];exact HSP.out.1⟩;clear m1 m2 m3 m4 hb6 x0 x1 x2 x3 x4 KT hconv
  generalize ints aZ=tx at *
  have HZ4:=aQ KC.out.z
  go_wp2_with(refine zm rfl (.tmp 6) (.tmp 27) rfl rfl (w.heap.size+1) rfl 3 0 A6 tx.length c6 rfl HZ4.out ?_;intro w5 g1)
  refine vS (qH results189 _ _ (w.heap.size+1) rfl g1.here) rfl ?_;exact qQ (v:=ya tx) H9.out KC.out.run KC.out.mv HV.out (by omega) HZ4.out g1 HN.out
def zp0(X:Cx10)(n c:Nat)(env:Env)(σ:Stt)(w:World)(num:Int)(aZ:List Nat)(aX:List Xe)(A:Option Addr)(cp:Nat)(aW:Int)(p:Option Addr)(ms:List Nat)(r:Ou Va)(hc:c<=16)(hr:RunS X c σ w)(hs:ScAt X.n0 w (.pointer p) ms env)(hy:Byn aZ)(hk:XesC w (Lo X.n0) aX (.slice A aX.length cp))(hsh:shE (.mk 4 num aZ aX aW)=true)(hm:qD X.lim X.F (n+1) c env (.mk 4 num aZ aX aW) σ=some r):Calls prog 189 #[.pointer (some ⟨X.R,0,none⟩),.agg #[.int .i64 4,.int .i64 num,.string (strN aZ),.slice A aX.length cp,.int .i64 aW],.pointer p] w (qR X c NoM VaC w r):=by
 have H3:=qO w (xO6 4 num aZ (.slice A aX.length cp) aW);obtain⟨w0,hw0⟩:∃w0,(w.alloc (xO6 4 num aZ (.slice A aX.length cp) aW)).alloc zO=w0:=⟨_,rfl⟩;rw[hw0]at H3;have HW0:=aQ hw0;have hn0:=hr.hn;have HN:=aQ hn0;have HH:=aQ H3;have hr0:=hr.on H3.b;have hs0:=hs.on H3.b;have hk0:=hk.same (xj H3.b hn0);have HY:=aQ hy;have hsp:=kW hsh;have HSP:=aQ hsp;unfold qD at hm;rcases qF hm with⟨t,τ,h1,h2⟩|⟨v0,τ,h1,h2⟩
 ·have K:=aQ (xY X c σ w0 1 (by decide) (by decide) _ hr0 h1);have H2:=aQ h2;clear hr hs hk hm h1 h2 hr0 hs0 hk0 H3 hw0 hsh hy hsp;go_enter func189,ntmps189;(go_upto_region 1 with fail);rw[HW0.out]
  go_wp2_with fail
  (with_reducible refine K.out.mono ?_)
  rintro e w1⟨hM,rfl,c',hs⟩;exact⟨rfl,zy H2.out ((Mv.of HH.out.b).trans hM) hs⟩
 ·have K:=aQ (xY X c σ w0 1 (by decide) (by decide) _ hr0 h1)
  have K0:Hid (∀w1,Mv X.n0 NoM w0 w1->RunS X c τ w1->Kp2 X c τ w (xO6 4 num aZ (.slice A aX.length cp) aW) p ms env aX (.slice A aX.length cp) w1):=fun w1 hm hr1=>
   (Kp2.go (τ:=σ) ⟨hr0,Mv.of HH.out.b,HH.out.e,HH.out.z,hs0,hk0⟩ hm hr1)
  have H2:=aQ h2;clear hr hs hk hm h1 h2 hr0 hs0 hk0 H3 hw0 hsh hsp;go_enter func189,ntmps189;(go_upto_region 1 with fail);rw[HW0.out]
  go_wp2_with fail
  (with_reducible refine K.out.mono ?_)
  rintro e w1⟨hM,x,rfl,rfl,hs1⟩;have KC:=aQ (K0.out w1 hM hs1);obtain⟨x0,x1,x2,x3,x4⟩:=kA KC.out.e;clear hM hs1 K K0 v0;cases hl:kQ env aZ with
  | none=>have h:=H2.out;rw[if_neg (by decide),if_neg (by decide),if_neg (by decide)]at h;(first|rw[if_pos rfl]at h|rw[if_pos True.intro]at h);rw[hl]at h;cases h
  | some v=>
   have H9:Hid (r=.ok v τ):=by show _=_;have h:=H2.out;rw[if_neg (by decide),if_neg (by decide),if_neg (by decide)]at h;(first|rw[if_pos rfl]at h|rw[if_pos True.intro]at h);rw[hl]at h;injection h with h;exact h.symm
   have KV:=aQ (zqa X.n0 w1 p ms env aZ v KC.out.sc HY.out hl);clear hl H2 hy
   go_wp2_with fail
   (with_reducible refine KV.out.mono ?_)
   rintro e w2⟨u,rfl,hv,hb⟩;obtain⟨A6,c6,rfl,_,_⟩:=xM hv;replace KC:=aQ (KC.out.on hb);have HV:=aQ hv;clear hb hv x0 x1 x2 x3 x4 KV;have HZ4:=aQ KC.out.z
   go_wp2_with(refine zm rfl (.tmp 6) (.tmp 33) rfl rfl (w.heap.size+1) rfl v.t v.n A6 v.s.length c6 rfl HZ4.out ?_;intro w5 g1)
   refine vS (qH results189 _ _ (w.heap.size+1) rfl g1.here) rfl ?_;exact qQ (v:=v) H9.out KC.out.run KC.out.mv HV.out (by omega) HZ4.out g1 HN.out
def zsb(X:Cx10)(n c:Nat)(env:Env)(σ:Stt)(w:World)(num:Int)(aZ:List Nat)(aX:List Xe)(A:Option Addr)(cp:Nat)(aW:Int)(p:Option Addr)(ms:List Nat)(r:Ou Va)(hE:EOk X n)(hc:c<=16)(hr:RunS X c σ w)(hs:ScAt X.n0 w (.pointer p) ms env)(hy:Byn aZ)(hk:XesC w (Lo X.n0) aX (.slice A aX.length cp))(hsh:shE (.mk 6 num aZ aX aW)=true)(hm:qD X.lim X.F (n+1) c env (.mk 6 num aZ aX aW) σ=some r):Calls prog 189 #[.pointer (some ⟨X.R,0,none⟩),.agg #[.int .i64 6,.int .i64 num,.string (strN aZ),.slice A aX.length cp,.int .i64 aW],.pointer p] w (qR X c NoM VaC w r):=by
 have H3:=qO w (xO6 6 num aZ (.slice A aX.length cp) aW);obtain⟨w0,hw0⟩:∃w0,(w.alloc (xO6 6 num aZ (.slice A aX.length cp) aW)).alloc zO=w0:=⟨_,rfl⟩;rw[hw0]at H3;have HW0:=aQ hw0;have hn0:=hr.hn;have HN:=aQ hn0;have HH:=aQ H3;have hr0:=hr.on H3.b;have hs0:=hs.on H3.b;have hk0:=hk.same (xj H3.b hn0);have HY:=aQ hy;have hsp:=kW hsh;have HSP:=aQ hsp;unfold qD at hm;rcases qF hm with⟨t,τ,h1,h2⟩|⟨v0,τ,h1,h2⟩
 ·have K:=aQ (xY X c σ w0 1 (by decide) (by decide) _ hr0 h1);have H2:=aQ h2;clear hr hs hk hm h1 h2 hr0 hs0 hk0 H3 hw0 hsh hy hsp hE;go_enter func189,ntmps189;(go_upto_region 1 with fail);rw[HW0.out]
  go_wp2_with fail
  (with_reducible refine K.out.mono ?_)
  rintro e w1⟨hM,rfl,c',hs⟩;exact⟨rfl,zy H2.out ((Mv.of HH.out.b).trans hM) hs⟩
 ·have K:=aQ (xY X c σ w0 1 (by decide) (by decide) _ hr0 h1)
  have K0:Hid (∀w1,Mv X.n0 NoM w0 w1->RunS X c τ w1->Kp2 X c τ w (xO6 6 num aZ (.slice A aX.length cp) aW) p ms env aX (.slice A aX.length cp) w1):=fun w1 hm hr1=>
   (Kp2.go (τ:=σ) ⟨hr0,Mv.of HH.out.b,HH.out.e,HH.out.z,hs0,hk0⟩ hm hr1)
  have H2:=aQ h2;clear hr hs hk hm h1 h2 hr0 hs0 hk0 H3 hw0 hsh hsp;go_enter func189,ntmps189;(go_upto_region 1 with fail);rw[HW0.out]
  go_wp2_with fail
  (with_reducible refine K.out.mono ?_)
  rintro e w1⟨hM,x,rfl,rfl,hs1⟩;have KC:=aQ (K0.out w1 hM hs1);obtain⟨x0,x1,x2,x3,x4⟩:=kA KC.out.e;clear hM hs1 K K0 v0;have h2:=H2.out;rw[if_neg (by decide),if_neg (by decide),if_neg (by decide),if_neg (by decide),if_neg (by decide)]at h2;have hkids:∃a b,aX=[a,b]:=by
   match aX,h2 with
   | [],h=>cases h
   | [a],h=>
    dsimp only at h
    first
     | (rw[if_pos rfl]at h;cases h)
     | (rw[if_pos True.intro]at h;cases h)
   | [a,b],h=>exact⟨a,b,rfl⟩
   | _::_::_::_,h=>cases h
  obtain⟨a,b,rfl⟩:=hkids
  ·
   dsimp only at h2;rw[if_neg (by decide)]at h2;have KT:=aQ (zll X n c env τ w1 6 num aZ a b A cp aW p ms r hE hc KC.out.run KC.out.sc HY.out KC.out.k HSP.out.2.2 h2);clear h2 H2 hy hE
   simp only[aB,List.length_nil,Nat.zero_add,Nat.reduceAdd]at *
   go_wp2_with fail
   (with_reducible refine KT.out.mono ?_)
   cases r with
   | trap t' τ'=>
    rintro e w4⟨hM,rfl,c',hs⟩;exact⟨rfl,zy rfl (KC.out.mv.trans hM) hs⟩
   | ok x τ'=>
    rintro e w4⟨hM,V4,rfl,hv4,hs4⟩;obtain⟨A4,c4,rfl,hA4,hok4⟩:=xM hv4;replace KC:=aQ (KC.out.go hM hs4);have HV4:=aQ hv4;clear hM hs4 hv4 hA4 hok4 KT x0 x1 x2 x3 x4;have H9:Hid (Ou.ok x τ'=.ok x τ'):=rfl;have HZ4:=aQ KC.out.z
    go_wp2_with(refine zm rfl (.tmp 6) (.tmp 55) rfl rfl (w.heap.size+1) rfl x.t x.n A4 x.s.length c4 rfl HZ4.out ?_;intro w5 g1)
    refine vS (qH results189 _ _ (w.heap.size+1) rfl g1.here) rfl ?_;exact qQ (v:=x) rfl KC.out.run KC.out.mv HV4.out (by omega) HZ4.out g1 HN.out
variable [Prt]
def ka{t n:Int}{k:Value}(h:w.heap[g]? =some (.cells #[.int .i64 t,.int .i64 n,k] 41 (0,0))):(w.cell? ⟨g,0,none⟩=some (.int .i64 t)/\w.cell? ⟨g,1,none⟩=some (.int .i64 n)/\w.cell? ⟨g,2,none⟩=some k)/\w.frozen? ⟨g,0,none⟩=false/\w.frozen? ⟨g,1,none⟩=false/\w.frozen? ⟨g,2,none⟩=false:=by
 refine⟨qr h,?_,?_,?_⟩<;>simp[World.frozen?,h]
def zEm{b g:Nat}{x y z u:Value}(h:w.cell? ⟨b,o,none⟩=some u)(hb:b≠g):(((w.setCell ⟨g,0,none⟩ x).setCell ⟨g,1,none⟩ y).setCell ⟨g,2,none⟩ z).cell? ⟨b,o,none⟩=some u:=by
 rw[yp (a:=⟨b,o,none⟩) (w:=w) (by show(((w.setCell ⟨g,0,none⟩ x).setCell ⟨g,1,none⟩ y).setCell ⟨g,2,none⟩ z).heap[b]? =_;rw[zf _ _ _ _ _ hb,zf _ _ _ _ _ hb,zf _ _ _ _ _ hb])];exact h
def xh{α β:Type}{m:Ev α}{f:α->Stt->Ev β}{r:Ou β}(h:m.bind f=some r):∃ro,m=some ro/\Hid ((∀t τ,ro=.trap t τ->r=.trap t τ)/\∀a τ,ro=.ok a τ->f a τ=some r):=by
 match m,h with
 | some (.trap t τ),h=>exact⟨_,rfl,(fun t' τ' e=>by injection e with e1 e2;subst e1 e2;injection h with h;exact h.symm),(fun a τ' e=>by cases e)⟩
 | some (.ok a τ),h=>exact⟨_,rfl,(fun t' τ' e=>by cases e),(fun a' τ' e=>by injection e with e1 e2;subst e1 e2;exact h)⟩
abbrev S5(X:Cx10)(b:Nat)(aZ:List Nat)(K:Value)(w:World):Prop:=w.cell? ⟨X.R,0,none⟩=some (.map (some X.g))/\w.cell? ⟨b,2,none⟩=some (.string (strN aZ))/\w.cell? ⟨b,3,none⟩=some K
def S5.of{X:Cx10}{τ:Stt}{op num aW:Int}{aZ:List Nat}{p:Option Addr}{ms:List Nat}{env:Env}{l:List Xe}{V:Value}(h:Kp2 X c τ w (xO6 op num aZ K aW) p ms env l V w1):S5 X w.heap.size aZ K w1:=⟨(xq h.run).1,(kA h.e).2.2.1,(kA h.e).2.2.2.1⟩
def S5.set{X:Cx10}{τ:Stt}{op num aW:Int}{aZ:List Nat}{p:Option Addr}{ms:List Nat}{env:Env}{l:List Xe}{V:Value}(h:Kp2 X c τ w (xO6 op num aZ K aW) p ms env l V w1)(x y z:Value):S5 X w.heap.size aZ K (((w1.setCell ⟨w.heap.size+1,0,none⟩ x).setCell ⟨w.heap.size+1,1,none⟩ y).setCell ⟨w.heap.size+1,2,none⟩ z):=by
 have h5:=S5.of h;exact⟨zEm h5.1 (jV h.run.cell h.z (by decide)),zEm h5.2.1 (by omega),zEm h5.2.2 (by omega)⟩
def zo6(w:World):(zeroValue 69).run prog w=.ok (.agg #[.string ⟨#[]⟩,.slice none 0 0,.int .i64 0,.slice none 0 0,.int .i64 0]) w:=by simp[Tryz.zeroValue69]
def zrm(X:Cx10)(n c:Nat)(env:Env)(σ:Stt)(w:World)(num:Int)(aZ:List Nat)(aX:List Xe)(A:Option Addr)(cp:Nat)(aW:Int)(p:Option Addr)(ms:List Nat)(r:Ou Va)(hEs:EsOk X n)(hC:COk X n)(hc:c<=16)(hr:RunS X c σ w)(hs:ScAt X.n0 w (.pointer p) ms env)(hy:Byn aZ)(hk:XesC w (Lo X.n0) aX (.slice A aX.length cp))(hsh:shE (.mk 5 num aZ aX aW)=true)(hm:qD X.lim X.F (n+1) c env (.mk 5 num aZ aX aW) σ=some r):Calls prog 189 #[.pointer (some ⟨X.R,0,none⟩),.agg #[.int .i64 5,.int .i64 num,.string (strN aZ),.slice A aX.length cp,.int .i64 aW],.pointer p] w (qR X c NoM VaC w r):=by
 have H3:=qO w (xO6 5 num aZ (.slice A aX.length cp) aW);obtain⟨w0,hw0⟩:∃w0,(w.alloc (xO6 5 num aZ (.slice A aX.length cp) aW)).alloc zO=w0:=⟨_,rfl⟩;rw[hw0]at H3;have HW0:=aQ hw0;have hn0:=hr.hn;have HN:=aQ hn0;have HH:=aQ H3;have hr0:=hr.on H3.b;have hs0:=hs.on H3.b;have hk0:=hk.same (xj H3.b hn0);have HY:=aQ hy;have hsp:=kW hsh;have HSP:=aQ hsp;unfold qD at hm;rcases qF hm with⟨t,τ,h1,h2⟩|⟨v0,τ,h1,h2⟩
 ·have K:=aQ (xY X c σ w0 1 (by decide) (by decide) _ hr0 h1);have H2:=aQ h2;clear hr hs hk hm h1 h2 hr0 hs0 hk0 H3 hw0 hsh hy hsp hEs hC;go_enter func189,ntmps189;(go_upto_region 1 with fail);rw[HW0.out]
  go_wp2_with fail
  (with_reducible refine K.out.mono ?_)
  rintro e w1⟨hM,rfl,c',hs⟩;exact⟨rfl,zy H2.out ((Mv.of HH.out.b).trans hM) hs⟩
 ·have K:=aQ (xY X c σ w0 1 (by decide) (by decide) _ hr0 h1)
  have K0:Hid (∀w1,Mv X.n0 NoM w0 w1->RunS X c τ w1->Kp2 X c τ w (xO6 5 num aZ (.slice A aX.length cp) aW) p ms env aX (.slice A aX.length cp) w1):=fun w1 hm hr1=>
   (Kp2.go (τ:=σ) ⟨hr0,Mv.of HH.out.b,HH.out.e,HH.out.z,hs0,hk0⟩ hm hr1)
  have H2:=aQ h2;clear hr hs hk hm h1 h2 hr0 hs0 hk0 H3 hw0 hsh hsp;go_enter func189,ntmps189;(go_upto_region 1 with fail);rw[HW0.out]
  go_wp2_with fail
  (with_reducible refine K.out.mono ?_)
  rintro e w1⟨hM,x,rfl,rfl,hs1⟩;have KC:=aQ (K0.out w1 hM hs1);obtain⟨x0,x1,x2,x3,x4⟩:=kA KC.out.e;clear hM hs1 K K0 v0;have h2:=H2.out;rw[if_neg (by decide),if_neg (by decide),if_neg (by decide),if_neg (by decide)]at h2
  (first|rw[if_pos rfl]at h2|rw[if_pos True.intro]at h2)
  cases hf:X.F aZ with
  | none=>rw[hf]at h2;cases h2
  | some f=>
   rw[hf]at h2;dsimp only at h2;have hfind:X.fs.find? (fun f=>f.name==aZ)=some f:=hf;rcases vP aZ X.fs X.ks KC.out.run.len with⟨g1,_⟩|⟨i,f',k,g1,g2,g3,g4⟩
   ·rw[hfind]at g1;cases g1
   ·rw[hfind]at g3;injection g3 with g3
    subst g3;have hmem:f∈X.fs:=wM g1;have HSB:Hid (shB f.body=true):=X.sh f hmem;have HFK:Hid (∀w' c' τ',RunS X c' τ' w'->XfK w' (Lo X.n0) f k):=fun w' c' τ' h=>h.fns i f k g1 g2;have HLK:Hid (∀w' c' τ',RunS X c' τ' w'->(Instr.lookup 96 (.map (some X.g)) (.string (strN aZ)) false).run prog w'=.ok (.agg #[.string (strN f.name),k.p,.int .i64 f.result,k.b,.int .i64 f.aW]) w'):=fun w' c' τ' h=>by
     have h1:=zb1 h.tab HY.out underlying96 (zo6 w');rw[g4]at h1;exact h1
    have BD:Below w1.heap.size w1 w1.drew:=(Below.refl _ _).drew;replace KC:=aQ (KC.out.on BD);have hl0:=HLK.out w1.drew c τ KC.out.run;have hrt:=k;clear hfind g1 g2 g4 hmem hy H2 hf;obtain⟨ro,q1,HRO⟩:=xh h2;have KX:=aQ (hEs c env aX τ _ w1.drew p ms _ hc KC.out.run KC.out.sc KC.out.k HSP.out.2.2 q1);have HCC:Hid (∀vs τ' w' V,xo X.lim X.F n c f vs τ'=some r->RunS X c τ' w'->ArgX X.n0 w' V vs->Calls prog 47 #[.pointer (some ⟨X.R,0,none⟩),.agg #[.string (strN f.name),k.p,.int .i64 f.result,k.b,.int .i64 f.aW],V] w' (qR X c NoM VaC w' r)):=fun vs τ' w' V h1 h2 h3=>hC c f k vs τ' r w' V hc h2 (HFK.out w' c τ' h2) h3 HSB.out h1;clear h2 q1 hEs hC BD hrt;(go_upto_region 12 with fail);clear x0 x1 x2 x3 x4
    go_region_held2 (fun w'=>w'.cell? ⟨X.R,0,none⟩=some (.map (some X.g))/\w'.cell? ⟨w.heap.size,2,none⟩=some (.string (strN aZ))/\w'.cell? ⟨w.heap.size,3,none⟩=some (.slice A aX.length cp))
     (first|(with_reducible exact S5.of KC.out)|(with_reducible exact S5.set KC.out _ _ _))
     (first
      | (go_at_call 155;refine KX.out.mono ?_;rintro e w2 hG;(rcases ro with⟨vs,τ'⟩|⟨t',τ'⟩<;>(try(obtain⟨hM,he,c',hs⟩:=hG;subst he;exact⟨rfl,zy (HRO.out.1 _ _ rfl) (KC.out.mv.trans hM) hs⟩)));obtain⟨hM,V,rfl,hO,hs⟩:=hG;replace KC:=aQ (KC.out.go hM hs);have hl1:=HLK.out w2 c τ' KC.out.run;have HK2:=aQ (HCC.out vs τ' w2 V (HRO.out.2 _ _ rfl) hs (OwnV.argX hO));clear hM hs hO)
      | (go_at_call 47;refine HK2.out.mono ?_;rintro e w3 hG;(rcases r with⟨x,τ2⟩|⟨t2,τ2⟩<;>(try(obtain⟨hM,he,c',hs⟩:=hG;subst he;exact⟨rfl,zy rfl (KC.out.mv.trans hM) hs⟩)));obtain⟨hM,u,rfl,hv,hs⟩:=hG;obtain⟨A4,c4,rfl,_,_⟩:=xM hv;replace KC:=aQ (KC.out.go hM hs);have HV4:=aQ hv;obtain⟨⟨u0,u1,u2⟩,v0,v1,v2⟩:=ka KC.out.z;clear hM hs hv))
    all_goals
     have HS9:=aQ (xa KC.out.z x.t x.n (.slice A4 x.s.length c4));go_wp2;refine vS (qH results189 _ _ (w.heap.size+1) rfl HS9.out.here) rfl ?_;exact qQ (v:=x) rfl KC.out.run KC.out.mv HV4.out (by omega) KC.out.z HS9.out HN.out
def zpd{e:Xe}{l:List Xe}{kb ko len cp:Nat}(h:XesC w D (e::l) (.slice (some ⟨kb,ko,none⟩) len cp)):D kb:=by
 have h':=h;generalize hV:Value.slice (some ⟨kb,ko,none⟩) len cp=V at h';cases h' with
 | mk _ ks _ hk h1 ht h2=>
  have hg:=ky (f:=xeC) (m:=5) (fun _ _=>rfl) (e::l) ks 0 0 e (ks[0]'(by rw[hk];simp)) rfl (vp _) (by omega)
  obtain⟨b,o,c,e1,a1,a2,a3,a4⟩:=h1.plain5 (by
   intro e0;unfold xesC at e0;rw[e0]at hg
   simp[xeC]at hg)
  rw[<- hV]at e1;injection e1 with e1 _ _
  injection e1 with e1
  injection e1 with e1 _ _
  rw[e1];exact a3
def kid5{a b c d e:Value}(h:w.rangeAt kb (ko+0) [a,b,c,d,e]):w.cell? ⟨kb,ko,none⟩=some a/\w.cell? ⟨kb,ko+1,none⟩=some b/\w.cell? ⟨kb,ko+2,none⟩=some c/\w.cell? ⟨kb,ko+3,none⟩=some d/\w.cell? ⟨kb,ko+4,none⟩=some e:=⟨h 0 _ rfl,h 1 _ rfl,h 2 _ rfl,h 3 _ rfl,h 4 _ rfl⟩
def zcn{a b c d e:Value}(h:w.cell? ⟨kb,ko,none⟩=some a/\w.cell? ⟨kb,ko+1,none⟩=some b/\w.cell? ⟨kb,ko+2,none⟩=some c/\w.cell? ⟨kb,ko+3,none⟩=some d/\w.cell? ⟨kb,ko+4,none⟩=some e)(hb:Below B w w')(hk:kb<B):w'.cell? ⟨kb,ko,none⟩=some a/\w'.cell? ⟨kb,ko+1,none⟩=some b/\w'.cell? ⟨kb,ko+2,none⟩=some c/\w'.cell? ⟨kb,ko+3,none⟩=some d/\w'.cell? ⟨kb,ko+4,none⟩=some e:=
 ⟨(hb.cell (p:=⟨kb,ko,none⟩) hk).trans h.1,(hb.cell (p:=⟨kb,ko+1,none⟩) hk).trans h.2.1,(hb.cell (p:=⟨kb,ko+2,none⟩) hk).trans h.2.2.1,(hb.cell (p:=⟨kb,ko+3,none⟩) hk).trans h.2.2.2.1,(hb.cell (p:=⟨kb,ko+4,none⟩) hk).trans h.2.2.2.2⟩
def zqo(X:Cx10)(c:Nat)(σ:Stt)(w:World)(op num:Int)(aZ:List Nat)(A:Option Addr)(n cp:Nat)(aW:Int)(v:Va)(V:Value)(r:Ou Va)(hr:RunS X c σ w)(hy:Byn aZ)(hv:VaC w v V)(hm:oneM X.lim op aZ v σ=some r):Calls prog 230 #[.pointer (some ⟨X.R,0,none⟩),.agg #[.int .i64 op,.int .i64 num,.string (strN aZ),.slice A n cp,.int .i64 aW],V] w (qR X c NoM VaC w r):=by
 by_cases h7:op=7
 ·subst h7;exact zpp X c σ w num aZ A n cp aW v V r hr hy hv hm
 by_cases h8:op=8
 ·subst h8;exact zq0 X c σ w num aZ A n cp aW v V r hr hv hm
 by_cases h9:op=9
 ·subst h9;exact zrl X c σ w num aZ A n cp aW v V r hr hv hm
 by_cases h10:op=10
 ·subst h10;exact zps X c σ w num aZ A n cp aW v V r hr hv hm
 unfold oneM at hm;rw[if_neg h7]at hm;by_cases ht:v.t≠3
 ·rw[if_pos ht]at hm;cases hm
 rw[if_neg ht,if_neg h8,if_neg h9,if_neg h10]at hm;cases hm
def zud(X:Cx10)(n c:Nat)(env:Env)(σ:Stt)(w:World)(op:Int)(num:Int)(aZ:List Nat)(aX:List Xe)(A:Option Addr)(cp:Nat)(aW:Int)(p:Option Addr)(ms:List Nat)(r:Ou Va)(hE:EOk X n)(o1:op≠1)(o2:op≠2)(o3:op≠3)(o4:op≠4)(o5:op≠5)(o6:op≠6)(hc:c<=16)(hr:RunS X c σ w)(hs:ScAt X.n0 w (.pointer p) ms env)(hy:Byn aZ)(hk:XesC w (Lo X.n0) aX (.slice A aX.length cp))(hsh:shE (.mk op num aZ aX aW)=true)(hm:qD X.lim X.F (n+1) c env (.mk op num aZ aX aW) σ=some r):Calls prog 189 #[.pointer (some ⟨X.R,0,none⟩),.agg #[.int .i64 op,.int .i64 num,.string (strN aZ),.slice A aX.length cp,.int .i64 aW],.pointer p] w (qR X c NoM VaC w r):=by
 have H3:=qO w (xO6 op num aZ (.slice A aX.length cp) aW);obtain⟨w0,hw0⟩:∃w0,(w.alloc (xO6 op num aZ (.slice A aX.length cp) aW)).alloc zO=w0:=⟨_,rfl⟩;rw[hw0]at H3;have HW0:=aQ hw0;have hn0:=hr.hn;have HN:=aQ hn0;have HKW:=aQ hk;have HO:Hid (op≠1/\op≠2/\op≠3/\op≠4/\op≠5/\op≠6):=⟨o1,o2,o3,o4,o5,o6⟩;clear o1 o2 o3 o4 o5 o6;have HH:=aQ H3;have hr0:=hr.on H3.b;have hs0:=hs.on H3.b;have hk0:=hk.same (xj H3.b hn0);have HY:=aQ hy;have hsp:=kW hsh;have HSP:=aQ hsp;unfold qD at hm;rcases qF hm with⟨t,τ,h1,h2⟩|⟨v0,τ,h1,h2⟩
 ·have K:=aQ (xY X c σ w0 1 (by decide) (by decide) _ hr0 h1);have H2:=aQ h2;clear hr hs hk hm h1 h2 hr0 hs0 hk0 H3 hw0 hsh hy hsp hE;go_enter func189,ntmps189;(go_upto_region 1 with fail);rw[HW0.out]
  go_wp2_with fail
  (with_reducible refine K.out.mono ?_)
  rintro e w1⟨hM,rfl,c',hs⟩;exact⟨rfl,zy H2.out ((Mv.of HH.out.b).trans hM) hs⟩
 ·have K:=aQ (xY X c σ w0 1 (by decide) (by decide) _ hr0 h1)
  have K0:Hid (∀w1,Mv X.n0 NoM w0 w1->RunS X c τ w1->Kp2 X c τ w (xO6 op num aZ (.slice A aX.length cp) aW) p ms env aX (.slice A aX.length cp) w1):=fun w1 hm hr1=>
   (Kp2.go (τ:=σ) ⟨hr0,Mv.of HH.out.b,HH.out.e,HH.out.z,hs0,hk0⟩ hm hr1)
  have H2:=aQ h2;clear hr hs hk hm h1 h2 hr0 hs0 hk0 H3 hw0 hsh hsp;go_enter func189,ntmps189;(go_upto_region 1 with fail);rw[HW0.out]
  go_wp2_with fail
  (with_reducible refine K.out.mono ?_)
  rintro e w1⟨hM,x,rfl,rfl,hs1⟩;have KC:=aQ (K0.out w1 hM hs1);obtain⟨x0,x1,x2,x3,x4⟩:=kA KC.out.e;clear hM hs1 K K0 v0;have h2:=H2.out;obtain⟨o1,o2,o3,o4,o5,o6⟩:=HO.out;rw[if_neg o1,if_neg o2,if_neg o3,if_neg o4,if_neg o5]at h2;have hkids:∃a,aX=[a]/\(qD X.lim X.F n c env a τ).bind (fun v σ=>oneM X.lim op aZ v σ)=some r:=by
   match aX,h2 with
   | [],h=>cases h
   | [a],h=>
    dsimp only at h;rw[if_neg o6]at h;exact⟨a,rfl,h⟩
   | [a,b],h=>
    dsimp only at h;rw[if_pos o6]at h;cases h
   | _::_::_::_,h=>cases h
  clear h2;obtain⟨a,rfl,h3⟩:=hkids;have hV:=HKW.out;obtain⟨kb,ko,kc,A0,c0,hVV,hrg,hxa⟩:=zk5 HKW.out (i:=0) (e:=a) rfl (o:=0) rfl;injection hVV with hA _ hcc
  subst hA hcc;have hkb:kb<X.n0:=zpd (D:=Lo X.n0) HKW.out;have HKD:=aQ (kid5 hrg);have q1:(op==1)=false:=by rw[yI];exact o1
  have q2:(op==2)=false:=by rw[yI];exact o2
  have q3:(op==3)=false:=by rw[yI];exact o3
  have q4:(op==4)=false:=by rw[yI];exact o4
  have q5:(op==5)=false:=by rw[yI];exact o5
  have q6:(op==6)=false:=by rw[yI];exact o6
  have BD:Below w1.heap.size w1 w1.drew:=(Below.refl _ _).drew;replace KC:=aQ (KC.out.on BD);obtain⟨ro,g1,HRO⟩:=xh h3;have hxa1:=hxa.same (xk KC.out.mv hn0);have KX:=aQ (hE c env a τ _ w1.drew p ms _ hc KC.out.run KC.out.sc hxa1 (zev HSP.out.2.2 (i:=0) rfl) g1);have HONE:Hid (∀v τ' w' V,oneM X.lim op aZ v τ'=some r->RunS X c τ' w'->VaC w' v V->Calls prog 230 #[.pointer (some ⟨X.R,0,none⟩),.agg #[.int .i64 op,.int .i64 num,.string (strN aZ),.slice (some ⟨kb,ko,none⟩) 1 cp,.int .i64 aW],V] w' (qR X c NoM VaC w' r)):=fun v τ' w' V h1 h2 h3=>zqo X c τ' w' op num aZ _ _ _ aW v V r h2 HY.out h3 h1;have HKB:=aQ hkb;have HS6:Hid (∀ {τ':Stt} {w':World},Kp2 X c τ' w (xO6 op num aZ (.slice (some ⟨kb,ko,none⟩) 1 cp) aW) p ms env [a] (.slice (some ⟨kb,ko,none⟩) 1 cp) w'->(fun w'=>(w'.cell? ⟨w.heap.size,0,none⟩=some (.int .i64 op)/\w'.cell? ⟨w.heap.size,1,none⟩=some (.int .i64 num)/\w'.cell? ⟨w.heap.size,2,none⟩=some (.string (strN aZ))/\w'.cell? ⟨w.heap.size,3,none⟩=some (.slice (some ⟨kb,ko,none⟩) 1 cp)/\w'.cell? ⟨w.heap.size,4,none⟩=some (.int .i64 aW))/\(w'.cell? ⟨kb,ko,none⟩=some (.int .i64 a.op)/\w'.cell? ⟨kb,ko+1,none⟩=some (.int .i64 a.num)/\w'.cell? ⟨kb,ko+2,none⟩=some (.string (strN a.aZ))/\w'.cell? ⟨kb,ko+3,none⟩=some (.slice A0 a.aX.length c0)/\w'.cell? ⟨kb,ko+4,none⟩=some (.int .i64 a.aW))) w'):=fun h=>⟨kA h.e,zcn HKD.out (h.mv.low HN.out) HKB.out⟩;have HS6b:Hid (∀ {τ':Stt} {w':World} (x y z:Value),Kp2 X c τ' w (xO6 op num aZ (.slice (some ⟨kb,ko,none⟩) 1 cp) aW) p ms env [a] (.slice (some ⟨kb,ko,none⟩) 1 cp) w'->(fun w'=>(w'.cell? ⟨w.heap.size,0,none⟩=some (.int .i64 op)/\w'.cell? ⟨w.heap.size,1,none⟩=some (.int .i64 num)/\w'.cell? ⟨w.heap.size,2,none⟩=some (.string (strN aZ))/\w'.cell? ⟨w.heap.size,3,none⟩=some (.slice (some ⟨kb,ko,none⟩) 1 cp)/\w'.cell? ⟨w.heap.size,4,none⟩=some (.int .i64 aW))/\(w'.cell? ⟨kb,ko,none⟩=some (.int .i64 a.op)/\w'.cell? ⟨kb,ko+1,none⟩=some (.int .i64 a.num)/\w'.cell? ⟨kb,ko+2,none⟩=some (.string (strN a.aZ))/\w'.cell? ⟨kb,ko+3,none⟩=some (.slice A0 a.aX.length c0)/\w'.cell? ⟨kb,ko+4,none⟩=some (.int .i64 a.aW))) (((w'.setCell ⟨w.heap.size+1,0,none⟩ x).setCell ⟨w.heap.size+1,1,none⟩ y).setCell ⟨w.heap.size+1,2,none⟩ z)):=fun x y z h=>by
   obtain⟨a0,a1,a2,a3,a4⟩:=kA h.e;obtain⟨b0,b1,b2,b3,b4⟩:=zcn HKD.out (h.mv.low HN.out) HKB.out;have hne:kb≠w.heap.size+1:=by have:=HKB.out;have:=HN.out;omega
   exact⟨⟨zEm a0 (by omega),zEm a1 (by omega),zEm a2 (by omega),zEm a3 (by omega),zEm a4 (by omega)⟩,zEm b0 hne,zEm b1 hne,zEm b2 hne,zEm b3 hne,zEm b4 hne⟩
  clear h3 g1 hE BD hxa hxa1 hrg hkb H2 hy hV o1 o2 o3 o4 o5 o6
  simp only[aB,List.length_nil,Nat.zero_add]at *
  (go_upto_region 15 with fail);clear x0 x1 x2 x3 x4
  go_region_held2 (fun w'=>(w'.cell? ⟨w.heap.size,0,none⟩=some (.int .i64 op)/\w'.cell? ⟨w.heap.size,1,none⟩=some (.int .i64 num)/\w'.cell? ⟨w.heap.size,2,none⟩=some (.string (strN aZ))/\w'.cell? ⟨w.heap.size,3,none⟩=some (.slice (some ⟨kb,ko,none⟩) 1 cp)/\w'.cell? ⟨w.heap.size,4,none⟩=some (.int .i64 aW))/\(w'.cell? ⟨kb,ko,none⟩=some (.int .i64 a.op)/\w'.cell? ⟨kb,ko+1,none⟩=some (.int .i64 a.num)/\w'.cell? ⟨kb,ko+2,none⟩=some (.string (strN a.aZ))/\w'.cell? ⟨kb,ko+3,none⟩=some (.slice A0 a.aX.length c0)/\w'.cell? ⟨kb,ko+4,none⟩=some (.int .i64 a.aW)))
   (first|(with_reducible exact HS6.out KC.out)|(with_reducible exact HS6b.out _ _ _ KC.out))
   (first
    | (go_at_call 189;refine KX.out.mono ?_;rintro e w2 hG;(rcases ro with⟨v,τ'⟩|⟨t',τ'⟩<;>(try(obtain⟨hM,he,c',hs⟩:=hG;subst he;exact⟨rfl,zy (HRO.out.1 _ _ rfl) (KC.out.mv.trans hM) hs⟩)));obtain⟨hM,V,rfl,hv,hs⟩:=hG;obtain⟨A2,c2,rfl,_,_⟩:=xM hv;replace KC:=aQ (KC.out.go hM hs);have HK2:=aQ (HONE.out v τ' w2 _ (HRO.out.2 _ _ rfl) hs hv);clear hM hs hv)
    | (go_at_call 230;refine HK2.out.mono ?_;rintro e w3 hG;(rcases r with⟨x,τ2⟩|⟨t2,τ2⟩<;>(try(obtain⟨hM,he,c',hs⟩:=hG;subst he;exact⟨rfl,zy rfl (KC.out.mv.trans hM) hs⟩)));obtain⟨hM,u,rfl,hv,hs⟩:=hG;obtain⟨A4,c4,rfl,_,_⟩:=xM hv;replace KC:=aQ (KC.out.go hM hs);have HV4:=aQ hv;obtain⟨⟨u0,u1,u2⟩,v0,v1,v2⟩:=ka KC.out.z;clear hM hs hv))
  all_goals
   have HS9:=aQ (xa KC.out.z x.t x.n (.slice A4 x.s.length c4));go_wp2;refine vS (qH results189 _ _ (w.heap.size+1) rfl HS9.out.here) rfl ?_;exact qQ (v:=x) rfl KC.out.run KC.out.mv HV4.out (by omega) KC.out.z HS9.out HN.out
end
end Go.Proofs.YtcilgkdnjgmogaaGreatDoor
