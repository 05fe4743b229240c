/- A part of the proof. -/
import Derived.Deep.RegionHeld3
import Derived.Test.YtcilgkdnjgmogaaGreatDoorYb
namespace Go.Proofs.YtcilgkdnjgmogaaGreatDoor
open Go.Proofs.Tryz
set_option maxRecDepth 100000
set_option maxHeartbeats 12800000
set_option linter.all false
variable {A:Option Addr} {d g i n0:Nat} {w w':World}
section
open Go.RowKit Go.MapKept
variable [Prt]
def OutV(w:World)(t used:Int)(v:Va)(x:Value):Prop:=∃A cp,x=.agg #[.int .i64 v.t,.int .i64 v.n,.slice A v.s.length cp,.int .i64 t,.int .i64 used]/\VaC w v (VV v.t v.n (.slice A v.s.length cp))
def RunO(n0 J:Nat)(w:World)(σ:Stt)(r:Ou Va)(e:Ending)(w':World):Prop:=
 Mv n0 NoM w w'/\(∀b,Jb w' J b->¬Prt.no b)/\∃x,e=.returned x/\match r with
  | .ok v τ=>OutV w' 0 τ.used v x/\Jr n0 w' J τ.hs τ.cur
  | .trap t τ=>OutV w' t τ.used qe x/\Jr n0 w' J σ.hs σ.cur
def kN(w:World)(a b:Obj):((w.alloc a).alloc b).heap[w.heap.size+1]? =some b:=by
 have s1:(w.alloc a).heap.size=w.heap.size+1:=by simp
 rw[<- s1];exact ye _ b
def zb6(n:Int):0<=newL n/\newL n<=100000:=by
 unfold newL up;omega
def zqe{hs hs':List (List PR)}{cur cur':List PR}(h:(hs++[cur]) <+: (hs'++[cur'])):hs.length<=hs'.length/\(hs'++[cur'])[hs.length]? =some cur/\hs'.take hs.length=hs:=by
 obtain⟨t,ht⟩:=h;have hl:hs.length<=hs'.length:=by
  have:=congrArg List.length ht;simp at this;omega
 refine⟨hl,?_,?_⟩
 ·rw[<- ht];simp
 ·have h2:=congrArg (List.take hs.length) ht;rw[List.append_assoc,List.take_left',List.take_append_of_le_length hl]at h2
  ·exact h2.symm
  ·rfl
def zt9{t n trap used t0 n1 p0 u0:Int}{k k0:Value}(h:OSt d (oC t n k trap used) w w')(hw:w.heap[d]? =some (oC t0 n1 k0 p0 u0))(hn:n0<=d)(hk:∀y,k≠.int .u8 y)(hk0:∀y,k0≠.int .u8 y):Off n0 w w':=by
 have hN:∀(t n:Int) (k:Value) (p u:Int),(∀y,k≠.int .u8 y)->NoI #[.int .i64 t,.int .i64 n,k,.int .i64 p,.int .i64 u]:=by
  intro t n k p u hk x hx _ y e;simp at hx;rcases hx with rfl|rfl|rfl|rfl|rfl
  ·cases e
  ·cases e
  ·exact hk y e
  ·cases e
  ·cases e
 exact Off.grown ⟨h.os,h.tape,h.output,by rw[h.size];exact aR _,fun b _ hb=>h.far b fun e=>hb (by rw[e])⟩ ⟨hn,_,44,_,hw,.inr (.inr (.inr (.inr (.inr (.inr rfl))))),hN _ _ _ _ _ hk0⟩ ⟨hn,_,44,_,h.here,.inr (.inr (.inr (.inr (.inr (.inr rfl))))),hN _ _ _ _ _ hk⟩
def jr_o{n0 d J:Nat}{t n trap used t0 n1 p0 u0:Int}{k k0:Value}{hs:List (List PR)}{cur:List PR}(h:OSt d (oC t n k trap used) w w')(hw:w.heap[d]? =some (oC t0 n1 k0 p0 u0))(ho:Off n0 w w')(hj:Jr n0 w J hs cur):Jr n0 w' J hs cur:=
 hj.off ho fun b hb=>h.far b (by
  obtain⟨cs,T,z,g1,g2⟩:=hj.jb_tag hb
  exact jV g1 hw (by rcases g2 with rfl|rfl<;>decide))
def zFm{J b:Nat}(h:w'.heap[J]? =w.heap[J]?)(hb:Jb w' J b):Jb w J b:=by
 rcases hb with e|⟨v,R,g1,g2,e⟩
 ·exact .inl e
 ·exact .inr ⟨v,R,by simpa only[World.cell?,h]using g1,g2,e⟩
def jb_o{n0 d J:Nat}{t n trap used t0 n1 p0 u0:Int}{k k0:Value}{hs:List (List PR)}{cur:List PR}(h:OSt d (oC t n k trap used) w w')(hw:w.heap[d]? =some (oC t0 n1 k0 p0 u0))(hj:Jr n0 w J hs cur):w'.heap[J]? =w.heap[J]?:=
 h.far J (by
  obtain⟨cs,T,z,g1,g2⟩:=hj.jb_tag (.inl rfl)
  exact jV g1 hw (by rcases g2 with rfl|rfl<;>decide))
def mv_o{w w1 w2 w3:World}{t n trap used:Int}{k:Value}(hb:Below w.heap.size w w1)(hm:Mv n0 NoM w1 w2)(h:OSt d (oC t n k trap used) w2 w3)(ho:Off n0 w2 w3)(hd:w.heap.size<=d):Mv n0 NoM w w3:=
 ⟨((Off.of hb).trans hm.off).trans ho,fun b hlt hs hM=>(h.far b (by omega)).trans (((Mv.of hb).trans hm).keep b hlt hs hM)⟩
def zk9:(prog.info? 44).map (·.size)=some 5:=by kernel_rfl
structure zsz(w:World)(a b c:Obj)(w0:World):Prop where
 a:w0.heap[w.heap.size]? =some a
 b:w0.heap[w.heap.size+1]? =some b
 c:w0.heap[w.heap.size+2]? =some c
 s:Below w.heap.size w w0
 z:w0.heap.size=w.heap.size+3
def zic(w:World)(a b c:Obj):zsz w a b c (((w.alloc a).alloc b).alloc c):=by
 have h1:=za w a;have h2:=za (w.alloc a) b;have h3:=za ((w.alloc a).alloc b) c;have s1:(w.alloc a).heap.size=w.heap.size+1:=by simp
 have s2:((w.alloc a).alloc b).heap.size=w.heap.size+2:=by simp
 have s3:(((w.alloc a).alloc b).alloc c).heap.size=w.heap.size+3:=by simp
 refine⟨?_,?_,?_,(h1.trans (h2.mono h1.size)).trans (h3.mono (by omega)),s3⟩
 ·rw[h3.block _ (by omega),h2.block _ (by omega)];exact ye w a
 ·rw[h3.block _ (by omega),<- s1];exact ye _ b
 ·rw[<- s2];exact ye _ c
def zlx(n0:Nat)(w:World)(J:Nat)(hs:List (List PR))(cur:List PR)(fs:List Xf)(ks:List Two)(A:Option Addr)(c:Nat)(name:List Nat)(V:Value)(vs:List Va)(limit:Int)(f:Xf)(r:Ou Va)
  (hn:n0<=w.heap.size) (hj:Jr n0 w J hs cur) (hpj:∀b,Jb w J b->¬Prt.no b) (hpt:∀b,Prt.no b->b<w.heap.size) (hl:(hs.length:Int)*4<=90000) (hp:kD fs=none) (hsh:∀f∈fs,shB f.body=true) (hx:XfsC w (Lo n0) fs ks (.slice A fs.length c)) (hy:Byn name) (ha:ArgX n0 w V vs) (hf:xT fs name=some f) (hfit:fitB f.params vs=true) (hr:vg (newL limit) (xT fs) f vs { used:=0,hs:=hs,cur:=cur } r) :
  Calls prog 19 #[.agg #[.slice A fs.length c],.string (strN name),V,.pointer (some ⟨J,0,none⟩),.int .i64 limit] w (RunO n0 J w { used:=0,hs:=hs,cur:=cur } r):=by
 have hmf:∀(fn:Fn) (first cap:Array Value) (w:World),(Instr.makeFunc fn first cap).run prog w=.ok (.func fn first cap) w:=fun _ _ _ _=>rfl;have H3:=zic w (.cells #[.slice A fs.length c] 26) (.cells #[.pointer (some ⟨J,0,none⟩)] 35) (oC 0 0 (.slice none 0 0) 0 0);obtain⟨w0,hw0⟩:∃w0,((w.alloc (.cells #[.slice A fs.length c] 26)).alloc (.cells #[.pointer (some ⟨J,0,none⟩)] 35)).alloc (oC 0 0 (.slice none 0 0) 0 0)=w0:=⟨_,rfl⟩;rw[hw0]at H3;have HW0:=aQ hw0;have HN:=aQ hn;have HPR:=aQ (And.intro hpj hpt);have HH:=aQ H3;have HJ:=aQ hj;have HA:=aQ ha;have HX:=aQ (hx.same (xj H3.s hn));have HXw:=aQ hx;have K:=aQ (zh8 fs ks A c w0 n0 (by have:=H3.z;omega) HX.out hp);have HP:=aQ (And.intro hl (And.intro hsh (And.intro hy (And.intro hf (And.intro hfit hr)))));have a0:w0.cell? ⟨w.heap.size,0,none⟩=some (.slice A fs.length c):=by simp[World.cell?,H3.a]
 clear hj ha hx hl hp hsh hy hf hfit hr H3 hw0 hpj hpt
 go_enter_defers func19,ntmps19
 go_upto_region 1 with fail
 rw[HW0.out]
 go_wp2_with fail
 (with_reducible refine K.out.mono ?_)
 rintro e w1⟨rfl,hm1,hb1⟩;have h1n:n0<=w1.heap.size:=by have:=hb1.size;have:=HH.out.z;have:=HN.out;omega
 obtain⟨k,A1,A2,c1,c2,ek1,ek2,hxfw,hlk⟩:∃(k:Two) (A1 A2:Option Addr) (c1 c2:Nat),k.p=.slice A1 f.params.length c1/\k.b=.slice A2 f.body.length c2/\XfK w (Lo n0) f k/\(Instr.lookup 96 (.map (some (w0.heap.size+1))) (.string (strN name)) true).run prog w1=.ok (.tuple #[.agg #[.string (strN f.name),.slice A1 f.params.length c1,.int .i64 f.result,.slice A2 f.body.length c2,.int .i64 f.aW],.bool true]) w1:=by
  have hx1:=HX.out.same (xj hb1 (by have:=HH.out.z;have:=HN.out;omega));have hrun:=jH hm1 HP.out.2.2.1 underlying96 (zo6 w1);have hfind:fs.find? (fun f=>f.name==name)=some f:=HP.out.2.2.2.1;rcases vP name fs ks hx1.1 with⟨g1,_⟩|⟨i,f',k,g1,g2,g3,g4⟩
  ·rw[hfind]at g1;cases g1
  ·rw[hfind]at g3;injection g3 with g3
   subst g3;have hxf:=HXw.out.2.2 i f k g1 g2;obtain⟨A1,c1,e1⟩:=hxf.params.slice5;obtain⟨A2,c2,e2⟩:=zt hxf.body;refine⟨k,A1,A2,c1,c2,e1,e2,hxf,?_⟩;rw[hrun,g4];unfold xfC;rw[e1,e2];rfl
 have hxf:=hxfw.same (xj (HH.out.s.trans (hb1.mono (by have:=HH.out.z;omega))) hn);have HFK:=aQ hxfw;clear hxfw;have B2:=za w1 (.cells #[.string (strN f.name),.slice A1 f.params.length c1,.int .i64 f.result,.slice A2 f.body.length c2,.int .i64 f.aW] 69);obtain⟨x0,x1,x2,x3,x4⟩:=znn (ye w1 (.cells #[.string (strN f.name),.slice A1 f.params.length c1,.int .i64 f.result,.slice A2 f.body.length c2,.int .i64 f.aW] 69));have HB2:=aQ (HH.out.s.trans (zd hb1 B2 hb1.size |>.mono (by have:=HH.out.z;omega)))
 have HHA:Hid ((w1.alloc (.cells #[.string (strN f.name),.slice A1 f.params.length c1,.int .i64 f.result,.slice A2 f.body.length c2,.int .i64 f.aW] 69)).heap[w.heap.size+1]? =some (.cells #[.pointer (some ⟨J,0,none⟩)] 35 (0,0))/\(w1.alloc (.cells #[.string (strN f.name),.slice A1 f.params.length c1,.int .i64 f.result,.slice A2 f.body.length c2,.int .i64 f.aW] 69)).heap[w.heap.size+2]? =some (oC 0 0 (.slice none 0 0) 0 0)):=
  ⟨zg B2 (zg hb1 HH.out.b (by have:=HH.out.z;omega)) (by have:=hb1.size;have:=HH.out.z;omega),zg B2 (zg hb1 HH.out.c (by have:=HH.out.z;omega)) (by have:=hb1.size;have:=HH.out.z;omega)⟩
 have HMP:=aQ (hm1.of (B2.block _ hm1.lt));have HXF:=aQ (hxf.same (xj B2 h1n));have hpx:=HXF.out.params;rw[ek1]at hpx;have HPX:=aQ hpx;clear hpx;have HEK:=aQ (And.intro ek1 ek2);have y1:(w1.alloc (.cells #[.string (strN f.name),.slice A1 f.params.length c1,.int .i64 f.result,.slice A2 f.body.length c2,.int .i64 f.aW] 69)).cell? ⟨w.heap.size+1,0,none⟩=some (.pointer (some ⟨J,0,none⟩)):=by simp[World.cell?,HHA.out.1]
 clear hm1 hb1 hxf ek1 ek2 B2 K a0;go_upto_region 3 with fail
 clear hlk
 generalize w1.alloc (.cells #[.string (strN f.name),.slice A1 f.params.length c1,.int .i64 f.result,.slice A2 f.body.length c2,.int .i64 f.aW] 69)=w2 at *
 obtain⟨AV,cV,rfl⟩:=HA.out.len;have KF:=aQ (zvu n0 w2 f.params vs (.slice AV vs.length cV) (.slice A1 f.params.length c1) (by have:=HB2.out.size;have:=HN.out;omega) (HA.out.on HB2.out) HPX.out)
 go_wp2_with fail
 (with_reducible refine KF.out.mono ?_)
 rintro e w3⟨rfl,hb3⟩;rw[HP.out.2.2.2.2.1];have HB3:=aQ (HB2.out.trans (hb3.mono HB2.out.size));have HH3:=aQ (And.intro (zg hb3 HHA.out.1 (aU.1 HHA.out.1).1) (zg hb3 HHA.out.2 (aU.1 HHA.out.2).1));have HM3:=aQ (HMP.out.of (hb3.block _ HMP.out.lt));have HX3:=aQ (HXF.out.same (xj hb3 (by have:=HB2.out.size;have:=HN.out;omega)));have v0:=zb x0 hb3;have v1:=zb x1 hb3;have v2:=zb x2 hb3;have v3:=zb x3 hb3;have v4:=zb x4 hb3;have y3:=zb y1 hb3;clear KF hb3 x0 x1 x2 x3 x4 y1 HB2 HHA HMP HXF HPX;have KN:Hid (∀w',Calls prog 44 #[.int .i64 limit] w' fun e w''=>e=.returned (GV (newL limit) 0)/\Below w'.heap.size w' w''):=fun w'=>zv6 limit w';have HSB:Hid (∀W,Below w3.heap.size w3 W->W.cell? ⟨w.heap.size+1,0,none⟩=some (.pointer (some ⟨J,0,none⟩))):=fun W h=>zb y3 h;dsimp only;go_upto_region 5 with fail
 go_region_held3(fun W=>W.cell? ⟨w.heap.size+1,0,none⟩=some (.pointer (some ⟨J,0,none⟩)))
  (first
   | (with_reducible exact HSB.out _ HB4.out)
   | (with_reducible exact HSB.out _ (HB4.out.alloc HB4.out.size _))
   | (with_reducible exact HSB.out _ ((HB4.out.alloc HB4.out.size _).alloc (by have:=HB4.out.size;simp;omega) _))
   | (with_reducible exact HSB.out _ ((HB4.out.alloc HB4.out.size _).setCell (aR _) _))
   | (with_reducible exact HSB.out _ (((HB4.out.alloc HB4.out.size _).alloc (by have:=HB4.out.size;simp;omega) _).setCell HB4.out.size _))
   | (with_reducible exact HSB.out _ (Below.refl _ _).drew)
   | (with_reducible exact HSB.out _ ((Below.refl _ _).alloc (aR _) _).drew))
  (first
   | (go_at_call 44;refine(KN.out _).mono ?_;rintro e w4 ⟨rfl,hb4⟩;(first|(have HB4:Hid (Below w3.heap.size w3 w4):=(Below.refl w3.heap.size w3).drew.trans hb4;have q0:((w4.alloc (.cells #[.pointer none] 100)).alloc (.cells #[.map (some (w0.heap.size+1)),.pointer (some ⟨J,0,none⟩),.int .i64 (newL limit),.int .i64 0,.int .i64 0] 105)).heap[w4.heap.size]? =some (.cells #[.pointer none] 100 (0,0)):=zg (za _ _) (ye w4 (.cells #[.pointer none] 100)) (by simp);have z0:((w4.alloc (.cells #[.pointer none] 100)).alloc (.cells #[.map (some (w0.heap.size+1)),.pointer (some ⟨J,0,none⟩),.int .i64 (newL limit),.int .i64 0,.int .i64 0] 105)).cell? ⟨w4.heap.size,0,none⟩=some (.pointer none):=(by simp[World.cell?,q0]);have z1:((w4.alloc (.cells #[.pointer none] 100)).alloc (.cells #[.map (some (w0.heap.size+1)),.pointer (some ⟨J,0,none⟩),.int .i64 (newL limit),.int .i64 0,.int .i64 0] 105)).frozen? ⟨w4.heap.size,0,none⟩=false:=(by simp[World.frozen?,q0]);clear q0)|(have HZ4:Hid (w4.heap[w3.heap.size]? =some (.cells #[.pointer none] 100 (0,0))):=zg hb4 (ye w3 (.cells #[.pointer none] 100)) (by simp);have HB4:Hid (Below w3.heap.size w3 w4):=((Below.refl w3.heap.size w3).alloc (aR _) (.cells #[.pointer none] 100)).drew.trans (hb4.mono (by simp));have q0:(w4.alloc (.cells #[.map (some (w0.heap.size+1)),.pointer (some ⟨J,0,none⟩),.int .i64 (newL limit),.int .i64 0,.int .i64 0] 105)).heap[w3.heap.size]? =some (.cells #[.pointer none] 100 (0,0)):=zg (za _ _) HZ4.out (aU.1 HZ4.out).1;have z0:(w4.alloc (.cells #[.map (some (w0.heap.size+1)),.pointer (some ⟨J,0,none⟩),.int .i64 (newL limit),.int .i64 0,.int .i64 0] 105)).cell? ⟨w3.heap.size,0,none⟩=some (.pointer none):=(by simp[World.cell?,q0]);have z1:(w4.alloc (.cells #[.map (some (w0.heap.size+1)),.pointer (some ⟨J,0,none⟩),.int .i64 (newL limit),.int .i64 0,.int .i64 0] 105)).frozen? ⟨w3.heap.size,0,none⟩=false:=(by simp[World.frozen?,q0]);clear q0));clear hb4))
 have HW:Hid (Below w3.heap.size w3 ((w4.alloc (.cells #[.map (some (w0.heap.size+1)),.pointer (some ⟨J,0,none⟩),.int .i64 (newL limit),.int .i64 0,.int .i64 0] 105)).alloc (.cells #[.pointer (some ⟨w4.heap.size,0,none⟩)] 100))):=(HB4.out.alloc HB4.out.size _).alloc (by have:=HB4.out.size;simp;omega) _;have HRc:Hid (((w4.alloc (.cells #[.map (some (w0.heap.size+1)),.pointer (some ⟨J,0,none⟩),.int .i64 (newL limit),.int .i64 0,.int .i64 0] 105)).alloc (.cells #[.pointer (some ⟨w4.heap.size,0,none⟩)] 100)).heap[w4.heap.size]? =some (.cells #[.map (some (w0.heap.size+1)),.pointer (some ⟨J,0,none⟩),.int .i64 (newL limit),.int .i64 0,.int .i64 0] 105 (0,0))):=zg (za _ _) (ye w4 _) (by simp);have HT:Hid (((w4.alloc (.cells #[.map (some (w0.heap.size+1)),.pointer (some ⟨J,0,none⟩),.int .i64 (newL limit),.int .i64 0,.int .i64 0] 105)).alloc (.cells #[.pointer (some ⟨w4.heap.size,0,none⟩)] 100)).heap[w4.heap.size+1]? =some (.cells #[.pointer (some ⟨w4.heap.size,0,none⟩)] 100 (0,0))):=kN w4 _ _;have HLe:Hid (w3.heap.size<=w4.heap.size/\w3.heap.size<=w4.heap.size+1):=⟨HB4.out.size,by have:=HB4.out.size;omega⟩;have HW2:=aQ (HB3.out.trans (HW.out.mono HB3.out.size));have HHW:=aQ (And.intro (zg HW.out HH3.out.1 (aU.1 HH3.out.1).1) (zg HW.out HH3.out.2 (aU.1 HH3.out.2).1));have HMW:=aQ (HM3.out.of (HW.out.block _ HM3.out.lt));have HVW:=aQ (And.intro (zb v0 HW.out) (And.intro (zb v1 HW.out) (And.intro (zb v2 HW.out) (And.intro (zb v3 HW.out) (zb v4 HW.out)))));have HG:=aQ (And.intro (aT HB3.out.size HLe.out.1) (aT HB3.out.size HLe.out.2));clear HW HB3 HH3 HM3 HX3 HLe v0 v1 v2 v3 v4 y3 HSB KN HB4
 generalize(w4.alloc (.cells #[.map (some (w0.heap.size+1)),.pointer (some ⟨J,0,none⟩),.int .i64 (newL limit),.int .i64 0,.int .i64 0] 105)).alloc (.cells #[.pointer (some ⟨w4.heap.size,0,none⟩)] 100)=W at *
 generalize hT:w4.heap.size+1=gT at *
 generalize hR:w4.heap.size=gR at *
 clear hR hT z0 z1
 (try clear HZ4)
 rotate_left
 have HW:Hid (Below w3.heap.size w3 ((w4.alloc (.cells #[.pointer (some ⟨w4.heap.size+1,0,none⟩)] 100)).alloc (.cells #[.map (some (w0.heap.size+1)),.pointer (some ⟨J,0,none⟩),.int .i64 (newL limit),.int .i64 0,.int .i64 0] 105))):=(HB4.out.alloc HB4.out.size _).alloc (by have:=HB4.out.size;simp;omega) _;have HRc:Hid (((w4.alloc (.cells #[.pointer (some ⟨w4.heap.size+1,0,none⟩)] 100)).alloc (.cells #[.map (some (w0.heap.size+1)),.pointer (some ⟨J,0,none⟩),.int .i64 (newL limit),.int .i64 0,.int .i64 0] 105)).heap[w4.heap.size+1]? =some (.cells #[.map (some (w0.heap.size+1)),.pointer (some ⟨J,0,none⟩),.int .i64 (newL limit),.int .i64 0,.int .i64 0] 105 (0,0))):=kN w4 _ _;have HT:Hid (((w4.alloc (.cells #[.pointer (some ⟨w4.heap.size+1,0,none⟩)] 100)).alloc (.cells #[.map (some (w0.heap.size+1)),.pointer (some ⟨J,0,none⟩),.int .i64 (newL limit),.int .i64 0,.int .i64 0] 105)).heap[w4.heap.size]? =some (.cells #[.pointer (some ⟨w4.heap.size+1,0,none⟩)] 100 (0,0))):=zg (za _ _) (ye w4 _) (by simp);have HLe:Hid (w3.heap.size<=w4.heap.size+1/\w3.heap.size<=w4.heap.size):=⟨by have:=HB4.out.size;omega,HB4.out.size⟩;have HW2:=aQ (HB3.out.trans (HW.out.mono HB3.out.size));have HHW:=aQ (And.intro (zg HW.out HH3.out.1 (aU.1 HH3.out.1).1) (zg HW.out HH3.out.2 (aU.1 HH3.out.2).1));have HMW:=aQ (HM3.out.of (HW.out.block _ HM3.out.lt));have HVW:=aQ (And.intro (zb v0 HW.out) (And.intro (zb v1 HW.out) (And.intro (zb v2 HW.out) (And.intro (zb v3 HW.out) (zb v4 HW.out)))));have HG:=aQ (And.intro (aT HB3.out.size HLe.out.1) (aT HB3.out.size HLe.out.2));clear HW HB3 HH3 HM3 HX3 HLe v0 v1 v2 v3 v4 y3 HSB KN HB4
 generalize(w4.alloc (.cells #[.pointer (some ⟨w4.heap.size+1,0,none⟩)] 100)).alloc (.cells #[.map (some (w0.heap.size+1)),.pointer (some ⟨J,0,none⟩),.int .i64 (newL limit),.int .i64 0,.int .i64 0] 105)=W at *
 generalize hR:w4.heap.size+1=gR at *
 generalize hT:w4.heap.size=gT at *
 clear hR hT z0 z1
 (try clear HZ4)
 rotate_left
 have HW:Hid (Below w3.heap.size w3 ((w4.alloc (.cells #[.map (some (w0.heap.size+1)),.pointer (some ⟨J,0,none⟩),.int .i64 (newL limit),.int .i64 0,.int .i64 0] 105)).setCell ⟨w3.heap.size,0,none⟩ (.pointer (some ⟨w4.heap.size,0,none⟩)))):=(HB4.out.alloc HB4.out.size _).setCell (aR _) _;have HRc:Hid (((w4.alloc (.cells #[.map (some (w0.heap.size+1)),.pointer (some ⟨J,0,none⟩),.int .i64 (newL limit),.int .i64 0,.int .i64 0] 105)).setCell ⟨w3.heap.size,0,none⟩ (.pointer (some ⟨w4.heap.size,0,none⟩))).heap[w4.heap.size]? =some (.cells #[.map (some (w0.heap.size+1)),.pointer (some ⟨J,0,none⟩),.int .i64 (newL limit),.int .i64 0,.int .i64 0] 105 (0,0))):=by rw[zf _ _ _ _ _ (Nat.ne_of_gt (aU.1 HZ4.out).1)];exact ye w4 _
 have HT:Hid (((w4.alloc (.cells #[.map (some (w0.heap.size+1)),.pointer (some ⟨J,0,none⟩),.int .i64 (newL limit),.int .i64 0,.int .i64 0] 105)).setCell ⟨w3.heap.size,0,none⟩ (.pointer (some ⟨w4.heap.size,0,none⟩))).heap[w3.heap.size]? =some (.cells #[.pointer (some ⟨w4.heap.size,0,none⟩)] 100 (0,0))):=heap_setCell_same (w4.alloc (.cells #[.map (some (w0.heap.size+1)),.pointer (some ⟨J,0,none⟩),.int .i64 (newL limit),.int .i64 0,.int .i64 0] 105)) w3.heap.size 0 _ _ _ (zg (za _ _) HZ4.out (aU.1 HZ4.out).1);have HLe:Hid (w3.heap.size<=w4.heap.size/\w3.heap.size<=w3.heap.size):=⟨HB4.out.size,aR _⟩;have HW2:=aQ (HB3.out.trans (HW.out.mono HB3.out.size));have HHW:=aQ (And.intro (zg HW.out HH3.out.1 (aU.1 HH3.out.1).1) (zg HW.out HH3.out.2 (aU.1 HH3.out.2).1));have HMW:=aQ (HM3.out.of (HW.out.block _ HM3.out.lt));have HVW:=aQ (And.intro (zb v0 HW.out) (And.intro (zb v1 HW.out) (And.intro (zb v2 HW.out) (And.intro (zb v3 HW.out) (zb v4 HW.out)))));have HG:=aQ (And.intro (aT HB3.out.size HLe.out.1) (aT HB3.out.size HLe.out.2));clear HW HB3 HH3 HM3 HX3 HLe v0 v1 v2 v3 v4 y3 HSB KN HB4
 generalize(w4.alloc (.cells #[.map (some (w0.heap.size+1)),.pointer (some ⟨J,0,none⟩),.int .i64 (newL limit),.int .i64 0,.int .i64 0] 105)).setCell ⟨w3.heap.size,0,none⟩ (.pointer (some ⟨w4.heap.size,0,none⟩))=W at *
 generalize hR:w4.heap.size=gR at *
 generalize hT:w3.heap.size=gT at *
 clear hR hT z0 z1
 (try clear HZ4)
 rotate_left
 all_goals
  have HJW:=aQ (HJ.out.on HW2.out);obtain⟨v0,v1,v2,v3,v4⟩:=HVW.out;have y3:W.cell? ⟨w.heap.size+1,0,none⟩=some (.pointer (some ⟨J,0,none⟩)):=by simp[World.cell?,HHW.out.1]
  have KM:=aQ (zpu n0 W J hs cur HJW.out);have hgR:n0<=gR:=by have:=HG.out.1;omega
  have yT:W.cell? ⟨gT,0,none⟩=some (.pointer (some ⟨gR,0,none⟩)):=by simp[World.cell?,HT.out]
  go_wp2_with fail
  (with_reducible refine KM.out.mono ?_)
  rintro e w6⟨rfl,rfl⟩;obtain⟨X,hX⟩:∃X:Cx10,X={ n0:=n0,R:=gR,J:=J,g:=w0.heap.size+1,lim:=newL limit,fs:=fs,ks:=ks,sh:=HP.out.2.1 }:=⟨_,rfl⟩;have B7:=za W (.cells #[.int .i64 hs.length] 3);have hb7:=HW2.out.trans (B7.mono HW2.out.size);have hrun:RunS X 0 { used:=0,hs:=hs,cur:=cur } (W.alloc (.cells #[.int .i64 hs.length] 3)):=by
   subst hX;refine⟨zg B7 HRc.out (aU.1 HRc.out).1,hgR,HJ.out.on hb7,HMW.out.of (B7.block _ HMW.out.lt),by have:=HH.out.z;show n0<=w0.heap.size+1;omega,HXw.out.1,(HXw.out.same (xj hb7 hn)).2.2,by have:=hb7.size;show n0<=_;omega,Int.le_refl _,(zb6 limit).1,(zb6 limit).2,by show(hs.length:Int)*4<=90000+0;have:=HP.out.1;omega,fun h=>by have:=HPR.out.2 gR h;have:=HG.out.1;omega,fun b hb=>HPR.out.1 b (zp4 (hb7.block _ HJ.out.sp.lt) hb),fun b hb=>aS (HPR.out.2 b hb) hb7.size⟩
  obtain⟨n,hn47⟩:=HP.out.2.2.2.2.2.at;have K47:=(zvk X n).2.2.1 0 f k vs { used:=0,hs:=hs,cur:=cur } r _ (.slice AV vs.length cV) (by omega) hrun (by subst hX;exact HFK.out.same (xj hb7 hn)) (by subst hX;exact HA.out.on hb7) (HP.out.2.1 f (List.mem_of_find?_eq_some HP.out.2.2.2.1)) (by subst hX;exact hn47);obtain⟨x0,x1,x2,x3,x4⟩:(W.alloc (.cells #[.int .i64 hs.length] 3)).cell? ⟨w1.heap.size,0,none⟩=some (.string (strN f.name))/\(W.alloc (.cells #[.int .i64 hs.length] 3)).cell? ⟨w1.heap.size,1,none⟩=some (.slice A1 f.params.length c1)/\(W.alloc (.cells #[.int .i64 hs.length] 3)).cell? ⟨w1.heap.size,2,none⟩=some (.int .i64 f.result)/\(W.alloc (.cells #[.int .i64 hs.length] 3)).cell? ⟨w1.heap.size,3,none⟩=some (.slice A2 f.body.length c2)/\(W.alloc (.cells #[.int .i64 hs.length] 3)).cell? ⟨w1.heap.size,4,none⟩=some (.int .i64 f.aW):=⟨zb v0 B7,zb v1 B7,zb v2 B7,zb v3 B7,zb v4 B7⟩;have yT7:=zb yT B7
  have hfr:(W.alloc (.cells #[.int .i64 hs.length] 3)).heap[w.heap.size+1]? =some (.cells #[.pointer (some ⟨J,0,none⟩)] 35 (0,0))/\(W.alloc (.cells #[.int .i64 hs.length] 3)).heap[w.heap.size+2]? =some (oC 0 0 (.slice none 0 0) 0 0)/\(W.alloc (.cells #[.int .i64 hs.length] 3)).heap[gT]? =some (.cells #[.pointer (some ⟨gR,0,none⟩)] 100 (0,0))/\(W.alloc (.cells #[.int .i64 hs.length] 3)).heap[W.heap.size]? =some (.cells #[.int .i64 hs.length] 3 (0,0)):=
   ⟨zg B7 HHW.out.1 (aU.1 HHW.out.1).1,zg B7 HHW.out.2 (aU.1 HHW.out.2).1,zg B7 HT.out (aU.1 HT.out).1,ye W _⟩
  unfold xfC at K47;rw[HEK.out.1,HEK.out.2]at K47;have K7:=aQ K47;have HF7:=aQ hfr;have HR7:=aQ hrun;have HB7:=aQ hb7;have HXX:=aQ hX;have HXR:X.R=gR:=by rw[hX]
  have HXN:X.n0=n0:=by rw[hX]
  have HXJ:X.J=J:=by rw[hX]
  rw[HXR]at K7;clear K47 hfr hrun hb7 hX B7 KM v0 v1 v2 v3 v4 y3 yT hn47;go_upto_region 8 with fail
  generalize hWs:W.alloc (.cells #[.int .i64 hs.length] 3)=W7 at *
  go_wp2_with fail
  (with_reducible refine K7.out.mono ?_)
  rintro e w8 hG;have hends:=HP.out.2.2.2.2.2.ends (by show(0:Int)<=_;exact(zb6 limit).1);rcases r with⟨v,τ⟩|⟨t,τ⟩
  rotate_left
  ·obtain⟨hM,rfl,c',hs8⟩:=hG;have hadv:Adv (newL limit) { used:=0,hs:=hs,cur:=cur } τ:=hends.1;obtain⟨l1,l2,l3⟩:=zqe hadv.past;go_wp2;refine leaves_cons (f:=45) (args:=#[.pointer (some ⟨w.heap.size+1,0,none⟩),.pointer (some ⟨W.heap.size,0,none⟩),.pointer (some ⟨gT,0,none⟩),.pointer (some ⟨w.heap.size+1+1,0,none⟩)]) (by simp) (by simp[go_sem]) ?_;refine(zfc X c' τ w8 (w.heap.size+1) W.heap.size gT (w.heap.size+1+1) t hs.length cur [] hs8 l1 l2 (by rw[HXJ];exact hM.kept HF7.out.1 (by decide)) (hM.kept HF7.out.2.2.2 (by decide)) (by rw[HXR];exact hM.kept HF7.out.2.2.1 (by decide)) (hM.kept HF7.out.2.1 (by decide))).mono ?_;rintro e' u' w9 ⟨rfl,rfl,w10,hch,host⟩
   exact⟨_,zU (cs:=[.int .i64 0,.int .i64 0,.slice none 0 0,.int .i64 t,.int .i64 τ.used]) results19 underlying44 rfl zk9 _ w9 (w.heap.size+1+1) rfl (zZ host.here),by
    have hM':Mv n0 NoM W7 w8:=HXN▸hM;have hch':Chd n0 J w8 (τ.hs.take hs.length) cur w10:=HXN▸HXJ▸hch;have hmv:Mv n0 NoM w8 w10:=HXN▸Mv.chd hs8 hch;have o10:w10.heap[w.heap.size+1+1]? =some (oC 0 0 (.slice none 0 0) 0 0):=hmv.kept (hM'.kept HF7.out.2.1 (by decide)) (by decide);have ho:=zt9 (n0:=n0) host o10 (by have:=HN.out;omega) xF xF;rw[l3]at hch';have hnp:∀b,Jb w9 J b->¬Prt.no b:=fun b hb hno=>by
     have hpj8:∀b,Jb w8 J b->¬Prt.no b:=HXJ▸hs8.pj;rcases hch'.2.1.2 b (zFm (jb_o host o10 hch'.2.2) hb)with h|h
     ·exact hpj8 b h hno
     ·have:=hs8.pt b hno;omega
    exact⟨mv_o HB7.out (hM'.trans hmv) host ho (by omega),hnp,_,rfl,⟨none,0,rfl,zca w9⟩,jr_o host o10 ho hch'.2.2⟩⟩
  ·obtain⟨hM,u,rfl,hv,hs8⟩:=hG;obtain⟨A5,c5,rfl,hB5,hok5⟩:=xM hv;have B9:=za w8 (.cells #[.int .i64 v.t,.int .i64 v.n,.slice A5 v.s.length c5] 41);obtain⟨⟨u0,u1,u2⟩,f0,f1,f2⟩:=ka (ye w8 (.cells #[.int .i64 v.t,.int .i64 v.n,.slice A5 v.s.length c5] 41));have K48:Hid (Calls prog 48 #[.slice A5 v.s.length c5] (w8.alloc (.cells #[.int .i64 v.t,.int .i64 v.n,.slice A5 v.s.length c5] 41)) (vK (w8.alloc (.cells #[.int .i64 v.t,.int .i64 v.n,.slice A5 v.s.length c5] 41)) v.s)):=by
    obtain⟨A6,c6,e6,_,_,g6,_⟩:=hB5.on B9;injection e6 with e6 _ e7
    subst e6 e7;exact zka _ _ _ _ g6 (by have:=hok5.2;omega)
   have HBT:=aQ hB5
   go_wp2_with fail
   (with_reducible refine K48.out.mono ?_)
   rintro e w9⟨A6,c6,rfl,g1,g2,g3,hb9⟩;have k9:=zg hb9 (ye w8 (.cells #[.int .i64 v.t,.int .i64 v.n,.slice A5 v.s.length c5] 41)) (by simp);have HC9:=aQ (heap_setCell_same w9 w8.heap.size 2 _ _ (.slice A6 v.s.length c6) k9);have hfar:∀(b:Nat) (o:Obj),w8.heap[b]? =some o->(w9.setCell ⟨w8.heap.size,2,none⟩ (.slice A6 v.s.length c6)).heap[b]? =some o:=fun b o h=>by
    have hlt:=(aU.1 h).1;rw[zf _ _ _ _ _ (by omega)];exact zg hb9 (zg B9 h hlt) (by simp;omega)
   have r10:=hfar _ _ hs8.cell;rw[HXR]at r10;have t10:=hfar _ _ (hM.kept HF7.out.2.2.1 (by decide));have o10:=hfar _ _ (hM.kept HF7.out.2.1 (by decide));obtain⟨⟨p0,p1,p2⟩,q0,q1,q2⟩:=ka k9;have hbe:Below w8.heap.size w8 (w9.setCell ⟨w8.heap.size,2,none⟩ (.slice A6 v.s.length c6)):=(B9.trans (hb9.mono B9.size)).setCell (aR _) _
   have HSB:Hid (SB (w9.setCell ⟨w8.heap.size,2,none⟩ (.slice A6 v.s.length c6)) (w9.setCell ⟨w8.heap.size,2,none⟩ (.slice A6 v.s.length c6)).heap.size (.slice A6 v.s.length c6) v.s):=
    SBD.sb (D:=Fr (w8.heap.size+1) (w9.setCell ⟨w8.heap.size,2,none⟩ (.slice A6 v.s.length c6)).heap.size) ⟨A6,c6,rfl,g1,g2,g3.keep (fun b hb=>zf _ _ _ _ _ (by have:=hb.1;simp at this;omega)) (fun b hb=>⟨by have:=hb.1;simp at this;omega,by rw[qi];exact hb.2⟩),HBT.out.byt⟩ (fun b hb=>hb.2)
   have HS8:=aQ (And.intro hM (And.intro hs8 hbe));clear hbe;clear u0 u1 u2 f0 f1 f2 hfar k9 B9 hb9;(go_upto_region 10 with fail);clear p0 p1 p2 q0 q1 q2;obtain⟨u0,u1,u2⟩:(w9.setCell ⟨w8.heap.size,2,none⟩ (.slice A6 v.s.length c6)).cell? ⟨w8.heap.size,0,none⟩=some (.int .i64 v.t)/\(w9.setCell ⟨w8.heap.size,2,none⟩ (.slice A6 v.s.length c6)).cell? ⟨w8.heap.size,1,none⟩=some (.int .i64 v.n)/\(w9.setCell ⟨w8.heap.size,2,none⟩ (.slice A6 v.s.length c6)).cell? ⟨w8.heap.size,2,none⟩=some (.slice A6 v.s.length c6):=qr HC9.out;have hT':(w9.setCell ⟨w8.heap.size,2,none⟩ (.slice A6 v.s.length c6)).cell? ⟨gT,0,none⟩=some (.pointer (some ⟨gR,0,none⟩)):=by simp only[World.cell?,t10];rfl
   have hU':(w9.setCell ⟨w8.heap.size,2,none⟩ (.slice A6 v.s.length c6)).cell? ⟨gR,3,none⟩=some (.int .i64 τ.used):=by simp only[World.cell?,r10];rfl
   obtain⟨⟨d1,d2,d3,d4,d5⟩,f1,f2,f3,f4,f5⟩:=xi o10
   generalize w9.setCell ⟨w8.heap.size,2,none⟩ (.slice A6 v.s.length c6)=W10 at *
   have host:=zha o10 v.t v.n (.slice A6 v.s.length c6) 0 τ.used;have HO:=aQ host;clear host o10
   go_region
   go_wp2;refine leaves_cons (f:=45) (args:=#[.pointer (some ⟨w.heap.size+1,0,none⟩),.pointer (some ⟨W.heap.size,0,none⟩),.pointer (some ⟨gT,0,none⟩),.pointer (some ⟨w.heap.size+1+1,0,none⟩)]) (by simp) (by simp[go_sem]) ?_;refine(zfv _ _ _ _ _).mono ?_;rintro e' u' w11 ⟨rfl,rfl,rfl⟩
   exact⟨_,zU (cs:=[.int .i64 v.t,.int .i64 v.n,.slice A6 v.s.length c6,.int .i64 0,.int .i64 τ.used]) results19 underlying44 rfl zk9 _ _ (w.heap.size+1+1) rfl (zZ HO.out.here),by
    have hM':Mv n0 NoM W7 w8:=HXN▸HS8.out.1;have hj8:Jr n0 w8 J τ.hs τ.cur:=HXN▸HXJ▸HS8.out.2.1.jr;have o10:=zg HS8.out.2.2 (hM'.kept HF7.out.2.1 (by decide)) (aU.1 (hM'.kept HF7.out.2.1 (by decide))).1;have ho:=zt9 (n0:=n0) HO.out o10 (by have:=HN.out;omega) xF xF;have hd:=Below.drew (Below.refl (((((W10.setCell ⟨w.heap.size+2,0,none⟩ (.int .i64 v.t)).setCell ⟨w.heap.size+2,1,none⟩ (.int .i64 v.n)).setCell ⟨w.heap.size+2,2,none⟩ (.slice A6 v.s.length c6)).setCell ⟨w.heap.size+2,3,none⟩ (.int .i64 0)).setCell ⟨w.heap.size+2,4,none⟩ (.int .i64 τ.used)).heap.size (((((W10.setCell ⟨w.heap.size+2,0,none⟩ (.int .i64 v.t)).setCell ⟨w.heap.size+2,1,none⟩ (.int .i64 v.n)).setCell ⟨w.heap.size+2,2,none⟩ (.slice A6 v.s.length c6)).setCell ⟨w.heap.size+2,3,none⟩ (.int .i64 0)).setCell ⟨w.heap.size+2,4,none⟩ (.int .i64 τ.used)));have hj10:=hj8.on HS8.out.2.2;have hpj8:∀b,Jb w8 J b->¬Prt.no b:=HXJ▸HS8.out.2.1.pj;have hnp:=fun b (hb:Jb _ J b)=>hpj8 b (zFm (HS8.out.2.2.block J (hj8.jb_lt (.inl rfl)).1) (zFm (jb_o HO.out o10 hj10) (zFm (hd.block J ((jr_o HO.out o10 ho hj10).jb_lt (.inl rfl)).1) hb)))
    exact⟨(mv_o HB7.out (hM'.then HS8.out.2.2) HO.out ho (by omega)).then hd,hnp,_,rfl,⟨A6,c6,rfl,⟨_,rfl,(HSB.out.off ho).on hd,hok5⟩⟩,(jr_o HO.out o10 ho (hj8.on HS8.out.2.2)).on hd⟩⟩
end
section
open Go.RowKit Go.MapKept
variable [Prt]
structure ArgY(n0:Nat)(w:World)(V:Value)(vs:List Va):Prop where
 ex:∃(D:Nat->Prop) (ks:List Value),ks.length=vs.length/\RowF w D vs.length (vasC vs ks) V/\(∀(i:Nat) (v:Va) (k:Value),vs[i]? =some v->ks[i]? =some k->SB w w.heap.size k v.s/\fits v.n)/\∀b,D b->b<w.heap.size/\¬Sq n0 w b/\(b<n0\/Cel w b)
def ArgY.on{V:Value}{vs:List Va}(h:ArgY n0 w V vs)(hb:Below w.heap.size w w'):ArgY n0 w' V vs:=by
 obtain⟨D,ks,h1,h2,h3,h4⟩:=h.ex;have hk:∀b,D b->w'.heap[b]? =w.heap[b]?:=fun b hb'=>hb.block b (h4 b hb').1;refine⟨D,ks,h1,h2.same hk,fun i v k a b=>⟨(h3 i v k a b).1.on hb,(h3 i v k a b).2⟩,fun b hb'=>?_⟩;obtain⟨g1,g2,g3⟩:=h4 b hb';exact⟨aS g1 hb.size,fun h=>g2 ((Sq.same (hk b hb')).1 h),g3.imp id fun⟨cs,T,z,h⟩=>⟨cs,T,z,by rw[hk b hb'];exact h⟩⟩
def ArgY.len{V:Value}{vs:List Va}(h:ArgY n0 w V vs):∃A c,V=.slice A vs.length c:=by
 obtain⟨D,ks,h1,h2,_⟩:=h.ex;exact h2.slice5
def ArgY.x{V:Value}{vs:List Va}(h:ArgY n0 w V vs)(hs:∀v∈vs,v.s.length<=1000000):ArgX n0 w V vs:=by
 obtain⟨D,ks,h1,h2,h3,h4⟩:=h.ex;exact⟨D,ks,h1,h2,fun i v k a b=>⟨(h3 i v k a b).1,(h3 i v k a b).2,hs v (wM a)⟩,h4⟩
def ArgY.gety{V:Value}{vs:List Va}(h:ArgY n0 w V vs){v:Va}(hv:vs[i]? =some v):∃(kb ko c:Nat) (A0:Option Addr) (c0:Nat),V=.slice (some ⟨kb,ko,none⟩) vs.length c/\vs.length<=c/\c<=maxLen /\
  (w.cell? ⟨kb,ko+i*3,none⟩=some (.int .i64 v.t)/\w.cell? ⟨kb,ko+i*3+1,none⟩=some (.int .i64 v.n)/\w.cell? ⟨kb,ko+i*3+2,none⟩=some (.slice A0 v.s.length c0))/\v.s.length<=9223372036854775807:=by
 obtain⟨D,ks,hk,h1,h2,h4⟩:=h.ex;have hi:=(vm.1 hv).1;have hk':ks[i]? =some ks[i]:=vp (by omega);generalize ks[i]=k at hk';have hg:=fun j hj=>ky (f:=vaC) (m:=3) (fun _ _=>rfl) vs ks i j v k hv hk' hj;obtain⟨g0,g1⟩:=h2 i v k hv hk';obtain⟨A0,c0,rfl,l1,l2,_⟩:=id g0
 obtain⟨b,o,c,rfl,a1,a2,a3,a4⟩:=h1.plain5 (by
  intro e0;have:=hg 0 (by omega);unfold vasC at e0;rw[e0]at this
  simp[vaC]at this)
 refine⟨b,o,c,A0,c0,rfl,a1,a2,⟨a4 _ _ ((hg 0 (by omega)).trans rfl),?_,?_⟩,by unfold maxLen at l2;omega⟩
 ·rw[Nat.add_assoc];exact a4 _ _ ((hg 1 (by omega)).trans rfl)
 ·rw[Nat.add_assoc];exact a4 _ _ ((hg 2 (by omega)).trans rfl)
def zD8(n0:Nat)(w:World)(ps:List (List Nat×Int))(vs:List Va)(V P:Value)(hn0:n0<=w.heap.size)(hx:ArgY n0 w V vs)(hp:RowF w (Lo n0) ps.length (xpsC ps) P):Calls prog 43 #[V,P] w fun e w'=>e=.returned (.bool (fitB ps vs))/\Below w.heap.size w w':=by
 obtain⟨AV,cV,rfl⟩:=hx.len;obtain⟨AP,cP,rfl⟩:=hp.slice5;have hpl:ps.length<=9223372036854775807:=hp.len5;go_enter func43,ntmps43;by_cases hl:vs.length=ps.length
 ·have ql:((vs.length:Int)!=(ps.length:Int))=false:=by rw[hl];simp
  have HX:=aQ hx;have HP:=aQ hp;have HST:Hid (FtS n0 w ps vs ps.length (.int .i64 0) w):=⟨0,rfl,rfl,.refl _ _,rfl⟩;have HB:Hid (fitB ps vs=fitL ps vs):=by show _=_;unfold fitB;simp[hl]
  have HL:=aQ hl;clear hx hp hl
  go_wp2_with fail
  go_loopg [14] ps.length (fun k i wr=>FtS n0 w ps vs k i wr)
  case atStart=>exact HST.out
  case round=>
   obtain⟨j,rfl,hk,hb,hf⟩:=hrel;by_cases hlt:j<ps.length
   ·have hlt':(j:Int)<(ps.length:Int):=by omega
    obtain⟨p,hp⟩:∃p,ps[j]? =some p:=⟨_,vp hlt⟩;obtain⟨v,hv⟩:∃v,vs[j]? =some v:=⟨_,vp (by have:=HL.out;omega)⟩;have hlt2:(j:Int)<(vs.length:Int):=by have:=HL.out;omega
    obtain⟨pb,po,pc,hsl,p1,p2,q1,q2⟩:=(HP.out.same (xj hb hn0)).param hp;injection hsl with hA _ hcc
    subst hA hcc;obtain⟨kb,ko,ac,A0,c0,hsl2,p3,p4,⟨a1,a2,a3⟩,hok⟩:=(HX.out.on hb).gety hv;injection hsl2 with hA2 _ hcc2
    subst hA2 hcc2;have BP:Below wr.heap.size wr (wr.alloc (.cells #[.string (strN p.1),.int .i64 p.2] 87)).drew:=(za _ _).drew;have KF:=fun w'=>zuc v p.2 A0 c0 w' (by omega);have HC:Hid (∀w',Below (wr.alloc (.cells #[.string (strN p.1),.int .i64 p.2] 87)).drew.heap.size (wr.alloc (.cells #[.string (strN p.1),.int .i64 p.2] 87)).drew w'->w'.cell? ⟨wr.heap.size,1,none⟩=some (.int .i64 p.2)/\w'.cell? ⟨kb,ko+j*3,none⟩=some (.int .i64 v.t)/\w'.cell? ⟨kb,ko+j*3+1,none⟩=some (.int .i64 v.n)/\w'.cell? ⟨kb,ko+j*3+2,none⟩=some (.slice A0 v.s.length c0)):=fun w' h=>by
     have hn':w'.heap[wr.heap.size]? =some (.cells #[.string (strN p.1),.int .i64 p.2] 87 (0,0)):=zg h (ye wr _) (by simp);have hk':=BP.trans (h.mono BP.size);exact⟨zZ (cs:=[.string (strN p.1),.int .i64 p.2]) hn' 1 _ rfl,zb a1 hk',zb a2 hk',zb a3 hk'⟩
    have HG:=aQ (And.intro hk (And.intro hb (And.intro hf (And.intro hp hv))));have HBP:=aQ BP;have KFF:=aQ KF;clear hk hb hf hp hv BP a1 a2 a3 KF hok;(go_upto_region 6 with fail);clear q1 q2
    go_region_held2 (fun w'=>w'.cell? ⟨wr.heap.size,1,none⟩=some (.int .i64 p.2)/\w'.cell? ⟨kb,ko+j*3,none⟩=some (.int .i64 v.t)/\w'.cell? ⟨kb,ko+j*3+1,none⟩=some (.int .i64 v.n)/\w'.cell? ⟨kb,ko+j*3+2,none⟩=some (.slice A0 v.s.length c0))
     (first|(with_reducible exact HC.out _ (.refl _ _))|(with_reducible exact HC.out _ h3))
     (first|(go_at_call 78;with_reducible refine(KFF.out (wr.alloc (.cells #[.string (strN p.1),.int .i64 p.2] 87)).drew).mono ?_;rintro e w3 ⟨rfl,h3⟩))
    have hb3:=HG.out.2.1.trans ((HBP.out.trans (h3.mono HBP.out.size)).mono HG.out.2.1.size);by_cases hff:jg p.2 v=true
    ·rw[hff];have HB3:=aQ hb3;have HN3:Hid (fitL ps vs=fitL (ps.drop (j+1)) (vs.drop (j+1))):=by
      show _=_;rw[HG.out.2.2.1,xw HG.out.2.2.2.1,xw HG.out.2.2.2.2]
      conv=>lhs;unfold fitL
      rw[hff];rfl
     clear h3 hb3 hff
     go_wp2_with fail
     go_roundg (ps.length-(j+1))
     case measure=>have:=HG.out.1;omega
     case rel=>exact⟨j+1,by simp,by have:=HG.out.1;omega,HB3.out,HN3.out⟩
    ·have hff':jg p.2 v=false:=by simpa using hff
     rw[hff'];have HB3:=aQ hb3;have HN3:Hid (fitB ps vs=false):=by
      show _=_;rw[HB.out,HG.out.2.2.1];exact ziw HG.out.2.2.2.1 HG.out.2.2.2.2 hff'
     clear h3 hb3 hff hff'
     (go_wp2_with fail);go_ret;exact⟨by rw[HN3.out];rfl,HB3.out⟩
   ·have hj:j=ps.length:=by omega
    have hnlt:¬(j:Int)<(ps.length:Int):=by omega
    have HN3:Hid (fitB ps vs=true):=by
     show _=_;rw[HB.out,hf,hj,List.drop_length];rfl
    have HB3:=aQ hb;clear hk hb hf hj hlt
    (go_wp2_with fail);go_ret;exact⟨by rw[HN3.out];rfl,HB3.out⟩
 ·have ql:((vs.length:Int)!=(ps.length:Int))=true:=by
   have:(vs.length:Int)≠(ps.length:Int):=by omega
   simpa using this
  have HR:Hid (fitB ps vs=false):=by
   show _=_;unfold fitB;have:(vs.length==ps.length)=false:=by rw[yI];exact hl
   rw[this];rfl
  clear hl hx hp
  (go_wp2_with fail);go_ret;exact⟨by rw[HR.out];rfl,.refl _ _⟩
end
section
open Go.RowKit Go.MapKept
variable [Prt]
def zCh(n0:Nat)(w:World)(J:Nat)(fs:List Xf)(ks:List Two)(A:Option Addr)(c:Nat)(name:List Nat)(V:Value)(vs:List Va)(limit:Int)(f:Xf)
  (hn:n0<=w.heap.size) (hp:kD fs=none) (hx:XfsC w (Lo n0) fs ks (.slice A fs.length c)) (hy:Byn name) (ha:ArgY n0 w V vs) (hf:xT fs name=some f) (hfit:fitB f.params vs=false) :
  Calls prog 19 #[.agg #[.slice A fs.length c],.string (strN name),V,.pointer (some ⟨J,0,none⟩),.int .i64 limit] w fun e w'=>e=.returned (.agg #[.int .i64 0,.int .i64 0,.slice none 0 0,.int .i64 7,.int .i64 0])/\Below w.heap.size w w':=by
 have H3:=zic w (.cells #[.slice A fs.length c] 26) (.cells #[.pointer (some ⟨J,0,none⟩)] 35) (oC 0 0 (.slice none 0 0) 0 0);obtain⟨w0,hw0⟩:∃w0,((w.alloc (.cells #[.slice A fs.length c] 26)).alloc (.cells #[.pointer (some ⟨J,0,none⟩)] 35)).alloc (oC 0 0 (.slice none 0 0) 0 0)=w0:=⟨_,rfl⟩;rw[hw0]at H3;have HW0:=aQ hw0;have HN:=aQ hn;have HH:=aQ H3;have HA:=aQ ha;have HX:=aQ (hx.same (xj H3.s hn));have HXw:=aQ hx;have K:=aQ (zh8 fs ks A c w0 n0 (by have:=H3.z;omega) HX.out hp);have HP:=aQ (And.intro hy (And.intro hf hfit));have a0:w0.cell? ⟨w.heap.size,0,none⟩=some (.slice A fs.length c):=by simp[World.cell?,H3.a]
 clear ha hx hp hy hf hfit H3 hw0
 go_enter_defers func19,ntmps19
 go_upto_region 1 with fail
 rw[HW0.out]
 go_wp2_with fail
 (with_reducible refine K.out.mono ?_)
 rintro e w1⟨rfl,hm1,hb1⟩;have h1n:n0<=w1.heap.size:=by have:=hb1.size;have:=HH.out.z;have:=HN.out;omega
 obtain⟨k,A1,A2,c1,c2,ek1,ek2,hxfw,hlk⟩:∃(k:Two) (A1 A2:Option Addr) (c1 c2:Nat),k.p=.slice A1 f.params.length c1/\k.b=.slice A2 f.body.length c2/\XfK w (Lo n0) f k/\(Instr.lookup 96 (.map (some (w0.heap.size+1))) (.string (strN name)) true).run prog w1=.ok (.tuple #[.agg #[.string (strN f.name),.slice A1 f.params.length c1,.int .i64 f.result,.slice A2 f.body.length c2,.int .i64 f.aW],.bool true]) w1:=by
  have hx1:=HX.out.same (xj hb1 (by have:=HH.out.z;have:=HN.out;omega));have hrun:=jH hm1 HP.out.1 underlying96 (zo6 w1);have hfind:fs.find? (fun f=>f.name==name)=some f:=HP.out.2.1;rcases vP name fs ks hx1.1 with⟨g1,_⟩|⟨i,f',k,g1,g2,g3,g4⟩
  ·rw[hfind]at g1;cases g1
  ·rw[hfind]at g3;injection g3 with g3
   subst g3;have hxf:=HXw.out.2.2 i f k g1 g2;obtain⟨A1,c1,e1⟩:=hxf.params.slice5;obtain⟨A2,c2,e2⟩:=zt hxf.body;refine⟨k,A1,A2,c1,c2,e1,e2,hxf,?_⟩;rw[hrun,g4];unfold xfC;rw[e1,e2];rfl
 have hxf:=hxfw.same (xj (HH.out.s.trans (hb1.mono (by have:=HH.out.z;omega))) hn);clear hxfw;have B2:=za w1 (.cells #[.string (strN f.name),.slice A1 f.params.length c1,.int .i64 f.result,.slice A2 f.body.length c2,.int .i64 f.aW] 69);obtain⟨x0,x1,x2,x3,x4⟩:=znn (ye w1 (.cells #[.string (strN f.name),.slice A1 f.params.length c1,.int .i64 f.result,.slice A2 f.body.length c2,.int .i64 f.aW] 69));have HB2:=aQ (HH.out.s.trans (zd hb1 B2 hb1.size |>.mono (by have:=HH.out.z;omega)))
 have HHA:Hid ((w1.alloc (.cells #[.string (strN f.name),.slice A1 f.params.length c1,.int .i64 f.result,.slice A2 f.body.length c2,.int .i64 f.aW] 69)).heap[w.heap.size+1]? =some (.cells #[.pointer (some ⟨J,0,none⟩)] 35 (0,0))/\(w1.alloc (.cells #[.string (strN f.name),.slice A1 f.params.length c1,.int .i64 f.result,.slice A2 f.body.length c2,.int .i64 f.aW] 69)).heap[w.heap.size+2]? =some (oC 0 0 (.slice none 0 0) 0 0)):=
  ⟨zg B2 (zg hb1 HH.out.b (by have:=HH.out.z;omega)) (by have:=hb1.size;have:=HH.out.z;omega),zg B2 (zg hb1 HH.out.c (by have:=HH.out.z;omega)) (by have:=hb1.size;have:=HH.out.z;omega)⟩
 have HXF:=aQ (hxf.same (xj B2 h1n));have hpx:=HXF.out.params;rw[ek1]at hpx;have HPX:=aQ hpx;clear hpx;have y1:(w1.alloc (.cells #[.string (strN f.name),.slice A1 f.params.length c1,.int .i64 f.result,.slice A2 f.body.length c2,.int .i64 f.aW] 69)).cell? ⟨w.heap.size+1,0,none⟩=some (.pointer (some ⟨J,0,none⟩)):=by simp[World.cell?,HHA.out.1]
 clear hm1 hb1 hxf ek1 ek2 B2 K a0;go_upto_region 3 with fail
 clear hlk
 generalize w1.alloc (.cells #[.string (strN f.name),.slice A1 f.params.length c1,.int .i64 f.result,.slice A2 f.body.length c2,.int .i64 f.aW] 69)=w2 at *
 obtain⟨AV,cV,rfl⟩:=HA.out.len;have KF:=aQ (zD8 n0 w2 f.params vs (.slice AV vs.length cV) (.slice A1 f.params.length c1) (by have:=HB2.out.size;have:=HN.out;omega) (HA.out.on HB2.out) HPX.out)
 go_wp2_with fail
 (with_reducible refine KF.out.mono ?_)
 rintro e w3⟨rfl,hb3⟩;rw[HP.out.2.2];have HB3:=aQ (HB2.out.trans (hb3.mono HB2.out.size));have o3:=zg hb3 HHA.out.2 (aU.1 HHA.out.2).1;have HO:=aQ o3;have hlt:=(aU.1 o3).1;have host:=zha (w:=w3) (d:=w.heap.size+1+1) o3 0 0 (.slice none 0 0) 7 0;obtain⟨⟨d1,d2,d3,d4,d5⟩,f1,f2,f3,f4,f5⟩:=xi (w:=w3) (d:=w.heap.size+1+1) o3;have HOS:=aQ host;clear KF hb3 x0 x1 x2 x3 x4 y1 HB2 HHA HXF HPX o3 host;dsimp only
 go_wp2_with fail
 have hd:w.heap.size<=w.heap.size+1+1:=by omega
 exact⟨_,zU (cs:=[.int .i64 0,.int .i64 0,.slice none 0 0,.int .i64 7,.int .i64 0]) results19 underlying44 rfl zk9 _ _ (w.heap.size+1+1) rfl (zZ HOS.out.here),rfl,((((HB3.out.setCell hd _).setCell hd _).setCell hd _).setCell hd _).setCell hd _⟩
def zCv(n0:Nat)(w:World)(J:Nat)(fs:List Xf)(ks:List Two)(A:Option Addr)(c:Nat)(name:List Nat)(V:Value)(vs:List Va)(limit:Int)
  (hn:n0<=w.heap.size) (hp:kD fs=none) (hx:XfsC w (Lo n0) fs ks (.slice A fs.length c)) (hy:Byn name) (hf:xT fs name=none) :
  Calls prog 19 #[.agg #[.slice A fs.length c],.string (strN name),V,.pointer (some ⟨J,0,none⟩),.int .i64 limit] w fun e w'=>e=.returned (.agg #[.int .i64 0,.int .i64 0,.slice none 0 0,.int .i64 7,.int .i64 0])/\Below w.heap.size w w':=by
 have H3:=zic w (.cells #[.slice A fs.length c] 26) (.cells #[.pointer (some ⟨J,0,none⟩)] 35) (oC 0 0 (.slice none 0 0) 0 0);obtain⟨w0,hw0⟩:∃w0,((w.alloc (.cells #[.slice A fs.length c] 26)).alloc (.cells #[.pointer (some ⟨J,0,none⟩)] 35)).alloc (oC 0 0 (.slice none 0 0) 0 0)=w0:=⟨_,rfl⟩;rw[hw0]at H3;have HW0:=aQ hw0;have HN:=aQ hn;have HH:=aQ H3;have HX:=aQ (hx.same (xj H3.s hn));have HXw:=aQ hx;have K:=aQ (zh8 fs ks A c w0 n0 (by have:=H3.z;omega) HX.out hp);have HP:=aQ (And.intro hy hf);have a0:w0.cell? ⟨w.heap.size,0,none⟩=some (.slice A fs.length c):=by simp[World.cell?,H3.a]
 clear hx hp hy hf H3 hw0
 go_enter_defers func19,ntmps19
 go_upto_region 1 with fail
 rw[HW0.out]
 go_wp2_with fail
 (with_reducible refine K.out.mono ?_)
 rintro e w1⟨rfl,hm1,hb1⟩;have h1n:n0<=w1.heap.size:=by have:=hb1.size;have:=HH.out.z;have:=HN.out;omega
 have hlk:(Instr.lookup 96 (.map (some (w0.heap.size+1))) (.string (strN name)) true).run prog w1=.ok (.tuple #[.agg #[.string (strN []),.slice none 0 0,.int .i64 0,.slice none 0 0,.int .i64 0],.bool false]) w1:=by
  have hx1:=HX.out.same (xj hb1 (by have:=HH.out.z;have:=HN.out;omega));have hrun:=jH hm1 HP.out.1 underlying96 (zo6 w1);have hfind:fs.find? (fun f=>f.name==name)=none:=HP.out.2;rcases vP name fs ks hx1.1 with⟨_,g1⟩|⟨i,f',k,g1,g2,g3,g4⟩
  ·rw[hrun,g1];rfl
  ·rw[hfind]at g3;cases g3
 have B2:=za w1 (.cells #[.string (strN []),.slice none 0 0,.int .i64 0,.slice none 0 0,.int .i64 0] 69);have HB2:=aQ (HH.out.s.trans (zd hb1 B2 hb1.size |>.mono (by have:=HH.out.z;omega)));have o3:=zg B2 (zg hb1 HH.out.c (by have:=HH.out.z;omega)) (by have:=hb1.size;have:=HH.out.z;omega);have y0:=zg B2 (zg hb1 HH.out.b (by have:=HH.out.z;omega)) (by have:=hb1.size;have:=HH.out.z;omega);have y1:(w1.alloc (.cells #[.string (strN []),.slice none 0 0,.int .i64 0,.slice none 0 0,.int .i64 0] 69)).cell? ⟨w.heap.size+1,0,none⟩=some (.pointer (some ⟨J,0,none⟩)):=by simp[World.cell?,y0]
 clear hm1 hb1 B2 K a0 y0;go_upto_region 3 with fail
 clear hlk
 generalize w1.alloc (.cells #[.string (strN []),.slice none 0 0,.int .i64 0,.slice none 0 0,.int .i64 0] 69)=w2 at *
 have host:=zha (w:=w2) (d:=w.heap.size+1+1) o3 0 0 (.slice none 0 0) 7 0;obtain⟨⟨d1,d2,d3,d4,d5⟩,f1,f2,f3,f4,f5⟩:=xi (w:=w2) (d:=w.heap.size+1+1) o3;have HOS:=aQ host;clear o3 host
 go_wp2_with fail
 have hd:w.heap.size<=w.heap.size+1+1:=by omega
 exact⟨_,zU (cs:=[.int .i64 0,.int .i64 0,.slice none 0 0,.int .i64 7,.int .i64 0]) results19 underlying44 rfl zk9 _ _ (w.heap.size+1+1) rfl (zZ HOS.out.here),rfl,((((HB2.out.setCell hd _).setCell hd _).setCell hd _).setCell hd _).setCell hd _⟩
end
section
open Go.RowKit Go.MapKept
variable [Prt]
structure Lw(n0:Nat)(fs:List Xf)(ks:List Two)(A:Option Addr)(c:Nat)(J:Nat)(hs:List (List PR))(cur:List PR)(w:World):Prop where
 hn:n0<=w.heap.size
 jr:Jr n0 w J hs cur
 prog:XfsC w (Lo n0) fs ks (.slice A fs.length c)
def Lw.on{fs:List Xf}{ks:List Two}{c J:Nat}{hs:List (List PR)}{cur:List PR}(h:Lw n0 fs ks A c J hs cur w)(hb:Below w.heap.size w w'):Lw n0 fs ks A c J hs cur w':=
 ⟨aT h.hn hb.size,h.jr.on hb,h.prog.same (xj hb h.hn)⟩
def Lw.mv{fs:List Xf}{ks:List Two}{c J J':Nat}{hs hs':List (List PR)}{cur cur':List PR}(h:Lw n0 fs ks A c J hs cur w)(hm:Mv n0 NoM w w')(hj:Jr n0 w' J' hs' cur'):Lw n0 fs ks A c J' hs' cur' w':=
 ⟨aT h.hn hm.size,hj,h.prog.same (vL (hm.low h.hn))⟩
def zgn{vs:List Va}{ks:List Value}(h:w.heap[g]? =some (.cells (vasC vs ks).toArray 41 (0,0)))(hk:ks.length=vs.length)(hl:vs.length<=100)(hv:∀(i:Nat) (v:Va) (k:Value),vs[i]? =some v->ks[i]? =some k->SB w w.heap.size k v.s/\Vok v):ArgX n0 w (.slice (some ⟨g,0,none⟩) vs.length vs.length) vs:=by
 have hg:=(aU.1 h).1;refine⟨(· =g),ks,hk,⟨_,_,rfl,aR _,by unfold maxLen;omega,(fun e=>by cases e),fun j u hu=>⟨_,rfl,rfl,?_⟩⟩,hv,fun b hb=>?_⟩
 ·have:=zZ h j u (by simpa using hu);rw[Nat.zero_add]at this;rw[Addr.add_lit,Nat.zero_add];exact this
 ·obtain rfl:b=g:=hb;exact⟨hg,jX h (by decide),.inr ⟨_,_,_,h⟩⟩
def yr{n:Int}(h:-9223372036854775808<=n/\n<=9223372036854775807):Vok (intV n):=⟨h,by simp[intV]⟩
def zmi{fs:List Xf}{ks:List Two}{c J:Nat}{hs:List (List PR)}{cur:List PR}(h:Lw n0 fs ks A c J hs cur w)(hpj:∀b,Jb w J b->¬Prt.no b)(hpt:∀b,Prt.no b->b<w.heap.size)(hl:(hs.length:Int)*4<=90000)(hp:kD fs=none)(hsh:∀f∈fs,shB f.body=true)
  (name:List Nat) (hy:Byn name) (V:Value) (vs:List Va) (ha:ArgX n0 w V vs) (f:Xf) (hf:xT fs name=some f) (hfit:fitB f.params vs=true) (limit:Int) (r:Ou Va) (hr:vg (newL limit) (xT fs) f vs { used:=0,hs:=hs,cur:=cur } r) :
  Calls prog 19 #[.agg #[.slice A fs.length c],.string (strN name),V,.pointer (some ⟨J,0,none⟩),.int .i64 limit] w (RunO n0 J w { used:=0,hs:=hs,cur:=cur } r):=
 zlx n0 w J hs cur fs ks A c name V vs limit f r h.hn h.jr hpj hpt hl hp hsh h.prog hy ha hf hfit hr
def yy{fs:List Xf}{ks:List Two}{c J:Nat}{hs:List (List PR)}{cur:List PR}(h:Lw n0 fs ks A c J hs cur w)(hpj:∀b,Jb w J b->¬Prt.no b)(hpt:∀b,Prt.no b->b<w.heap.size)(hl:(hs.length:Int)*4<=90000)(hp:kD fs=none)(hsh:∀f∈fs,shB f.body=true)
  (name:List Nat) (hy:Byn name) (V:Value) (vs:List Va) (ha:ArgX n0 w V vs) (f:Xf) (hf:xT fs name=some f) (hfit:fitB f.params vs=true) (limit t u:Int) (hs':List (List PR)) (cur':List PR) (hr:vg (newL limit) (xT fs) f vs { used:=0,hs:=hs,cur:=cur } (.trap t ⟨u,hs',cur'⟩)) :
  Calls prog 19 #[.agg #[.slice A fs.length c],.string (strN name),V,.pointer (some ⟨J,0,none⟩),.int .i64 limit] w fun e w'=>∃A' c',e=.returned (.agg #[.int .i64 0,.int .i64 0,.slice A' 0 c',.int .i64 t,.int .i64 u])/\Mv n0 NoM w w'/\Jr n0 w' J hs cur:=
 (zmi h hpj hpt hl hp hsh name hy V vs ha f hf hfit limit _ hr).mono fun e w' h=>by
  obtain⟨hm,_,x,rfl,⟨A',c',rfl,hv⟩,hj⟩:=h;exact⟨A',c',rfl,hm,hj⟩
def vU{fs:List Xf}{ks:List Two}{c J:Nat}{hs:List (List PR)}{cur:List PR}(h:Lw n0 fs ks A c J hs cur w)(hpj:∀b,Jb w J b->¬Prt.no b)(hpt:∀b,Prt.no b->b<w.heap.size)(hl:(hs.length:Int)*4<=90000)(hp:kD fs=none)(hsh:∀f∈fs,shB f.body=true)
  (name:List Nat) (hy:Byn name) (V:Value) (vs:List Va) (ha:ArgX n0 w V vs) (f:Xf) (hf:xT fs name=some f) (hfit:fitB f.params vs=true) (limit u:Int) (v:Va) (t n:Int) (s:List Int) (m:Nat) (hv:v=⟨t,n,s⟩) (hm:s.length=m) (hs':List (List PR)) (cur':List PR) (hr:vg (newL limit) (xT fs) f vs { used:=0,hs:=hs,cur:=cur } (.ok v ⟨u,hs',cur'⟩)) :
  Calls prog 19 #[.agg #[.slice A fs.length c],.string (strN name),V,.pointer (some ⟨J,0,none⟩),.int .i64 limit] w fun e w'=>∃A' c',e=.returned (.agg #[.int .i64 t,.int .i64 n,.slice A' m c',.int .i64 0,.int .i64 u])/\Mv n0 NoM w w'/\Jr n0 w' J hs' cur'/\SB w' w'.heap.size (.slice A' m c') s:=
 (zmi h hpj hpt hl hp hsh name hy V vs ha f hf hfit limit _ hr).mono fun e w' h=>by
  subst hv hm;obtain⟨hm,_,x,rfl,⟨A',c',rfl,hv⟩,hj⟩:=h;obtain⟨k,e,hb,_⟩:=hv;injection e with e
  have e:k=.slice A' s.length c':=by
   have:=congrArg (fun a=>a[2]?) e;simpa using this.symm
  subst e;exact⟨A',c',rfl,hm,hj,hb⟩
end
section
open Go.RowKit Go.MapKept
def zDt{t:Int}{v:Va}(h:jg t v=true):TV t v:=by
 unfold jg at h;unfold TV zAy
 split at h
 ·cases h
 ·rename_i h0
  have h0:v.t=t:=by simpa using h0
  refine⟨h0,fun h3=>?_⟩;rw[h0]at h3;rw[if_pos (by simpa using h3)]at h;simp at h;exact h.1
def zCl:∀ {ps:List (List Nat×Int)} {vs:List Va},fitB ps vs=true->TVs (ps.map (·.2)) vs
 | [],[],_=>trivial
 | [],v::vs,h=>by simp[fitB]at h
 | p::ps,[],h=>by simp[fitB]at h
 | p::ps,v::vs,h=>by
  simp only[fitB,fitL,aB,aM,beq_iff_eq]at h;exact⟨zDt h.2.1,zCl (by simp only[fitB,aM,beq_iff_eq];exact⟨by omega,h.2.2⟩)⟩
def zBu{t:Int}{v:Va}(h:jg t v=true):v.s.length<=1000000:=by
 unfold jg at h
 split at h
 ·cases h
 ·split at h
  ·simp at h;omega
  ·simp at h;simp[h]
def zGi:∀ {ps:List (List Nat×Int)} {vs:List Va},fitB ps vs=true->∀v∈vs,v.s.length<=1000000
 | _,[],_=>fun v h=>by cases h
 | [],v::vs,h=>by simp[fitB]at h
 | p::ps,v::vs,h=>by
  simp only[fitB,fitL,aB,aM,beq_iff_eq]at h;intro x hx;rcases aC.1 hx with rfl|hx
  ·exact zBu h.2.1
  ·exact zGi (ps:=ps) (by simp only[fitB,aM,beq_iff_eq];exact⟨by omega,h.2.2⟩) x hx
def RunQ[Prt](n0 J:Nat)(w:World)(v:Va)(t u:Int)(hs:List (List PR))(cur:List PR)(e:Ending)(w':World):Prop:=
 ∃A' c',e=.returned (.agg #[.int .i64 v.t,.int .i64 v.n,.slice A' v.s.length c',.int .i64 t,.int .i64 u])/\Mv n0 NoM w w'/\(∀b,Jb w' J b->¬Prt.no b)/\Jr n0 w' J hs cur/\SB w' w'.heap.size (.slice A' v.s.length c') v.s
def zCp{fs:List Xf}(hp:kD fs=none)(hsh:∀f∈fs,shB f.body=true)(name:List Nat)(hy:Byn name)(vs:List Va)(limit:Int)(cur:List PR):∃(v:Va) (t u:Int) (hs':List (List PR)) (cur':List PR),(0<=u/\u<=newL limit)/\(t≠0->v=qe/\hs'=[]/\cur'=cur) /\
   ∀ [Prt] (n0:Nat) (ks:List Two) (A:Option Addr) (c J:Nat) (w:World) (V:Value),Lw n0 fs ks A c J [] cur w->(∀b,Jb w J b->¬Prt.no b)->(∀b,Prt.no b->b<w.heap.size)->ArgY n0 w V vs ->
    Calls prog 19 #[.agg #[.slice A fs.length c],.string (strN name),V,.pointer (some ⟨J,0,none⟩),.int .i64 limit] w (RunQ n0 J w v t u hs' cur'):=by
 have hn:=zb6 limit;have hno:∀ [Prt] (n0:Nat) (J:Nat) (w w':World) (e:Ending),Jr n0 w J [] cur->(∀b,Jb w J b->¬Prt.no b)->e=.returned (.agg #[.int .i64 0,.int .i64 0,.slice none 0 0,.int .i64 7,.int .i64 0])/\Below w.heap.size w w'->RunQ n0 J w qe 7 0 [] cur e w':=by
  intro iP n0 J w w' e hj hpj h;obtain⟨rfl,hb⟩:=h;exact⟨none,0,rfl,.of hb,fun b h=>hpj b (zFm (hb.block J (hj.jb_lt (.inl rfl)).1) h),hj.on hb,SB.nil _ _⟩
 cases hf:xT fs name with
 | none=>
  refine⟨qe,7,0,[],cur,⟨Int.le_refl _,hn.1⟩,fun _=>⟨rfl,rfl,rfl⟩,fun n0 ks A c J w V hL hpj hpt ha=>?_⟩;exact(zCv n0 w J fs ks A c name V vs limit hL.hn hp hL.prog hy hf).mono fun e w' h=>hno n0 J w w' e hL.jr hpj h
 | some f=>
  by_cases hfit:fitB f.params vs=true
  ·obtain⟨r,hr,_⟩:=zBq (lim:=newL limit) hp hf (zCl hfit) (σ:={ used:=0,hs:=[],cur:=cur }) hn.1;have he:=hr.ends hn.1;rcases r with⟨v,τ⟩|⟨t,τ⟩
   ·have ha:Adv (newL limit) { used:=0,hs:=[],cur:=cur } τ:=he;refine⟨v,0,τ.used,τ.hs,τ.cur,⟨ha.more,ha.most⟩,fun h=>absurd rfl h,fun n0 ks A c J w V hL hpj hpt hx=>?_⟩;refine(zmi hL hpj hpt (by simp) hp hsh name hy V vs (hx.x (zGi hfit)) f hf hfit limit _ hr).mono fun e w' h=>?_;obtain⟨hm,hnp,x,rfl,⟨A',c',rfl,hv⟩,hj⟩:=h;obtain⟨k,e,hb,_⟩:=hv;injection e with e
    have e:k=.slice A' v.s.length c':=by
     have:=congrArg (fun a=>a[2]?) e;simpa using this.symm
    subst e;exact⟨A',c',rfl,hm,hnp,hj,hb⟩
   ·have ha:Adv (newL limit) { used:=0,hs:=[],cur:=cur } τ:=he.1;refine⟨qe,t,τ.used,[],cur,⟨ha.more,ha.most⟩,fun _=>⟨rfl,rfl,rfl⟩,fun n0 ks A c J w V hL hpj hpt hx=>?_⟩;refine(zmi hL hpj hpt (by simp) hp hsh name hy V vs (hx.x (zGi hfit)) f hf hfit limit _ hr).mono fun e w' h=>?_;obtain⟨hm,hnp,x,rfl,⟨A',c',rfl,hv⟩,hj⟩:=h;obtain⟨k,e,hb,_⟩:=hv;injection e with e
    have e:k=.slice A' qe.s.length c':=by
     have:=congrArg (fun a=>a[2]?) e;simpa using this.symm
    subst e;exact⟨A',c',rfl,hm,hnp,hj,hb⟩
  ·refine⟨qe,7,0,[],cur,⟨Int.le_refl _,hn.1⟩,fun _=>⟨rfl,rfl,rfl⟩,fun n0 ks A c J w V hL hpj hpt ha=>?_⟩;exact(zCh n0 w J fs ks A c name V vs limit f hL.hn hp hL.prog hy ha hf (by simpa using hfit)).mono fun e w' h=>hno n0 J w w' e hL.jr hpj h
def Jr.prt[Prt]{n0:Nat}{w w':World}{J:Nat}{hs:List (List PR)}{cur:List PR}(h:Jr n0 w J hs cur)(hm:Mv n0 NoM w w')(hp:∀b,Jb w J b->Prt.no b):Jr n0 w' J hs cur/\∀b,Jb w' J b->Jb w J b:=by
 have hk:∀b,Jb w J b->w'.heap[b]? =w.heap[b]?:=fun b hb=>hm.keep b (h.jb_lt hb).1 (zEb (hp b hb)) fun h=>absurd h (by intro h;exact h);exact⟨h.off hm.off hk,fun b hb=>zFm (hk J (.inl rfl)) hb⟩
def zDh(t m trap used:Int)(A B:Option Addr)(l:List Int)(n c d:Nat)(hn:l.length=n)(w:World)(hA:SB w w.heap.size (.slice A n c) l)(hB:SB w w.heap.size (.slice B n d) l):Calls prog 21 #[.agg #[.int .i64 t,.int .i64 m,.slice A n c,.int .i64 trap,.int .i64 used],.agg #[.int .i64 t,.int .i64 m,.slice B n d,.int .i64 trap,.int .i64 used]] w fun e w'=>e=.returned (.bool true)/\Below w.heap.size w w':=by
 have K:Hid (∀w',Below w.heap.size w w'->Calls prog 28 #[.agg #[.int .i64 t,.int .i64 m,.slice A n c],.agg #[.int .i64 t,.int .i64 m,.slice B n d]] w' fun e w''=>e=.returned (.bool true)/\Below w'.heap.size w' w''):=fun w' hb=>by
  obtain⟨A1,c1,e1,_,_,g1,_⟩:=hA.on hb;obtain⟨A2,c2,e2,_,_,g2,_⟩:=hB.on hb;injection e1 with e1 _ e3
  injection e2 with e2 _ e4
  subst e1 e2 e3 e4;exact zx9 t m A B l n c d hn w' g1 g2
 haveI:Prt:=⟨fun _=>False⟩
 have B1:=za w (oC t m (.slice A n c) trap used);have B2:=za (w.alloc (oC t m (.slice A n c) trap used)) (oC t m (.slice B n d) trap used);have HB:=aQ (zd B1 B2 B1.size);have H1:=aQ (zg B2 (ye w (oC t m (.slice A n c) trap used)) (by simp));have H2:=aQ (kN w (oC t m (.slice A n c) trap used) (oC t m (.slice B n d) trap used));clear B1 B2 hA hB;unfold oC at HB H1 H2;go_enter func21,ntmps21
 go_wp2_with fail
 refine(K.out _ HB.out).mono ?_;rintro e w' ⟨rfl,hb⟩;have HB3:=aQ (zd HB.out hb HB.out.size);obtain⟨⟨d1,d2,d3,d4,d5⟩,_⟩:=xi (zg hb H1.out (aU.1 H1.out).1);obtain⟨⟨f1,f2,f3,f4,f5⟩,_⟩:=xi (zg hb H2.out (aU.1 H2.out).1);clear hb HB H1 H2 K
 go_wp2_with fail
 all_goals
  go_ret;exact⟨by simp,HB3.out⟩
end
end Go.Proofs.YtcilgkdnjgmogaaGreatDoor
