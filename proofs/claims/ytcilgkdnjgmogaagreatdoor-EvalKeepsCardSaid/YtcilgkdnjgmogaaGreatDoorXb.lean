/- A part of the proof. -/
import Derived.Deep.RegionHeld3
import Derived.Test.YtcilgkdnjgmogaaGreatDoorXa
import Derived.Laws.Append
namespace Go.Proofs.YtcilgkdnjgmogaaGreatDoor
set_option maxRecDepth 100000
set_option maxHeartbeats 12800000
set_option linter.all false
variable {A:Option Addr} {B c' d g n0:Nat} {w w' w1 w2:World}
section
open Go.RowKit Go.MapKept
variable [Prt]
def OutV (w:World) (t used:Int) (v:Va) (x:Value):Prop:=∃ A cp,x =.agg #[.int .i64 v.t,.int .i64 v.n,.slice A v.s.length cp,.int .i64 t,.int .i64 used]/\VaC w v (VV v.t v.n (.slice A v.s.length cp))
def RunO (n0 J:Nat) (w:World) (σ:Stt) (r:Ou Va) (e:Ending) (w':World):Prop:=
 Mv n0 NoM w w'/\∃ x,e =.returned x/\match r with
  | .ok v τ=>OutV w' 0 τ.used v x/\Jr n0 w' J τ.hs τ.cur
  | .trap t τ=>OutV w' t τ.used qe x/\Jr n0 w' J σ.hs σ.cur
theorem kN (w:World) (a b:Obj):((w.alloc a).alloc b).heap[w.heap.size+1]? =some b:=by
 have s1:(w.alloc a).heap.size =w.heap.size+1:=by simp
 rw [<- s1];exact heap_alloc_new _ b
theorem zb6 (n:Int):0<=newL n/\newL n<=100000:=by
 unfold newL up;omega
theorem zqe {hs hs':List (List PR)} {cur cur':List PR} (h:(hs++[cur]) <+: (hs'++[cur'])):hs.length<=hs'.length/\(hs'++[cur'])[hs.length]? =some cur/\hs'.take hs.length =hs:=by
 obtain ⟨t,ht⟩:=h;have hl:hs.length<=hs'.length:=by
  have:=congrArg List.length ht;simp at this;omega
 refine ⟨hl,?_,?_⟩
 ·rw [<- ht]
  simp
 ·have h2:=congrArg (List.take hs.length) ht
  rw [List.append_assoc,List.take_left',List.take_append_of_le_length hl] at h2
  ·exact h2.symm
  ·rfl
theorem zt9 {t n trap used t0 n1 p0 u0:Int} {k k0:Value} (h:OSt d (oC t n k trap used) w w') (hw:w.heap[d]? =some (oC t0 n1 k0 p0 u0)) (hn:n0<=d) (hk:∀ y,k≠.int .u8 y) (hk0:∀ y,k0≠.int .u8 y):Off n0 w w':=by
 have hN:∀ (t n:Int) (k:Value) (p u:Int),(∀ y,k≠.int .u8 y)->NoI #[.int .i64 t,.int .i64 n,k,.int .i64 p,.int .i64 u]:=by
  intro t n k p u hk x hx _ y e;simp at hx;rcases hx with rfl|rfl|rfl|rfl|rfl
  ·cases e
  ·cases e
  ·exact hk y e
  ·cases e
  ·cases e
 exact Off.grown ⟨h.os,h.tape,h.output,by rw [h.size];exact zzA0 _,fun b _ hb=>h.far b fun e=>hb (by rw [e])⟩ ⟨hn,_,44,_,hw,.inr (.inr (.inr (.inr (.inr (.inr rfl))))),hN _ _ _ _ _ hk0⟩ ⟨hn,_,44,_,h.here,.inr (.inr (.inr (.inr (.inr (.inr rfl))))),hN _ _ _ _ _ hk⟩
theorem jr_o {n0 d J:Nat} {t n trap used t0 n1 p0 u0:Int} {k k0:Value} {hs:List (List PR)} {cur:List PR} (h:OSt d (oC t n k trap used) w w') (hw:w.heap[d]? =some (oC t0 n1 k0 p0 u0)) (ho:Off n0 w w') (hj:Jr n0 w J hs cur):Jr n0 w' J hs cur:=
 hj.off ho fun b hb=>h.far b (by
  obtain ⟨cs,T,z,g1,g2⟩:=hj.jb_tag hb
  exact jV g1 hw (by rcases g2 with rfl|rfl <;> decide))
theorem mv_o {w w1 w2 w3:World} {t n trap used:Int} {k:Value} (hb:Below w.heap.size w w1) (hm:Mv n0 NoM w1 w2) (h:OSt d (oC t n k trap used) w2 w3) (ho:Off n0 w2 w3) (hd:w.heap.size<=d):Mv n0 NoM w w3:=
 ⟨((Off.of hb).trans hm.off).trans ho,fun b hlt hs hM=>(h.far b (by omega)).trans (((Mv.of hb).trans hm).keep b hlt hs hM)⟩
theorem zk9:(Tryz.prog.info? 44).map (·.size) =some 5:=by kernel_rfl
structure zsz (w:World) (a b c:Obj) (w0:World):Prop where
 a:w0.heap[w.heap.size]? =some a
 b:w0.heap[w.heap.size+1]? =some b
 c:w0.heap[w.heap.size+2]? =some c
 s:Below w.heap.size w w0
 z:w0.heap.size =w.heap.size+3
theorem zic (w:World) (a b c:Obj):zsz w a b c (((w.alloc a).alloc b).alloc c):=by
 have h1:=za w a;have h2:=za (w.alloc a) b;have h3:=za ((w.alloc a).alloc b) c;have s1:(w.alloc a).heap.size =w.heap.size+1:=by simp
 have s2:((w.alloc a).alloc b).heap.size =w.heap.size+2:=by simp
 have s3:(((w.alloc a).alloc b).alloc c).heap.size =w.heap.size+3:=by simp
 refine ⟨?_,?_,?_,(h1.trans (h2.mono h1.size)).trans (h3.mono (by omega)),s3⟩
 ·rw [h3.block _ (by omega),h2.block _ (by omega)];exact heap_alloc_new w a
 ·rw [h3.block _ (by omega),<- s1];exact heap_alloc_new _ b
 ·rw [<- s2];exact heap_alloc_new _ c
theorem zlx (n0:Nat) (w:World) (J:Nat) (hs:List (List PR)) (cur:List PR) (fs:List Xf) (ks:List Two) (A:Option Addr) (c:Nat) (name:List Nat) (V:Value) (vs:List Va) (limit:Int) (f:Xf) (r:Ou Va)
  (hn:n0<=w.heap.size) (hj:Jr n0 w J hs cur) (hpj:∀ b,Jb w J b->¬ Prt.no b) (hpt:∀ b,Prt.no b->b < w.heap.size) (hl:(hs.length:Int)*4<=90000) (hp:kD fs =none) (hsh:∀ f∈fs,shB f.body =true) (hx:XfsC w (Lo n0) fs ks (.slice A fs.length c)) (hy:Byn name) (ha:ArgX n0 w V vs) (hf:xT fs name =some f) (hfit:fitB f.params vs =true) (hr:vg (newL limit) (xT fs) f vs { used:=0,hs:=hs,cur:=cur } r) :
  Calls Tryz.prog 19 #[.agg #[.slice A fs.length c],.string (strN name),V,.pointer (some ⟨J,0,none⟩),.int .i64 limit] w (RunO n0 J w { used:=0,hs:=hs,cur:=cur } r):=by
 have hmf:∀ (fn:Fn) (first cap:Array Value) (w:World),(Instr.makeFunc fn first cap).run Tryz.prog w =.ok (.func fn first cap) w:=fun _ _ _ _=>rfl;have H3:=zic w (.cells #[.slice A fs.length c] 26) (.cells #[.pointer (some ⟨J,0,none⟩)] 35) (oC 0 0 (.slice none 0 0) 0 0);obtain ⟨w0,hw0⟩:∃ w0,((w.alloc (.cells #[.slice A fs.length c] 26)).alloc (.cells #[.pointer (some ⟨J,0,none⟩)] 35)).alloc (oC 0 0 (.slice none 0 0) 0 0) =w0:=⟨_,rfl⟩;rw [hw0] at H3;have HW0:=zz9 hw0;have HN:=zz9 hn;have HPR:=zz9 (And.intro hpj hpt);have HH:=zz9 H3;have HJ:=zz9 hj;have HA:=zz9 ha;have HX:=zz9 (hx.same (xj H3.s hn));have HXw:=zz9 hx;have K:=zz9 (zh8 fs ks A c w0 n0 (by have:=H3.z;omega) HX.out hp);have HP:=zz9 (And.intro hl (And.intro hsh (And.intro hy (And.intro hf (And.intro hfit hr)))));have a0:w0.cell? ⟨w.heap.size,0,none⟩ =some (.slice A fs.length c):=by simp [World.cell?,H3.a]
 clear hj ha hx hl hp hsh hy hf hfit hr H3 hw0 hpj hpt
 go_enter_defers Tryz.func19,Tryz.ntmps19
 go_upto_region 1 with fail
 rw [HW0.out]
 go_wp2_with fail
 (with_reducible refine K.out.mono ?_)
 rintro e w1 ⟨rfl,hm1,hb1⟩;have h1n:n0<=w1.heap.size:=by have:=hb1.size;have:=HH.out.z;have:=HN.out;omega
 obtain ⟨k,A1,A2,c1,c2,ek1,ek2,hxfw,hlk⟩:∃ (k:Two) (A1 A2:Option Addr) (c1 c2:Nat),k.p =.slice A1 f.params.length c1/\k.b =.slice A2 f.body.length c2/\XfK w (Lo n0) f k/\(Instr.lookup 96 (.map (some (w0.heap.size+1))) (.string (strN name)) true).run Tryz.prog w1 =.ok (.tuple #[.agg #[.string (strN f.name),.slice A1 f.params.length c1,.int .i64 f.result,.slice A2 f.body.length c2,.int .i64 f.place],.bool true]) w1:=by
  have hx1:=HX.out.same (xj hb1 (by have:=HH.out.z;have:=HN.out;omega));have hrun:=jH hm1 HP.out.2.2.1 Tryz.underlying96 (zo6 w1);have hfind:fs.find? (fun f=>f.name == name) =some f:=HP.out.2.2.2.1;rcases vP name fs ks hx1.1 with ⟨g1,_⟩|⟨i,f',k,g1,g2,g3,g4⟩
  ·rw [hfind] at g1;cases g1
  ·rw [hfind] at g3
   injection g3 with g3
   subst g3;have hxf:=HXw.out.2.2 i f k g1 g2;obtain ⟨A1,c1,e1⟩:=hxf.params.slice5;obtain ⟨A2,c2,e2⟩:=zt hxf.body;refine ⟨k,A1,A2,c1,c2,e1,e2,hxf,?_⟩;rw [hrun,g4];unfold xfC;rw [e1,e2];rfl
 have hxf:=hxfw.same (xj (HH.out.s.trans (hb1.mono (by have:=HH.out.z;omega))) hn);have HFK:=zz9 hxfw;clear hxfw;have B2:=za w1 (.cells #[.string (strN f.name),.slice A1 f.params.length c1,.int .i64 f.result,.slice A2 f.body.length c2,.int .i64 f.place] 69);obtain ⟨x0,x1,x2,x3,x4⟩:=znn (heap_alloc_new w1 (.cells #[.string (strN f.name),.slice A1 f.params.length c1,.int .i64 f.result,.slice A2 f.body.length c2,.int .i64 f.place] 69));have HB2:=zz9 (HH.out.s.trans (zd hb1 B2 hb1.size |>.mono (by have:=HH.out.z;omega)))
 have HHA:Hid ((w1.alloc (.cells #[.string (strN f.name),.slice A1 f.params.length c1,.int .i64 f.result,.slice A2 f.body.length c2,.int .i64 f.place] 69)).heap[w.heap.size+1]? =some (.cells #[.pointer (some ⟨J,0,none⟩)] 35 (0,0))/\(w1.alloc (.cells #[.string (strN f.name),.slice A1 f.params.length c1,.int .i64 f.result,.slice A2 f.body.length c2,.int .i64 f.place] 69)).heap[w.heap.size+2]? =some (oC 0 0 (.slice none 0 0) 0 0)):=
  ⟨zg B2 (zg hb1 HH.out.b (by have:=HH.out.z;omega)) (by have:=hb1.size;have:=HH.out.z;omega),zg B2 (zg hb1 HH.out.c (by have:=HH.out.z;omega)) (by have:=hb1.size;have:=HH.out.z;omega)⟩
 have HMP:=zz9 (hm1.of (B2.block _ hm1.lt));have HXF:=zz9 (hxf.same (xj B2 h1n));have hpx:=HXF.out.params;rw [ek1] at hpx;have HPX:=zz9 hpx;clear hpx;have HEK:=zz9 (And.intro ek1 ek2);have y1:(w1.alloc (.cells #[.string (strN f.name),.slice A1 f.params.length c1,.int .i64 f.result,.slice A2 f.body.length c2,.int .i64 f.place] 69)).cell? ⟨w.heap.size+1,0,none⟩ =some (.pointer (some ⟨J,0,none⟩)):=by simp [World.cell?,HHA.out.1]
 clear hm1 hb1 hxf ek1 ek2 B2 K a0
 go_upto_region 3 with fail
 clear hlk
 generalize w1.alloc (.cells #[.string (strN f.name),.slice A1 f.params.length c1,.int .i64 f.result,.slice A2 f.body.length c2,.int .i64 f.place] 69) =w2 at *
 obtain ⟨AV,cV,rfl⟩:=HA.out.len;have KF:=zz9 (zvu n0 w2 f.params vs (.slice AV vs.length cV) (.slice A1 f.params.length c1) (by have:=HB2.out.size;have:=HN.out;omega) (HA.out.on HB2.out) HPX.out)
 go_wp2_with fail
 (with_reducible refine KF.out.mono ?_)
 rintro e w3 ⟨rfl,hb3⟩;rw [HP.out.2.2.2.2.1];have HB3:=zz9 (HB2.out.trans (hb3.mono HB2.out.size));have HH3:=zz9 (And.intro (zg hb3 HHA.out.1 (zz7.1 HHA.out.1).1) (zg hb3 HHA.out.2 (zz7.1 HHA.out.2).1));have HM3:=zz9 (HMP.out.of (hb3.block _ HMP.out.lt));have HX3:=zz9 (HXF.out.same (xj hb3 (by have:=HB2.out.size;have:=HN.out;omega)));have v0:=zb x0 hb3;have v1:=zb x1 hb3;have v2:=zb x2 hb3;have v3:=zb x3 hb3;have v4:=zb x4 hb3;have y3:=zb y1 hb3;clear KF hb3 x0 x1 x2 x3 x4 y1 HB2 HHA HMP HXF HPX;have KN:Hid (∀ w',Calls Tryz.prog 44 #[.int .i64 limit] w' fun e w''=>e =.returned (GV (newL limit) 0)/\Below w'.heap.size w' w''):=fun w'=>zv6 limit w';have HSB:Hid (∀ W,Below w3.heap.size w3 W->W.cell? ⟨w.heap.size+1,0,none⟩ =some (.pointer (some ⟨J,0,none⟩))):=fun W h=>zb y3 h;dsimp only
 go_upto_region 5 with fail
 go_region_held3 (fun W=>W.cell? ⟨w.heap.size+1,0,none⟩ =some (.pointer (some ⟨J,0,none⟩)))
  (first
   | (with_reducible exact HSB.out _ HB4.out)
   | (with_reducible exact HSB.out _ (HB4.out.alloc HB4.out.size _))
   | (with_reducible exact HSB.out _ ((HB4.out.alloc HB4.out.size _).alloc (by have:=HB4.out.size;simp;omega) _))
   | (with_reducible exact HSB.out _ ((HB4.out.alloc HB4.out.size _).setCell (zzA0 _) _))
   | (with_reducible exact HSB.out _ (((HB4.out.alloc HB4.out.size _).alloc (by have:=HB4.out.size;simp;omega) _).setCell HB4.out.size _))
   | (with_reducible exact HSB.out _ (Below.refl _ _).drew)
   | (with_reducible exact HSB.out _ ((Below.refl _ _).alloc (zzA0 _) _).drew))
  (first
   | (go_at_call 44;refine (KN.out _).mono ?_;rintro e w4 ⟨rfl,hb4⟩;(first|(have HB4:Hid (Below w3.heap.size w3 w4):=(Below.refl w3.heap.size w3).drew.trans hb4;have q0:((w4.alloc (.cells #[.pointer none] 100)).alloc (.cells #[.map (some (w0.heap.size+1)),.pointer (some ⟨J,0,none⟩),.int .i64 (newL limit),.int .i64 0,.int .i64 0] 105)).heap[w4.heap.size]? =some (.cells #[.pointer none] 100 (0,0)):=zg (za _ _) (heap_alloc_new w4 (.cells #[.pointer none] 100)) (by simp);have z0:((w4.alloc (.cells #[.pointer none] 100)).alloc (.cells #[.map (some (w0.heap.size+1)),.pointer (some ⟨J,0,none⟩),.int .i64 (newL limit),.int .i64 0,.int .i64 0] 105)).cell? ⟨w4.heap.size,0,none⟩ =some (.pointer none):=(by simp [World.cell?,q0]);have z1:((w4.alloc (.cells #[.pointer none] 100)).alloc (.cells #[.map (some (w0.heap.size+1)),.pointer (some ⟨J,0,none⟩),.int .i64 (newL limit),.int .i64 0,.int .i64 0] 105)).frozen? ⟨w4.heap.size,0,none⟩ =false:=(by simp [World.frozen?,q0]);clear q0)|(have HZ4:Hid (w4.heap[w3.heap.size]? =some (.cells #[.pointer none] 100 (0,0))):=zg hb4 (heap_alloc_new w3 (.cells #[.pointer none] 100)) (by simp);have HB4:Hid (Below w3.heap.size w3 w4):=((Below.refl w3.heap.size w3).alloc (zzA0 _) (.cells #[.pointer none] 100)).drew.trans (hb4.mono (by simp));have q0:(w4.alloc (.cells #[.map (some (w0.heap.size+1)),.pointer (some ⟨J,0,none⟩),.int .i64 (newL limit),.int .i64 0,.int .i64 0] 105)).heap[w3.heap.size]? =some (.cells #[.pointer none] 100 (0,0)):=zg (za _ _) HZ4.out (zz7.1 HZ4.out).1;have z0:(w4.alloc (.cells #[.map (some (w0.heap.size+1)),.pointer (some ⟨J,0,none⟩),.int .i64 (newL limit),.int .i64 0,.int .i64 0] 105)).cell? ⟨w3.heap.size,0,none⟩ =some (.pointer none):=(by simp [World.cell?,q0]);have z1:(w4.alloc (.cells #[.map (some (w0.heap.size+1)),.pointer (some ⟨J,0,none⟩),.int .i64 (newL limit),.int .i64 0,.int .i64 0] 105)).frozen? ⟨w3.heap.size,0,none⟩ =false:=(by simp [World.frozen?,q0]);clear q0));clear hb4))
 have HW:Hid (Below w3.heap.size w3 ((w4.alloc (.cells #[.map (some (w0.heap.size+1)),.pointer (some ⟨J,0,none⟩),.int .i64 (newL limit),.int .i64 0,.int .i64 0] 105)).alloc (.cells #[.pointer (some ⟨w4.heap.size,0,none⟩)] 100))):=(HB4.out.alloc HB4.out.size _).alloc (by have:=HB4.out.size;simp;omega) _;have HRc:Hid (((w4.alloc (.cells #[.map (some (w0.heap.size+1)),.pointer (some ⟨J,0,none⟩),.int .i64 (newL limit),.int .i64 0,.int .i64 0] 105)).alloc (.cells #[.pointer (some ⟨w4.heap.size,0,none⟩)] 100)).heap[w4.heap.size]? =some (.cells #[.map (some (w0.heap.size+1)),.pointer (some ⟨J,0,none⟩),.int .i64 (newL limit),.int .i64 0,.int .i64 0] 105 (0,0))):=zg (za _ _) (heap_alloc_new w4 _) (by simp);have HT:Hid (((w4.alloc (.cells #[.map (some (w0.heap.size+1)),.pointer (some ⟨J,0,none⟩),.int .i64 (newL limit),.int .i64 0,.int .i64 0] 105)).alloc (.cells #[.pointer (some ⟨w4.heap.size,0,none⟩)] 100)).heap[w4.heap.size+1]? =some (.cells #[.pointer (some ⟨w4.heap.size,0,none⟩)] 100 (0,0))):=kN w4 _ _;have HLe:Hid (w3.heap.size<=w4.heap.size/\w3.heap.size<=w4.heap.size+1):=⟨HB4.out.size,by have:=HB4.out.size;omega⟩;have HW2:=zz9 (HB3.out.trans (HW.out.mono HB3.out.size));have HHW:=zz9 (And.intro (zg HW.out HH3.out.1 (zz7.1 HH3.out.1).1) (zg HW.out HH3.out.2 (zz7.1 HH3.out.2).1));have HMW:=zz9 (HM3.out.of (HW.out.block _ HM3.out.lt));have HVW:=zz9 (And.intro (zb v0 HW.out) (And.intro (zb v1 HW.out) (And.intro (zb v2 HW.out) (And.intro (zb v3 HW.out) (zb v4 HW.out)))));have HG:=zz9 (And.intro (zzA2 HB3.out.size HLe.out.1) (zzA2 HB3.out.size HLe.out.2));clear HW HB3 HH3 HM3 HX3 HLe v0 v1 v2 v3 v4 y3 HSB KN HB4
 generalize (w4.alloc (.cells #[.map (some (w0.heap.size+1)),.pointer (some ⟨J,0,none⟩),.int .i64 (newL limit),.int .i64 0,.int .i64 0] 105)).alloc (.cells #[.pointer (some ⟨w4.heap.size,0,none⟩)] 100) =W at *
 generalize hT:w4.heap.size+1 =gT at *
 generalize hR:w4.heap.size =gR at *
 clear hR hT z0 z1
 (try clear HZ4)
 rotate_left
 have HW:Hid (Below w3.heap.size w3 ((w4.alloc (.cells #[.pointer (some ⟨w4.heap.size+1,0,none⟩)] 100)).alloc (.cells #[.map (some (w0.heap.size+1)),.pointer (some ⟨J,0,none⟩),.int .i64 (newL limit),.int .i64 0,.int .i64 0] 105))):=(HB4.out.alloc HB4.out.size _).alloc (by have:=HB4.out.size;simp;omega) _;have HRc:Hid (((w4.alloc (.cells #[.pointer (some ⟨w4.heap.size+1,0,none⟩)] 100)).alloc (.cells #[.map (some (w0.heap.size+1)),.pointer (some ⟨J,0,none⟩),.int .i64 (newL limit),.int .i64 0,.int .i64 0] 105)).heap[w4.heap.size+1]? =some (.cells #[.map (some (w0.heap.size+1)),.pointer (some ⟨J,0,none⟩),.int .i64 (newL limit),.int .i64 0,.int .i64 0] 105 (0,0))):=kN w4 _ _;have HT:Hid (((w4.alloc (.cells #[.pointer (some ⟨w4.heap.size+1,0,none⟩)] 100)).alloc (.cells #[.map (some (w0.heap.size+1)),.pointer (some ⟨J,0,none⟩),.int .i64 (newL limit),.int .i64 0,.int .i64 0] 105)).heap[w4.heap.size]? =some (.cells #[.pointer (some ⟨w4.heap.size+1,0,none⟩)] 100 (0,0))):=zg (za _ _) (heap_alloc_new w4 _) (by simp);have HLe:Hid (w3.heap.size<=w4.heap.size+1/\w3.heap.size<=w4.heap.size):=⟨by have:=HB4.out.size;omega,HB4.out.size⟩;have HW2:=zz9 (HB3.out.trans (HW.out.mono HB3.out.size));have HHW:=zz9 (And.intro (zg HW.out HH3.out.1 (zz7.1 HH3.out.1).1) (zg HW.out HH3.out.2 (zz7.1 HH3.out.2).1));have HMW:=zz9 (HM3.out.of (HW.out.block _ HM3.out.lt));have HVW:=zz9 (And.intro (zb v0 HW.out) (And.intro (zb v1 HW.out) (And.intro (zb v2 HW.out) (And.intro (zb v3 HW.out) (zb v4 HW.out)))));have HG:=zz9 (And.intro (zzA2 HB3.out.size HLe.out.1) (zzA2 HB3.out.size HLe.out.2));clear HW HB3 HH3 HM3 HX3 HLe v0 v1 v2 v3 v4 y3 HSB KN HB4
 generalize (w4.alloc (.cells #[.pointer (some ⟨w4.heap.size+1,0,none⟩)] 100)).alloc (.cells #[.map (some (w0.heap.size+1)),.pointer (some ⟨J,0,none⟩),.int .i64 (newL limit),.int .i64 0,.int .i64 0] 105) =W at *
 generalize hR:w4.heap.size+1 =gR at *
 generalize hT:w4.heap.size =gT at *
 clear hR hT z0 z1
 (try clear HZ4)
 rotate_left
 have HW:Hid (Below w3.heap.size w3 ((w4.alloc (.cells #[.map (some (w0.heap.size+1)),.pointer (some ⟨J,0,none⟩),.int .i64 (newL limit),.int .i64 0,.int .i64 0] 105)).setCell ⟨w3.heap.size,0,none⟩ (.pointer (some ⟨w4.heap.size,0,none⟩)))):=(HB4.out.alloc HB4.out.size _).setCell (zzA0 _) _;have HRc:Hid (((w4.alloc (.cells #[.map (some (w0.heap.size+1)),.pointer (some ⟨J,0,none⟩),.int .i64 (newL limit),.int .i64 0,.int .i64 0] 105)).setCell ⟨w3.heap.size,0,none⟩ (.pointer (some ⟨w4.heap.size,0,none⟩))).heap[w4.heap.size]? =some (.cells #[.map (some (w0.heap.size+1)),.pointer (some ⟨J,0,none⟩),.int .i64 (newL limit),.int .i64 0,.int .i64 0] 105 (0,0))):=by rw [zf _ _ _ _ _ (Nat.ne_of_gt (zz7.1 HZ4.out).1)];exact heap_alloc_new w4 _
 have HT:Hid (((w4.alloc (.cells #[.map (some (w0.heap.size+1)),.pointer (some ⟨J,0,none⟩),.int .i64 (newL limit),.int .i64 0,.int .i64 0] 105)).setCell ⟨w3.heap.size,0,none⟩ (.pointer (some ⟨w4.heap.size,0,none⟩))).heap[w3.heap.size]? =some (.cells #[.pointer (some ⟨w4.heap.size,0,none⟩)] 100 (0,0))):=heap_setCell_same (w4.alloc (.cells #[.map (some (w0.heap.size+1)),.pointer (some ⟨J,0,none⟩),.int .i64 (newL limit),.int .i64 0,.int .i64 0] 105)) w3.heap.size 0 _ _ _ (zg (za _ _) HZ4.out (zz7.1 HZ4.out).1);have HLe:Hid (w3.heap.size<=w4.heap.size/\w3.heap.size<=w3.heap.size):=⟨HB4.out.size,zzA0 _⟩;have HW2:=zz9 (HB3.out.trans (HW.out.mono HB3.out.size));have HHW:=zz9 (And.intro (zg HW.out HH3.out.1 (zz7.1 HH3.out.1).1) (zg HW.out HH3.out.2 (zz7.1 HH3.out.2).1));have HMW:=zz9 (HM3.out.of (HW.out.block _ HM3.out.lt));have HVW:=zz9 (And.intro (zb v0 HW.out) (And.intro (zb v1 HW.out) (And.intro (zb v2 HW.out) (And.intro (zb v3 HW.out) (zb v4 HW.out)))));have HG:=zz9 (And.intro (zzA2 HB3.out.size HLe.out.1) (zzA2 HB3.out.size HLe.out.2));clear HW HB3 HH3 HM3 HX3 HLe v0 v1 v2 v3 v4 y3 HSB KN HB4
 generalize (w4.alloc (.cells #[.map (some (w0.heap.size+1)),.pointer (some ⟨J,0,none⟩),.int .i64 (newL limit),.int .i64 0,.int .i64 0] 105)).setCell ⟨w3.heap.size,0,none⟩ (.pointer (some ⟨w4.heap.size,0,none⟩)) =W at *
 generalize hR:w4.heap.size =gR at *
 generalize hT:w3.heap.size =gT at *
 clear hR hT z0 z1
 (try clear HZ4)
 rotate_left
 all_goals
  have HJW:=zz9 (HJ.out.on HW2.out);obtain ⟨v0,v1,v2,v3,v4⟩:=HVW.out;have y3:W.cell? ⟨w.heap.size+1,0,none⟩ =some (.pointer (some ⟨J,0,none⟩)):=by simp [World.cell?,HHW.out.1]
  have KM:=zz9 (zpu n0 W J hs cur HJW.out);have hgR:n0<=gR:=by have:=HG.out.1;omega
  have yT:W.cell? ⟨gT,0,none⟩ =some (.pointer (some ⟨gR,0,none⟩)):=by simp [World.cell?,HT.out]
  go_wp2_with fail
  (with_reducible refine KM.out.mono ?_)
  rintro e w6 ⟨rfl,rfl⟩;obtain ⟨X,hX⟩:∃ X:Cx10,X ={ n0:=n0,R:=gR,J:=J,g:=w0.heap.size+1,lim:=newL limit,fs:=fs,ks:=ks,sh:=HP.out.2.1 }:=⟨_,rfl⟩;have B7:=za W (.cells #[.int .i64 hs.length] 3);have hb7:=HW2.out.trans (B7.mono HW2.out.size);have hrun:RunS X 0 { used:=0,hs:=hs,cur:=cur } (W.alloc (.cells #[.int .i64 hs.length] 3)):=by
   subst hX;refine ⟨zg B7 HRc.out (zz7.1 HRc.out).1,hgR,HJ.out.on hb7,HMW.out.of (B7.block _ HMW.out.lt),by have:=HH.out.z;show n0<=w0.heap.size+1;omega,HXw.out.1,(HXw.out.same (xj hb7 hn)).2.2,by have:=hb7.size;show n0<=_;omega,Int.le_refl _,(zb6 limit).1,(zb6 limit).2,by show (hs.length:Int)*4<=90000+0;have:=HP.out.1;omega,fun h=>by have:=HPR.out.2 gR h;have:=HG.out.1;omega,fun b hb=>HPR.out.1 b (zp4 (hb7.block _ HJ.out.sp.lt) hb),fun b hb=>zzA1 (HPR.out.2 b hb) hb7.size⟩
  obtain ⟨n,hn47⟩:=HP.out.2.2.2.2.2.at;have K47:=(zvk X n).2.2.1 0 f k vs { used:=0,hs:=hs,cur:=cur } r _ (.slice AV vs.length cV) (by omega) hrun (by subst hX;exact HFK.out.same (xj hb7 hn)) (by subst hX;exact HA.out.on hb7) (HP.out.2.1 f (List.mem_of_find?_eq_some HP.out.2.2.2.1)) (by subst hX;exact hn47);obtain ⟨x0,x1,x2,x3,x4⟩:(W.alloc (.cells #[.int .i64 hs.length] 3)).cell? ⟨w1.heap.size,0,none⟩ =some (.string (strN f.name))/\(W.alloc (.cells #[.int .i64 hs.length] 3)).cell? ⟨w1.heap.size,1,none⟩ =some (.slice A1 f.params.length c1)/\(W.alloc (.cells #[.int .i64 hs.length] 3)).cell? ⟨w1.heap.size,2,none⟩ =some (.int .i64 f.result)/\(W.alloc (.cells #[.int .i64 hs.length] 3)).cell? ⟨w1.heap.size,3,none⟩ =some (.slice A2 f.body.length c2)/\(W.alloc (.cells #[.int .i64 hs.length] 3)).cell? ⟨w1.heap.size,4,none⟩ =some (.int .i64 f.place):=⟨zb v0 B7,zb v1 B7,zb v2 B7,zb v3 B7,zb v4 B7⟩;have yT7:=zb yT B7
  have hfr:(W.alloc (.cells #[.int .i64 hs.length] 3)).heap[w.heap.size+1]? =some (.cells #[.pointer (some ⟨J,0,none⟩)] 35 (0,0))/\(W.alloc (.cells #[.int .i64 hs.length] 3)).heap[w.heap.size+2]? =some (oC 0 0 (.slice none 0 0) 0 0)/\(W.alloc (.cells #[.int .i64 hs.length] 3)).heap[gT]? =some (.cells #[.pointer (some ⟨gR,0,none⟩)] 100 (0,0))/\(W.alloc (.cells #[.int .i64 hs.length] 3)).heap[W.heap.size]? =some (.cells #[.int .i64 hs.length] 3 (0,0)):=
   ⟨zg B7 HHW.out.1 (zz7.1 HHW.out.1).1,zg B7 HHW.out.2 (zz7.1 HHW.out.2).1,zg B7 HT.out (zz7.1 HT.out).1,heap_alloc_new W _⟩
  unfold xfC at K47;rw [HEK.out.1,HEK.out.2] at K47;have K7:=zz9 K47;have HF7:=zz9 hfr;have HR7:=zz9 hrun;have HB7:=zz9 hb7;have HXX:=zz9 hX;have HXR:X.R =gR:=by rw [hX]
  have HXN:X.n0 =n0:=by rw [hX]
  have HXJ:X.J =J:=by rw [hX]
  rw [HXR] at K7;clear K47 hfr hrun hb7 hX B7 KM v0 v1 v2 v3 v4 y3 yT hn47
  go_upto_region 8 with fail
  generalize hWs:W.alloc (.cells #[.int .i64 hs.length] 3) =W7 at *
  go_wp2_with fail
  (with_reducible refine K7.out.mono ?_)
  rintro e w8 hG;have hends:=HP.out.2.2.2.2.2.ends (by show (0:Int)<=_;exact (zb6 limit).1);rcases r with ⟨v,τ⟩|⟨t,τ⟩
  rotate_left
  ·obtain ⟨hM,rfl,c',hs8⟩:=hG
   have hadv:Adv (newL limit) { used:=0,hs:=hs,cur:=cur } τ:=hends.1;obtain ⟨l1,l2,l3⟩:=zqe hadv.past
   go_wp2
   refine leaves_cons (f:=45) (args:=#[.pointer (some ⟨w.heap.size+1,0,none⟩),.pointer (some ⟨W.heap.size,0,none⟩),.pointer (some ⟨gT,0,none⟩),.pointer (some ⟨w.heap.size+1+1,0,none⟩)]) (by simp) (by simp [go_sem]) ?_;refine (zfc X c' τ w8 (w.heap.size+1) W.heap.size gT (w.heap.size+1+1) t hs.length cur [] hs8 l1 l2 (by rw [HXJ];exact hM.kept HF7.out.1 (by decide)) (hM.kept HF7.out.2.2.2 (by decide)) (by rw [HXR];exact hM.kept HF7.out.2.2.1 (by decide)) (hM.kept HF7.out.2.1 (by decide))).mono ?_;rintro e' u' w9 ⟨rfl,rfl,w10,hch,host⟩
   exact ⟨_,zU (cs:=[.int .i64 0,.int .i64 0,.slice none 0 0,.int .i64 t,.int .i64 τ.used]) Tryz.results19 Tryz.underlying44 rfl zk9 _ w9 (w.heap.size+1+1) rfl (zZ host.here),by
    have hM':Mv n0 NoM W7 w8:=HXN ▸ hM;have hch':Chd n0 J w8 (τ.hs.take hs.length) cur w10:=HXN ▸ HXJ ▸ hch;have hmv:Mv n0 NoM w8 w10:=HXN ▸ Mv.chd hs8 hch;have o10:w10.heap[w.heap.size+1+1]? =some (oC 0 0 (.slice none 0 0) 0 0):=hmv.kept (hM'.kept HF7.out.2.1 (by decide)) (by decide);have ho:=zt9 (n0:=n0) host o10 (by have:=HN.out;omega) xF xF;rw [l3] at hch'
    exact ⟨mv_o HB7.out (hM'.trans hmv) host ho (by omega),_,rfl,⟨none,0,rfl,zca w9⟩,jr_o host o10 ho hch'.2.2⟩⟩
  ·obtain ⟨hM,u,rfl,hv,hs8⟩:=hG
   obtain ⟨A5,c5,rfl,hB5,hok5⟩:=xM hv;have B9:=za w8 (.cells #[.int .i64 v.t,.int .i64 v.n,.slice A5 v.s.length c5] 41);obtain ⟨⟨u0,u1,u2⟩,f0,f1,f2⟩:=ka (heap_alloc_new w8 (.cells #[.int .i64 v.t,.int .i64 v.n,.slice A5 v.s.length c5] 41));have K48:Hid (Calls Tryz.prog 48 #[.slice A5 v.s.length c5] (w8.alloc (.cells #[.int .i64 v.t,.int .i64 v.n,.slice A5 v.s.length c5] 41)) (vK (w8.alloc (.cells #[.int .i64 v.t,.int .i64 v.n,.slice A5 v.s.length c5] 41)) v.s)):=by
    obtain ⟨A6,c6,e6,_,_,g6,_⟩:=hB5.on B9;injection e6 with e6 _ e7
    subst e6 e7;exact zka _ _ _ _ g6 (by have:=hok5.2;omega)
   have HBT:=zz9 hB5
   go_wp2_with fail
   (with_reducible refine K48.out.mono ?_)
   rintro e w9 ⟨A6,c6,rfl,g1,g2,g3,hb9⟩;have k9:=zg hb9 (heap_alloc_new w8 (.cells #[.int .i64 v.t,.int .i64 v.n,.slice A5 v.s.length c5] 41)) (by simp);have HC9:=zz9 (heap_setCell_same w9 w8.heap.size 2 _ _ (.slice A6 v.s.length c6) k9);have hfar:∀ (b:Nat) (o:Obj),w8.heap[b]? =some o->(w9.setCell ⟨w8.heap.size,2,none⟩ (.slice A6 v.s.length c6)).heap[b]? =some o:=fun b o h=>by
    have hlt:=(zz7.1 h).1;rw [zf _ _ _ _ _ (by omega)];exact zg hb9 (zg B9 h hlt) (by simp;omega)
   have r10:=hfar _ _ hs8.cell;rw [HXR] at r10;have t10:=hfar _ _ (hM.kept HF7.out.2.2.1 (by decide));have o10:=hfar _ _ (hM.kept HF7.out.2.1 (by decide));obtain ⟨⟨p0,p1,p2⟩,q0,q1,q2⟩:=ka k9;have hbe:Below w8.heap.size w8 (w9.setCell ⟨w8.heap.size,2,none⟩ (.slice A6 v.s.length c6)):=(B9.trans (hb9.mono B9.size)).setCell (zzA0 _) _
   have HSB:Hid (SB (w9.setCell ⟨w8.heap.size,2,none⟩ (.slice A6 v.s.length c6)) (w9.setCell ⟨w8.heap.size,2,none⟩ (.slice A6 v.s.length c6)).heap.size (.slice A6 v.s.length c6) v.s):=
    SBD.sb (D:=Fr (w8.heap.size+1) (w9.setCell ⟨w8.heap.size,2,none⟩ (.slice A6 v.s.length c6)).heap.size) ⟨A6,c6,rfl,g1,g2,g3.keep (fun b hb=>zf _ _ _ _ _ (by have:=hb.1;simp at this;omega)) (fun b hb=>⟨by have:=hb.1;simp at this;omega,by rw [qi];exact hb.2⟩),HBT.out.byt⟩ (fun b hb=>hb.2)
   have HS8:=zz9 (And.intro hM (And.intro hs8 hbe));clear hbe;clear u0 u1 u2 f0 f1 f2 hfar k9 B9 hb9
   go_upto_region 10 with fail
   clear p0 p1 p2 q0 q1 q2;obtain ⟨u0,u1,u2⟩:(w9.setCell ⟨w8.heap.size,2,none⟩ (.slice A6 v.s.length c6)).cell? ⟨w8.heap.size,0,none⟩ =some (.int .i64 v.t)/\(w9.setCell ⟨w8.heap.size,2,none⟩ (.slice A6 v.s.length c6)).cell? ⟨w8.heap.size,1,none⟩ =some (.int .i64 v.n)/\(w9.setCell ⟨w8.heap.size,2,none⟩ (.slice A6 v.s.length c6)).cell? ⟨w8.heap.size,2,none⟩ =some (.slice A6 v.s.length c6):=qr HC9.out;have hT':(w9.setCell ⟨w8.heap.size,2,none⟩ (.slice A6 v.s.length c6)).cell? ⟨gT,0,none⟩ =some (.pointer (some ⟨gR,0,none⟩)):=by simp only [World.cell?,t10];rfl
   have hU':(w9.setCell ⟨w8.heap.size,2,none⟩ (.slice A6 v.s.length c6)).cell? ⟨gR,3,none⟩ =some (.int .i64 τ.used):=by simp only [World.cell?,r10];rfl
   obtain ⟨⟨d1,d2,d3,d4,d5⟩,f1,f2,f3,f4,f5⟩:=xi o10
   generalize w9.setCell ⟨w8.heap.size,2,none⟩ (.slice A6 v.s.length c6) =W10 at *
   have host:=zha o10 v.t v.n (.slice A6 v.s.length c6) 0 τ.used;have HO:=zz9 host;clear host o10
   go_region
   go_wp2
   refine leaves_cons (f:=45) (args:=#[.pointer (some ⟨w.heap.size+1,0,none⟩),.pointer (some ⟨W.heap.size,0,none⟩),.pointer (some ⟨gT,0,none⟩),.pointer (some ⟨w.heap.size+1+1,0,none⟩)]) (by simp) (by simp [go_sem]) ?_;refine (zfv _ _ _ _ _).mono ?_;rintro e' u' w11 ⟨rfl,rfl,rfl⟩
   exact ⟨_,zU (cs:=[.int .i64 v.t,.int .i64 v.n,.slice A6 v.s.length c6,.int .i64 0,.int .i64 τ.used]) Tryz.results19 Tryz.underlying44 rfl zk9 _ _ (w.heap.size+1+1) rfl (zZ HO.out.here),by
    have hM':Mv n0 NoM W7 w8:=HXN ▸ HS8.out.1;have hj8:Jr n0 w8 J τ.hs τ.cur:=HXN ▸ HXJ ▸ HS8.out.2.1.jr;have o10:=zg HS8.out.2.2 (hM'.kept HF7.out.2.1 (by decide)) (zz7.1 (hM'.kept HF7.out.2.1 (by decide))).1;have ho:=zt9 (n0:=n0) HO.out o10 (by have:=HN.out;omega) xF xF;have hd:=Below.drew (Below.refl (((((W10.setCell ⟨w.heap.size+2,0,none⟩ (.int .i64 v.t)).setCell ⟨w.heap.size+2,1,none⟩ (.int .i64 v.n)).setCell ⟨w.heap.size+2,2,none⟩ (.slice A6 v.s.length c6)).setCell ⟨w.heap.size+2,3,none⟩ (.int .i64 0)).setCell ⟨w.heap.size+2,4,none⟩ (.int .i64 τ.used)).heap.size (((((W10.setCell ⟨w.heap.size+2,0,none⟩ (.int .i64 v.t)).setCell ⟨w.heap.size+2,1,none⟩ (.int .i64 v.n)).setCell ⟨w.heap.size+2,2,none⟩ (.slice A6 v.s.length c6)).setCell ⟨w.heap.size+2,3,none⟩ (.int .i64 0)).setCell ⟨w.heap.size+2,4,none⟩ (.int .i64 τ.used)))
    exact ⟨(mv_o HB7.out (hM'.then HS8.out.2.2) HO.out ho (by omega)).then hd,_,rfl,⟨A6,c6,rfl,⟨_,rfl,(HSB.out.off ho).on hd,hok5⟩⟩,(jr_o HO.out o10 ho (hj8.on HS8.out.2.2)).on hd⟩⟩
end
section
open Go.RowKit Go.MapKept
variable [Prt]
structure Lw (n0:Nat) (fs:List Xf) (ks:List Two) (A:Option Addr) (c:Nat) (J:Nat) (hs:List (List PR)) (cur:List PR) (w:World):Prop where
 hn:n0<=w.heap.size
 jr:Jr n0 w J hs cur
 prog:XfsC w (Lo n0) fs ks (.slice A fs.length c)
theorem Lw.on {fs:List Xf} {ks:List Two} {c J:Nat} {hs:List (List PR)} {cur:List PR} (h:Lw n0 fs ks A c J hs cur w) (hb:Below w.heap.size w w'):Lw n0 fs ks A c J hs cur w':=
 ⟨zzA2 h.hn hb.size,h.jr.on hb,h.prog.same (xj hb h.hn)⟩
theorem Lw.mv {fs:List Xf} {ks:List Two} {c J J':Nat} {hs hs':List (List PR)} {cur cur':List PR} (h:Lw n0 fs ks A c J hs cur w) (hm:Mv n0 NoM w w') (hj:Jr n0 w' J' hs' cur'):Lw n0 fs ks A c J' hs' cur' w':=
 ⟨zzA2 h.hn hm.size,hj,h.prog.same (vL (hm.low h.hn))⟩
theorem zgn {vs:List Va} {ks:List Value} (h:w.heap[g]? =some (.cells (vasC vs ks).toArray 41 (0,0))) (hk:ks.length =vs.length) (hl:vs.length<=100) (hv:∀ (i:Nat) (v:Va) (k:Value),vs[i]? =some v->ks[i]? =some k->SB w w.heap.size k v.s/\Vok v) :
  ArgX n0 w (.slice (some ⟨g,0,none⟩) vs.length vs.length) vs:=by
 have hg:=(zz7.1 h).1;refine ⟨(· =g),ks,hk,⟨_,_,rfl,zzA0 _,by unfold maxLen;omega,(fun e=>by cases e),fun j u hu=>⟨_,rfl,rfl,?_⟩⟩,hv,fun b hb=>?_⟩
 ·have:=zZ h j u (by simpa using hu)
  rw [Nat.zero_add] at this;rw [Addr.add_lit,Nat.zero_add];exact this
 ·obtain rfl:b =g:=hb
  exact ⟨hg,jX h (by decide),.inr ⟨_,_,_,h⟩⟩
theorem yr {n:Int} (h:-9223372036854775808<=n/\n<=9223372036854775807):Vok (intV n):=⟨h,by simp [intV]⟩
theorem zmi {fs:List Xf} {ks:List Two} {c J:Nat} {hs:List (List PR)} {cur:List PR} (h:Lw n0 fs ks A c J hs cur w) (hpj:∀ b,Jb w J b->¬ Prt.no b) (hpt:∀ b,Prt.no b->b < w.heap.size) (hl:(hs.length:Int)*4<=90000) (hp:kD fs =none) (hsh:∀ f∈fs,shB f.body =true)
  (name:List Nat) (hy:Byn name) (V:Value) (vs:List Va) (ha:ArgX n0 w V vs) (f:Xf) (hf:xT fs name =some f) (hfit:fitB f.params vs =true) (limit:Int) (r:Ou Va) (hr:vg (newL limit) (xT fs) f vs { used:=0,hs:=hs,cur:=cur } r) :
  Calls Tryz.prog 19 #[.agg #[.slice A fs.length c],.string (strN name),V,.pointer (some ⟨J,0,none⟩),.int .i64 limit] w (RunO n0 J w { used:=0,hs:=hs,cur:=cur } r):=
 zlx n0 w J hs cur fs ks A c name V vs limit f r h.hn h.jr hpj hpt hl hp hsh h.prog hy ha hf hfit hr
theorem yy {fs:List Xf} {ks:List Two} {c J:Nat} {hs:List (List PR)} {cur:List PR} (h:Lw n0 fs ks A c J hs cur w) (hpj:∀ b,Jb w J b->¬ Prt.no b) (hpt:∀ b,Prt.no b->b < w.heap.size) (hl:(hs.length:Int)*4<=90000) (hp:kD fs =none) (hsh:∀ f∈fs,shB f.body =true)
  (name:List Nat) (hy:Byn name) (V:Value) (vs:List Va) (ha:ArgX n0 w V vs) (f:Xf) (hf:xT fs name =some f) (hfit:fitB f.params vs =true) (limit t u:Int) (hs':List (List PR)) (cur':List PR) (hr:vg (newL limit) (xT fs) f vs { used:=0,hs:=hs,cur:=cur } (.trap t ⟨u,hs',cur'⟩)) :
  Calls Tryz.prog 19 #[.agg #[.slice A fs.length c],.string (strN name),V,.pointer (some ⟨J,0,none⟩),.int .i64 limit] w fun e w'=>∃ A' c',e =.returned (.agg #[.int .i64 0,.int .i64 0,.slice A' 0 c',.int .i64 t,.int .i64 u])/\Mv n0 NoM w w'/\Jr n0 w' J hs cur:=
 (zmi h hpj hpt hl hp hsh name hy V vs ha f hf hfit limit _ hr).mono fun e w' h=>by
  obtain ⟨hm,x,rfl,⟨A',c',rfl,hv⟩,hj⟩:=h;exact ⟨A',c',rfl,hm,hj⟩
theorem vU {fs:List Xf} {ks:List Two} {c J:Nat} {hs:List (List PR)} {cur:List PR} (h:Lw n0 fs ks A c J hs cur w) (hpj:∀ b,Jb w J b->¬ Prt.no b) (hpt:∀ b,Prt.no b->b < w.heap.size) (hl:(hs.length:Int)*4<=90000) (hp:kD fs =none) (hsh:∀ f∈fs,shB f.body =true)
  (name:List Nat) (hy:Byn name) (V:Value) (vs:List Va) (ha:ArgX n0 w V vs) (f:Xf) (hf:xT fs name =some f) (hfit:fitB f.params vs =true) (limit u:Int) (v:Va) (t n:Int) (s:List Int) (m:Nat) (hv:v =⟨t,n,s⟩) (hm:s.length =m) (hs':List (List PR)) (cur':List PR) (hr:vg (newL limit) (xT fs) f vs { used:=0,hs:=hs,cur:=cur } (.ok v ⟨u,hs',cur'⟩)) :
  Calls Tryz.prog 19 #[.agg #[.slice A fs.length c],.string (strN name),V,.pointer (some ⟨J,0,none⟩),.int .i64 limit] w fun e w'=>∃ A' c',e =.returned (.agg #[.int .i64 t,.int .i64 n,.slice A' m c',.int .i64 0,.int .i64 u])/\Mv n0 NoM w w'/\Jr n0 w' J hs' cur'/\SB w' w'.heap.size (.slice A' m c') s:=
 (zmi h hpj hpt hl hp hsh name hy V vs ha f hf hfit limit _ hr).mono fun e w' h=>by
  subst hv hm;obtain ⟨hm,x,rfl,⟨A',c',rfl,hv⟩,hj⟩:=h;obtain ⟨k,e,hb,_⟩:=hv;injection e with e
  have e:k =.slice A' s.length c':=by
   have:=congrArg (fun a=>a[2]?) e;simpa using this.symm
  subst e;exact ⟨A',c',rfl,hm,hj,hb⟩
end
section
open Go.RowKit Go.MapKept
def LitO (P:List Fu) (w:World) (e:Ending) (w':World):Prop:=
 ∃ A c ks,e =.returned (.tuple #[.agg #[.slice A (P.map toXf).length c],.int .i64 0,.int .i64 0])/\XfsC w' (Lo w'.heap.size) (P.map toXf) ks (.slice A (P.map toXf).length c)/\Below w.heap.size w w'
theorem wU {T:List Nat} {P:List Fu} (hP:LitP T P) (A:Option Addr) (n c:Nat) (w:World) (hn:T.length =n) (hc:n<=c) (hcm:c<=maxLen) (hl:Lies w w.heap.size A c (bts T)) (ht:Tab w) :
  Calls Tryz.prog 25 #[.slice A n c] w (LitO P w):=by
 refine (zr5 A T n c w hn hc hcm hl hP.y ht 0 0 P hP.p hP.o).mono fun e w' h=>?_;rw [hP.f] at h;obtain ⟨V,rfl,hF,hb⟩:=h;obtain ⟨AV,cV,rfl⟩:=zal hF;obtain ⟨ks,hX⟩:=hF.toX hP.o;have hX':XfsC w' (Lo w'.heap.size) (P.map toXf) ks (.slice AV P.length cV):=hX.more fun k hk=>hk.2;exact ⟨AV,cV,ks,by simp,(by rw [List.length_map];exact hX'),hb⟩
theorem zdh:qJ []:=by decide
theorem zge (n0:Nat) (w:World) (hn:n0<=w.heap.size):Calls Tryz.prog 17 #[.slice none 0 0] w fun e w'=>∃ J,e =.returned (.pointer (some ⟨J,0,none⟩))/\w.heap.size<=J/\Jr n0 w' J [] []/\Below w.heap.size w w':=
 (newC none [] 0 w (Prs.nothing _ _) (zzA0 _) (by unfold maxLen;omega) (by simp) zdh).mono fun e w' h=>h.jr zdh hn
theorem zwi (w:World) (C:Array Value) (T:List Nat) (n:Nat) (hC:C =(bts T).toArray):∃ O,(convert 22 22 (.slice (some ⟨w.heap.size,0,none⟩) n n)).run Tryz.prog (w.alloc (.cells C 5)) =.ok (.slice (some ⟨w.heap.size,0,none⟩) n n) (w.alloc O)/\Lies (w.alloc O) (w.alloc O).heap.size (some ⟨w.heap.size,0,none⟩) n (bts T):=by
 refine ⟨.cells C 5 (C.size,C.size+1),yj w C n n,?_⟩;subst hC;exact (zcv w T n 5 _).more (by simp)
end
section
open Go.RowKit Go.MapKept
instance noPrt:Prt:=⟨fun _=>False⟩
theorem wF {P:Nat->Prop}:∀ b,P b->¬ Prt.no b:=fun _ _ h=>h
theorem wo {P:Nat->Prop}:∀ b,Prt.no b->P b:=fun _ h=>h.elim
theorem al1 {α β:Type} {P:α->β->Prop} {x:α} {k:β} (h:P x k):∀ (i:Nat) (s:α) (k':β),[x][i]? =some s->[k][i]? =some k'->P s k':=by
 intro i s k' h1 h2
 match i,h1,h2 with
 | 0,h1,h2=>simp at h1 h2;subst h1 h2;exact h
theorem al2 {α β:Type} {P:α->β->Prop} {x y:α} {k l:β} (h:P x k) (h':P y l):∀ (i:Nat) (s:α) (k':β),[x,y][i]? =some s->[k,l][i]? =some k'->P s k':=by
 intro i s k' h1 h2
 match i,h1,h2 with
 | 0,h1,h2=>simp at h1 h2;subst h1 h2;exact h
 | 1,h1,h2=>simp at h1 h2;subst h1 h2;exact h'
theorem zcu {t n:Int} {k:Value} {s:List Int} (h:w.heap[g]? =some (.cells #[.int .i64 t,.int .i64 n,k] 41 (0,0))) (hs:SB w w.heap.size k s) (hv:Vok ⟨t,n,s⟩):ArgX n0 w (.slice (some ⟨g,0,none⟩) 1 1) [⟨t,n,s⟩]:=
 zgn (vs:=[⟨t,n,s⟩]) (ks:=[k]) h rfl (by simp) (al1 (P:=fun (v:Va) k=>SB w w.heap.size k v.s/\Vok v) ⟨hs,hv⟩)
theorem hd_p:kD hdFX =none:=zfu ▸ zfn.m
theorem hd_s:∀ f∈hdFX,shB f.body =true:=zfu ▸ zfn.s
theorem wP (w:World) (ht:Tab w):Calls Tryz.prog 15 #[] w fun e w'=>e =.returned (.bool true)/\Below w.heap.size w w':=by
 have HT:=zz9 ht;have hpos:=ht.1;clear ht;obtain ⟨O,hm,LF⟩:=zwi w #[.int .u8 102,.int .u8 110,.int .u8 32,.int .u8 102,.int .u8 40,.int .u8 97,.int .u8 58,.int .u8 32,.int .u8 105,.int .u8 110,.int .u8 116,.int .u8 41,.int .u8 58,.int .u8 32,.int .u8 105,.int .u8 110,.int .u8 116,.int .u8 32,.int .u8 123,.int .u8 32,.int .u8 114,.int .u8 101,.int .u8 116,.int .u8 117,.int .u8 114,.int .u8 110,.int .u8 32,.int .u8 97,.int .u8 32,.int .u8 47,.int .u8 32,.int .u8 48,.int .u8 59,.int .u8 32,.int .u8 125,.int .u8 32,.int .u8 102,.int .u8 110,.int .u8 32,.int .u8 103,.int .u8 40,.int .u8 97,.int .u8 58,.int .u8 32,.int .u8 105,.int .u8 110,.int .u8 116,.int .u8 41,.int .u8 58,.int .u8 32,.int .u8 105,.int .u8 110,.int .u8 116,.int .u8 32,.int .u8 123,.int .u8 32,.int .u8 114,.int .u8 101,.int .u8 116,.int .u8 117,.int .u8 114,.int .u8 110,.int .u8 32,.int .u8 97,.int .u8 32,.int .u8 43,.int .u8 32,.int .u8 49,.int .u8 59,.int .u8 32,.int .u8 125] hdFT 71 (by kernel_rfl);have B0:=zz9 (za w O);have K:=zz9 (wU zfn (some ⟨w.heap.size,0,none⟩) 71 71 (w.alloc O) rfl (by omega) (by unfold maxLen;omega) LF (HT.out.below B0.out hpos));clear LF;go_enter Tryz.func15,Tryz.ntmps15
 go_wp2_with fail
 clear hm
 generalize w.alloc O =w0 at *
 with_reducible refine K.out.mono ?_
 clear K;rintro e w1 ⟨A,c,ks,rfl,hX,b1⟩;rw [zfu,show hdFX.length =2 from rfl] at hX ⊢;have HB1:=zd B0.out b1 B0.out.size;have c1:=za w1 (.cells #[.slice A 2 c] 26);have X0:Hid ((w1.alloc (.cells #[.slice A 2 c] 26)).cell? ⟨w1.heap.size,0,none⟩ =some (.slice A 2 c)):=by show _ =_;rw [cell_of_row _ _ _ _ _ _ (heap_alloc_new w1 _)];rfl
 have HB2:=zz9 (zd HB1 c1 HB1.size);have HX2:Hid (XfsC (w1.alloc (.cells #[.slice A 2 c] 26)) (Lo (w1.alloc (.cells #[.slice A 2 c] 26)).heap.size) hdFX ks (.slice A 2 c)):=(hX.same (xj c1 (zzA0 _))).more fun k hk=>zzA1 hk c1.size;clear hX b1 c1 HB1
 go_upto_region 2 with fail
 generalize w1.alloc (.cells #[.slice A 2 c] 26) =w2 at *
 generalize w1.heap.size =gp at *
 have hgp:gp < w2.heap.size:=World.block_lt_of_cell? w2 _ X0.out;have HW:Hid (w.heap.size<=w2.heap.size):=HB2.out.size;have K:=zz9 (zge w2.heap.size w2 (zzA0 _))
 go_wp2_with fail
 with_reducible refine K.out.mono ?_
 clear K;rintro e w3 ⟨J,rfl,hJ,hj,b3⟩;have HL:Hid (Lw w2.heap.size hdFX ks A c J [] [] w3):=⟨b3.size,hj,HX2.out.same (xj b3 (zzA0 _))⟩;have x3:=zb X0.out b3;have HB3:=zz9 (zd HB2.out b3 HB2.out.size);have Ba:=za w3 (.cells #[.int .i64 1,.int .i64 0,.slice none 0 0] 41);have HL3:=zz9 (HL.out.on Ba)
 have K:Hid (Calls Tryz.prog 19 #[.agg #[.slice A 2 c],.string ⟨#[102]⟩,.slice (some ⟨w3.heap.size,0,none⟩) 1 1,.pointer (some ⟨J,0,none⟩),.int .i64 100] (w3.alloc (.cells #[.int .i64 1,.int .i64 0,.slice none 0 0] 41)) fun e w'=>∃ A' c',e =.returned (.agg #[.int .i64 0,.int .i64 0,.slice A' 0 c',.int .i64 2,.int .i64 4])/\Mv w2.heap.size NoM (w3.alloc (.cells #[.int .i64 1,.int .i64 0,.slice none 0 0] 41)) w'/\Jr w2.heap.size w' J [] []):=
  yy HL3.out wF wo (by simp) hd_p hd_s [102] (by unfold Byn;decide) _ [intV 0] (zcu (heap_alloc_new w3 _) (SB.nil _ _) (yr (by decide))) hdF0 (by kernel_rfl) (by kernel_rfl) 100 2 4 [] [] hd_f
 have HBa:=zz9 (zd HB3.out Ba HB3.out.size);have x3a:=zz9 (zb x3 Ba);clear Ba HL hj hJ b3 HX2 X0 HB2 B0
 go_wp2_with fail
 with_reducible refine K.out.mono ?_
 clear K;rintro e w4 ⟨A4,c4,rfl,hm4,hj4⟩;have hlow:=hm4.low HL3.out.hn;have x4:w4.cell? ⟨gp,0,none⟩ =some (.slice A 2 c):=by rw [hlow.cell (p:=⟨gp,0,none⟩) hgp];exact x3a.out
 have HB4:=HBa.out.trans (hlow.mono HW.out);have c5:=za w4 (.cells #[.int .i64 0,.int .i64 0,.slice A4 0 c4,.int .i64 2,.int .i64 4] 44);have HL5:=zz9 ((HL3.out.mv hm4 hj4).on c5);have HB5:=zz9 (zd HB4 c5 HB4.size);have XB5:=zz9 (heap_alloc_new w4 (.cells #[.int .i64 0,.int .i64 0,.slice A4 0 c4,.int .i64 2,.int .i64 4] 44));have x5:=zb x4 c5;clear hlow hm4 hj4 c5 HB4 x4 x3a HL3 HBa
 go_upto_region 6 with fail
 generalize w4.alloc (.cells #[.int .i64 0,.int .i64 0,.slice A4 0 c4,.int .i64 2,.int .i64 4] 44) =w5 at *
 generalize w4.heap.size =gx at *
 have Ba:=za w5 (.cells #[.int .i64 1,.int .i64 4,.slice none 0 0] 41);have HL5a:=zz9 (HL5.out.on Ba)
 have K:Hid (Calls Tryz.prog 19 #[.agg #[.slice A 2 c],.string ⟨#[103]⟩,.slice (some ⟨w5.heap.size,0,none⟩) 1 1,.pointer (some ⟨J,0,none⟩),.int .i64 100] (w5.alloc (.cells #[.int .i64 1,.int .i64 4,.slice none 0 0] 41)) fun e w'=>∃ A' c',e =.returned (.agg #[.int .i64 1,.int .i64 5,.slice A' 0 c',.int .i64 0,.int .i64 4])/\Mv w2.heap.size NoM (w5.alloc (.cells #[.int .i64 1,.int .i64 4,.slice none 0 0] 41)) w'/\Jr w2.heap.size w' J [] []/\SB w' w'.heap.size (.slice A' 0 c') []):=
  vU HL5a.out wF wo (by simp) hd_p hd_s [103] (by unfold Byn;decide) _ [intV 4] (zcu (heap_alloc_new w5 _) (SB.nil _ _) (yr (by decide))) hdF1 (by kernel_rfl) (by kernel_rfl) 100 4 (intV 5) 1 5 [] 0 rfl rfl [] [] hd_g
 have HB5a:=zz9 (zd HB5.out Ba HB5.out.size);have XB5a:=zz9 (zg Ba XB5.out (zz7.1 XB5.out).1);clear Ba HL5 HB5 XB5 HB3
 go_wp2_with fail
 with_reducible refine K.out.mono ?_
 clear K;rintro e w6 ⟨A6,c6,rfl,hm6,hj6,hb6⟩;have HB6:=HB5a.out.trans ((hm6.low HL5a.out.hn).mono HW.out);have c7:=za w6 (.cells #[.int .i64 1,.int .i64 5,.slice A6 0 c6,.int .i64 0,.int .i64 4] 44);have HB7:=zz9 (zd HB6 c7 HB6.size);have XB7:=zg c7 (hm6.kept XB5a.out (by decide)) (zz7.1 (hm6.kept XB5a.out (by decide))).1;obtain ⟨⟨y0,y1,y2,y3,y4⟩,_⟩:=xi XB7;obtain ⟨⟨z0,z1,z2,z3,z4⟩,_⟩:=xi (heap_alloc_new w6 (.cells #[.int .i64 1,.int .i64 5,.slice A6 0 c6,.int .i64 0,.int .i64 4] 44));clear hm6 hj6 hb6 HB6 c7 XB7 XB5a HB5a HL5a x5 x3
 go_upto_region 7 with fail
 generalize w6.alloc (.cells #[.int .i64 1,.int .i64 5,.slice A6 0 c6,.int .i64 0,.int .i64 4] 44) =w7 at *
 go_wp2
 go_ret;exact ⟨rfl,HB7.out⟩
end
section
open Go.RowKit Go.MapKept
abbrev zO44:Obj:=.cells #[.int .i64 0,.int .i64 0,.slice none 0 0,.int .i64 0,.int .i64 0] 44
theorem zos {g b:Nat} (h:b≠g) (v0 v1 v2 v3 v4:Value):(((((w.setCell ⟨g,0,none⟩ v0).setCell ⟨g,1,none⟩ v1).setCell ⟨g,2,none⟩ v2).setCell ⟨g,3,none⟩ v3).setCell ⟨g,4,none⟩ v4).heap[b]? =w.heap[b]?:=by
 rw [zf _ _ _ _ _ h,zf _ _ _ _ _ h,zf _ _ _ _ _ h,zf _ _ _ _ _ h,zf _ _ _ _ _ h]
theorem zdx {g b:Nat} {v:Value} (hc:w.cell? ⟨b,0,none⟩ =some v) (h:b≠g) {v0 v1 v2 v3 v4:Value}:(((((w.setCell ⟨g,0,none⟩ v0).setCell ⟨g,1,none⟩ v1).setCell ⟨g,2,none⟩ v2).setCell ⟨g,3,none⟩ v3).setCell ⟨g,4,none⟩ v4).cell? ⟨b,0,none⟩ =some v:=by
 rw [World.cell?_of_block (a:=⟨b,0,none⟩) (w:=w) (zos h _ _ _ _ _)];exact hc
theorem OSt.below {o:Obj} (h:OSt g o w w') (hB:B<=g):Below B w w':=⟨h.os,h.tape,h.output,by rw [h.size];exact zzA0 _,fun b hb=>h.far b (by omega)⟩
end
section
open Go.RowKit Go.MapKept
theorem zwd {t n:Int} {k:Value} (hb:Below w.heap.size w w1) (hs:VSt w.heap.size t n k w1 w2):Below w.heap.size w w2:=hb.trans (hs.below (zzA0 _))
end
section
open Go.RowKit Go.MapKept
def Emp (lo:Nat) (w:World) (g:Nat):Prop:=lo<=g/\w.heap[g]? =some (.cells #[] 5 (0,0))
theorem zw6 {lo g:Nat} (ty:TypeId) (hE:Emp lo w g) (A:Option Addr) (l:List Int) (c:Nat) (hl:Lies w w.heap.size A c (zA l)) (hlen:l.length<=140737488355328) :
  ∃ v' w',(Builtin.append_ #[22,22] ty #[.slice (some ⟨g,0,none⟩) 0 0,.slice A l.length c]).run Tryz.prog w =.ok v' w'/\w'.ownsRow lo 5 1 v' l.length (zA l)/\Below w.heap.size w w':=by
 obtain ⟨i,hi,hz0,hz1,hz2⟩:=info_parts zsf;by_cases h0:l =[]
 ·subst h0
  refine ⟨_,_,jz w 22 ty 5 i Tryz.underlying22 hi (some ⟨g,0,none⟩) A 0 0 c (zzA0 _) (fun e=>by cases e),?_,Below.refl _ _⟩;exact ⟨rfl,.inr ⟨g,0,#[],rfl,hE.1,hE.2,zzA0 _,Nat.zero_le _,rfl,rfl⟩⟩
 ·have hpos:0 < l.length:=List.length_pos_iff.2 h0
  cases A with
  | none=>
   have:=hl.none_nil.1;simp at this;exact absurd this h0
  | some ad=>
   have hnews:∀ j u,(zA l)[j]? =some u->w.cell? (ad.add j) =some u:=fun j u hu=>by
    obtain ⟨ad',e',_,hc⟩:=hl.2 j u hu;injection e' with e'
    subst e';exact hc
   obtain ⟨v',w',hr,h2,h3⟩:=run_append_arg_grows (P:=Tryz.prog) w 22 ty 5 i _ 1 1 Tryz.underlying22 hi hz0 hz1 hz2 rfl (by omega) ⟨g,0,none⟩ 0 0 [] rfl (fun j u hu=>by simp at hu) ad l.length c (zA l) (by simp) hnews (by omega) (by unfold maxLen;omega) (by omega);refine ⟨v',w',hr,?_,(Below.refl _ _).grown h3 (zzA0 _) (fun k hk=>by cases hk)⟩;have h4:w'.ownsRow w.heap.size 5 1 v' l.length (zA l):=by simpa using h2
   exact vz h4 (Nat.le_of_lt (Nat.lt_of_le_of_lt hE.1 (zz7.1 hE.2).1))
theorem zw9 {lo g:Nat} {o:Oper} {a:Act} {K:Act->World->Prop} {Q:Exit->Act->World->Prop} (s x:Operand) (ho:o.op =.call { callee:=.builtin .append,args:=#[s,x],argTypes:=#[22,22] }) (hE:Emp lo w g)
  (hs:a.eval s =.slice (some ⟨g,0,none⟩) 0 0) (A:Option Addr) (l:List Int) (m c:Nat) (hm:m =l.length) (hx:a.eval x =.slice A m c) (hl:Lies w w.heap.size A c (zA l)) (hlen:l.length<=140737488355328)
  (hK:∀ v' w',w'.ownsRow lo 5 1 v' l.length (zA l)->Below w.heap.size w w'->K (a.put o.dst v') w'):o.wp Tryz.prog a w K Q:=by
 subst hm;obtain ⟨v',w',hr,h2,h3⟩:=zw6 (w:=w) o.type hE A l c hl hlen;unfold Oper.wp execOp;simp only [ho,resolve,invoke,builtin,Sem.run_bind,Sem.run_pure,Result.andThen_ok,List.map_toArray,List.map_cons,List.map_nil,hs,hx,hr];exact hK v' w' h2 h3
theorem zwm {lo g:Nat} {ops:Array Oper} {rest:List Oper} {o:Oper} {a:Act} {Q:Exit->Act->World->Prop} (hgd:o.guard =none) (s x:Operand) (ho:o.op =.call { callee:=.builtin .append,args:=#[s,x],argTypes:=#[22,22] }) (hE:Emp lo w g)
  (hs:a.eval s =.slice (some ⟨g,0,none⟩) 0 0) (A:Option Addr) (l:List Int) (m c:Nat) (hm:m =l.length) (hx:a.eval x =.slice A m c) (hl:Lies w w.heap.size A c (zA l)) (hlen:l.length<=140737488355328)
  (hK:∀ v' w',w'.ownsRow lo 5 1 v' l.length (zA l)->Below w.heap.size w w'->wpList Tryz.prog ops Q rest (a.put o.dst v') w'):wpList Tryz.prog ops Q (o::rest) a w:=
 wpList_plain hgd fun _ hK'=>zw9 s x ho hE hs A l m c hm hx hl hlen fun v' w' h2 h3=>hK' _ _ (hK v' w' h2 h3)
theorem zxi (A:Option Addr) (l:List Int) (n c:Nat) (hn:l.length =n) (w:World) (hl:SB w w.heap.size (.slice A n c) l) (hlen:l.length<=1000) :
  Calls Tryz.prog 31 #[.slice A n c] w fun e w'=>∃ A' c',e =.returned (.agg #[.int .i64 3,.int .i64 0,.slice A' n c'])/\SB w' w'.heap.size (.slice A' n c') l/\Below w.heap.size w w':=by
 subst hn;have HY:=zz9 hl.byt;have B0:=za w (.cells #[.int .i64 0,.int .i64 0,.slice none 0 0] 41);have B1:=za (w.alloc (.cells #[.int .i64 0,.int .i64 0,.slice none 0 0] 41)) (.cells #[] 5);have HB:=zz9 (zd B0 B1 B0.size);have HL:Hid (Lies ((w.alloc (.cells #[.int .i64 0,.int .i64 0,.slice none 0 0] 41)).alloc (.cells #[] 5)) ((w.alloc (.cells #[.int .i64 0,.int .i64 0,.slice none 0 0] 41)).alloc (.cells #[] 5)).heap.size A c (zA l)):=by
  obtain ⟨A',c',e,_,_,g,_⟩:=hl.on HB.out;injection e with e1 _ e3
  subst e1 e3;exact g
 have HE:Hid (Emp w.heap.size ((w.alloc (.cells #[.int .i64 0,.int .i64 0,.slice none 0 0] 41)).alloc (.cells #[] 5)) (w.heap.size+1)):=⟨by omega,kN w _ _⟩;have HZ:=zz9 (zg B1 (heap_alloc_new w (.cells #[.int .i64 0,.int .i64 0,.slice none 0 0] 41)) (by simp));have hle:l.length<=140737488355328:=by omega
 clear hl B0 B1;go_enter Tryz.func31,Tryz.ntmps31
 go_wp2_with (first
  | (refine zwm (lo:=w.heap.size) rfl (.tmp 3) (.tmp 4) rfl HE.out rfl A l _ c rfl rfl HL.out hle ?_;intro v' w1 ho hb;have HO:=zz9 ho;have HB1:=zz9 hb;obtain ⟨A',c',e1,hsb⟩:=zd4 ho HY.out;subst e1;have HSB:=zz9 hsb;have hz:=zg hb HZ.out (zz7.1 HZ.out).1;clear ho hb hsb)
  | (refine zm rfl (.tmp 2) (.tmp 6) rfl rfl w.heap.size rfl 3 0 A' l.length c' rfl hz ?_;intro w7 g1))
 refine bodyPost_ret (zU (cs:=[_,_,_]) Tryz.results31 Tryz.underlying41 rfl zu _ _ w.heap.size rfl (qI g1.here)) rfl ?_;have hbb:=HB.out.trans (HB1.out.mono HB.out.size);have hsb:SB w1 w1.heap.size (.slice A' l.length c') l:=⟨A',c',rfl,HSB.out⟩;exact ⟨A',c',rfl,hsb.off (g1.off (Nat.zero_le _) xF hz xF),zwd hbb g1⟩
end
section
open Go.RowKit Go.MapKept
theorem zwo {P:Program} {ops:Array Oper} {o:Oper} {a:Act} {K:Act->World->Prop} {Q:Exit->Act->World->Prop} {E:Prop} (hgd:o.guard =none) (s x:Operand) (t:TypeId) (ho:o.op =.call { callee:=.builtin .append,args:=#[s,x],argTypes:=#[t,t] }) {vs vx v':Value} (hs:a.eval s =vs) (hx:a.eval x =vx)
  (hr:(Builtin.append_ #[t,t] o.type #[vs,vx]).run P w =.ok v' w') (hK:K (a.put o.dst v') w'):if Region.wanted o (yielded ops a.tmps) =true then Oper.wp P o a w K Q else E:=by
 have hw:Region.wanted o (yielded ops a.tmps) =true:=by simp [Region.wanted,hgd]
 rw [if_pos hw];unfold Oper.wp execOp;simp only [ho,resolve,invoke,builtin,Sem.run_bind,Sem.run_pure,Result.andThen_ok,List.map_toArray,List.map_cons,List.map_nil,hs,hx,hr];exact hK
abbrev tO (A:Option Addr) (n c:Nat):Obj:=.cells #[.int .i64 3,.int .i64 0,.slice A n c] 41
structure Ar2 (g c':Nat) (Ak:Option Addr) (n ck:Nat) (Av:Option Addr) (m cv:Nat) (w:World):Prop where
 le:2<=c'/\c'<=maxLen
 tag:∃ cs z,w.heap[g]? =some (.cells cs 41 z)
 cells:∀ (j:Nat) (u:Value),[Value.int .i64 3,.int .i64 0,.slice Ak n ck,.int .i64 3,.int .i64 0,.slice Av m cv][j]? =some u->w.cell? ((⟨g,0,none⟩:Addr).add j) =some u
theorem Ar2.on {Ak:Option Addr} {n ck:Nat} {Av:Option Addr} {m cv:Nat} (h:Ar2 g c' Ak n ck Av m cv w) (hb:Below w.heap.size w w'):Ar2 g c' Ak n ck Av m cv w':=by
 obtain ⟨cs,z,ht⟩:=h.tag;have hg:=(zz7.1 ht).1;refine ⟨h.le,⟨cs,z,zg hb ht hg⟩,fun j u hu=>?_⟩;rw [World.cell?_of_block (a:=(⟨g,0,none⟩:Addr).add j) (w:=w) (by rw [qh];exact hb.block g hg)];exact h.cells j u hu
theorem zx5:(Tryz.prog.info? 41).map (fun i=>(i.zero,i.size,i.bytes)) =some (some (.agg #[.int .i64 0,.int .i64 0,.slice none 0 0]),3,40):=by kernel_rfl
theorem zw4 (w:World) (ty:TypeId) (gk gv:Nat) (Ak:Option Addr) (n ck:Nat) (Av:Option Addr) (m cv:Nat) (hk:w.heap[gk]? =some (.cells #[.int .i64 3,.int .i64 0,.slice Ak n ck] 41 (0,0))) (hv:w.heap[gv]? =some (.cells #[.int .i64 3,.int .i64 0,.slice Av m cv] 41 (0,0))) :
  ∃ c' w',(Builtin.append_ #[32,32] ty #[.slice (some ⟨gk,0,none⟩) 1 1,.slice (some ⟨gv,0,none⟩) 1 1]).run Tryz.prog w =.ok (.slice (some ⟨w.heap.size,0,none⟩) 2 c') w'/\Below w.heap.size w w'/\Ar2 w.heap.size c' Ak n ck Av m cv w':=by
 obtain ⟨i,hi,hz0,hz1,hz2⟩:=info_parts zx5;have hcell:∀ (g:Nat) (cs:List Value),w.heap[g]? =some (.cells cs.toArray 41 (0,0))->∀ j u,cs[j]? =some u->w.cell? ((⟨g,0,none⟩:Addr).add j) =some u:=fun g cs h j u hu=>by
  have:=zZ h j u (by simpa using hu);rw [Nat.zero_add] at this;rw [Addr.add_lit,Nat.zero_add];exact this
 have hr:=run_append_grow (P:=Tryz.prog) w 32 ty 41 i _ Tryz.underlying32 hi hz0 ⟨gk,0,none⟩ 1 1 [.int .i64 3,.int .i64 0,.slice Ak n ck] (by rw [hz1];rfl) (hcell gk [_,_,_] hk) ⟨gv,0,none⟩ 1 1 [.int .i64 3,.int .i64 0,.slice Av m cv] (by rw [hz1];rfl) (hcell gv [_,_,_] hv) (by omega) (by decide) (growslice_fits (by omega) (by rw [hz2];decide));refine ⟨_,_,hr,(Below.refl _ _).drew.trans (za w.drew _),⟨grownCap_ge w 2 1 41,grownCap_le_maxLen w 2 1 41 (by unfold maxLen;omega)⟩,⟨_,_,heap_alloc_new w.drew _⟩,fun j u hu=>?_⟩;have hn:=heap_alloc_new w.drew (.cells ([Value.int .i64 3,.int .i64 0,.slice Ak n ck].toArray++[Value.int .i64 3,.int .i64 0,.slice Av m cv].toArray++Builtin.zeroCells (Value.agg #[.int .i64 0,.int .i64 0,.slice none 0 0]).cells (grownCap w 2 1 41-2)) 41);have hj:=(List.getElem?_eq_some_iff.1 hu).1;have:=zZ (cs:=[Value.int .i64 3,.int .i64 0,.slice Ak n ck,.int .i64 3,.int .i64 0,.slice Av m cv]++(Builtin.zeroCells (Value.agg #[.int .i64 0,.int .i64 0,.slice none 0 0]).cells (grownCap w 2 1 41-2)).toList) (by rw [hn];congr 2;simp) j u (by rw [List.getElem?_append_left hj];exact hu);rw [Nat.zero_add] at this;rw [Addr.add_lit,Nat.zero_add];exact this
theorem zxt {s:List Int} (h:s.length<=256):Vok (ya s):=⟨by show (-9223372036854775808:Int)<=0/\(0:Int)<=9223372036854775807;decide,by show s.length<=1000000;omega⟩
theorem Ar2.arg {Ak:Option Addr} {n ck:Nat} {Av:Option Addr} {m cv:Nat} {k v:List Int} (h:Ar2 g c' Ak n ck Av m cv w) (hk:SB w w.heap.size (.slice Ak n ck) k) (hv:SB w w.heap.size (.slice Av m cv) v) (hkl:k.length<=256) (hvl:v.length<=256):ArgX n0 w (.slice (some ⟨g,0,none⟩) 2 c') [ya k,ya v]:=by
 obtain ⟨cs,z,ht⟩:=h.tag;refine ⟨(· =g),[.slice Ak n ck,.slice Av m cv],rfl,⟨_,_,rfl,h.le.1,h.le.2,(fun e=>by cases e),fun j u hu=>⟨_,rfl,rfl,h.cells j u hu⟩⟩,al2 (P:=fun (v:Va) k=>SB w w.heap.size k v.s/\Vok v) ⟨hk,zxt hkl⟩ ⟨hv,zxt hvl⟩,fun b hb=>?_⟩;obtain rfl:b =g:=hb;exact ⟨(zz7.1 ht).1,jX ht (by decide),.inr ⟨_,_,_,ht⟩⟩
theorem ke_p:kD keFX =none:=zxg ▸ zxh.m
theorem ke_s:∀ f∈keFX,shB f.body =true:=zxg ▸ zxh.s
theorem zxs {k v:List Int} (hk:k.length<=256) (hv:v.length<=256):fitB keF0.params [ya k,ya v] =true:=by simp [fitB,fitL,jg,keF0,ya,hk,hv]
theorem zxu {ks:List Two} {c J:Nat} {k v:List Int} (hk:k.length<=256) (hv:v.length<=256):∃ (tr us:Int) (hs':List (List PR)) (cur':List PR),(k.length<=64->tr =0/\hs' =[[]]/\cur' =[(k,v)])/\(64 < k.length->tr =6/\cur' =[])/\hs'.length<=1 /\
  ∀ w' g c' Ak n ck Av m cv,Lw n0 keFX ks A c J [] [] w->Below w.heap.size w w'->Ar2 g c' Ak n ck Av m cv w'->SB w' w'.heap.size (.slice Ak n ck) k->SB w' w'.heap.size (.slice Av m cv) v ->
  Calls Tryz.prog 19 #[.agg #[.slice A 4 c],.string ⟨#[112]⟩,.slice (some ⟨g,0,none⟩) 2 c',.pointer (some ⟨J,0,none⟩),.int .i64 1000] w' fun e w''=>∃ A' c'',e =.returned (.agg #[.int .i64 0,.int .i64 0,.slice A' 0 c'',.int .i64 tr,.int .i64 us])/\Mv n0 NoM w' w''/\Jr n0 w'' J hs' cur'/\Below n0 w w'':=by
 have hc:=zyv (xT keFX) k v [] [] hk hv;by_cases h64:k.length<=64
 ·have hp:putE [] k v =0:=by unfold putE;rw [if_neg (by omega),if_neg (by simp [putM,szM];omega)]
  rw [if_pos hp] at hc;refine ⟨0,3+xC k.length v.length,[[]],[(k,v)],fun _=>⟨rfl,rfl,rfl⟩,fun h=>by omega,by simp,fun w' g c' Ak n ck Av m cv hL hb ha hsk hsv=>?_⟩;exact (vU (hL.on hb) wF wo (by simp) ke_p ke_s [112] (by unfold Byn;decide) _ [ya k,ya v] (ha.arg hsk hsv hk hv) keF0 (by kernel_rfl) (zxs hk hv) 1000 _ _ 0 0 [] 0 rfl rfl _ _ hc).mono fun e w'' ⟨A',c'',e1,e2,e3,_⟩=>⟨A',c'',e1,e2,e3,(hb.mono hL.hn).trans (e2.low (hL.on hb).hn)⟩
 ·have hp:putE [] k v =1:=by unfold putE;rw [if_pos (by omega)]
  rw [if_neg (by rw [hp];decide),if_pos hp] at hc;refine ⟨6,3+xC k.length v.length,[],[],fun h=>by omega,fun _=>⟨rfl,rfl⟩,by simp,fun w' g c' Ak n ck Av m cv hL hb ha hsk hsv=>?_⟩;exact (yy (hL.on hb) wF wo (by simp) ke_p ke_s [112] (by unfold Byn;decide) _ [ya k,ya v] (ha.arg hsk hsv hk hv) keF0 (by kernel_rfl) (zxs hk hv) 1000 6 _ _ _ hc).mono fun e w'' ⟨A',c'',e1,e2,e3⟩=>⟨A',c'',e1,e2,e3,(hb.mono hL.hn).trans (e2.low (hL.on hb).hn)⟩
end
end Go.Proofs.YtcilgkdnjgmogaaGreatDoor
