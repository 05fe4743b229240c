/- A part of the proof. -/
import Derived.Test.YtcilgkdnjgmogaaGreatDoorXb
import Derived.Deep.RegionHeld3
import Derived.ProofKit
import Derived.LaidMore
import Derived.OpenShut
import Derived.Stop.Joined
import Derived.SizedLaws
import Derived.ChangeOld
import Derived.Below
import Derived.ChangeMaps5
import Derived.Test.YtcilgkdnjgmogaaGreatDoorCards
import Derived.JoinedOf
namespace Go.Proofs.YtcilgkdnjgmogaaGreatDoor
set_option maxRecDepth 100000
set_option maxHeartbeats 12800000
set_option linter.all false
variable {A:Option Addr} {W w w':World} {c d g j n n0:Nat} {l:List Nat}
section
open Go.RowKit Go.MapKept
theorem zxm {P:Program} {ops:Array Oper} {rest:List Oper} {o:Oper} {a:Act} {Q:Exit->Act->World->Prop} {v:Value} (hgd:o.guard =none) (d:Nat) (hd:o.dst =some d) (hr:(execOp a.eval o).run P w =.ok (.value v) w') (h:wpList P ops Q rest (a.put o.dst v) w'):wpList P ops Q (o::rest) a w:=by
 refine wpList_plain hgd fun K hK=>?_;unfold Oper.wp;rw [hr];exact hK _ _ h
theorem zyc (k v:List Int):getM [(k,v)] k =v/\hasM [(k,v)] k =true/\delM [(k,v)] k =[]/\hasM [] k =false:=by
 have h0:fnd k [(k,v)] =0:=by
  unfold fnd;simp [List.findIdx_cons]
 refine ⟨?_,?_,?_,?_⟩ <;> simp [getM,hasM,delM,h0]
theorem zwn {k:List Int} (h:w.heap[g]? =some (.cells #[.int .i64 3,.int .i64 0,.slice A n c] 41 (0,0))) (hs:SB w w.heap.size (.slice A n c) k) (hk:k.length<=256):ArgX n0 w (.slice (some ⟨g,0,none⟩) 1 1) [ya k]:=zcu h hs (zxt hk)
theorem zw5 {k:List Int} (hk:k.length<=256) (f:Xf) (hf:f.params =[([107],3)]):fitB f.params [ya k] =true:=by rw [hf];simp [fitB,fitL,jg,ya,hk]
theorem zxb (n0:Nat) (w:World) (J:Nat) (hs:List (List PR)) (h:Jr n0 w J hs []):Calls Tryz.prog 23 #[.pointer (some ⟨J,0,none⟩)] w fun e w'=>(∃ A c,e =.returned (.slice A 0 c))/\Below w.heap.size w w':=
 (zyt n0 w J hs [] h).mono fun e w' hq=>by
  obtain ⟨A,c,rfl,_,_,_,_,hb⟩:=NewO.f hq;exact ⟨⟨A,c,rfl⟩,hb⟩
theorem lw_o {fs:List Xf} {ks:List Two} {c J:Nat} {hs:List (List PR)} {cur:List PR} {W w w':World} {t n trap used t0 n1 p0 u0:Int} {k k0:Value} (h:OSt d (oC t n k trap used) w w') (hw:w.heap[d]? =some (oC t0 n1 k0 p0 u0)) (hl:Lw n0 fs ks A c J hs cur w) (hn:n0<=d) (ho:Off n0 w w'):Lw n0 fs ks A c J hs cur w':=
 ⟨by rw [h.size];exact hl.hn,jr_o h hw ho hl.jr,hl.prog.same (vL (h.below hn))⟩
theorem zxp (A0 A1:Option Addr) (n c0 m c1:Nat) (k v:List Int) (hkn:k.length =n) (hvm:v.length =m) (w:World) (hk:SB w w.heap.size (.slice A0 n c0) k) (hv:SB w w.heap.size (.slice A1 m c1) v) (ht:Tab w):Calls Tryz.prog 10 #[.slice A0 n c0,.slice A1 m c1] w fun e w'=>e =.returned (.bool true)/\Below w.heap.size w w':=by
 have HK:=zz9 hk;have HV:=zz9 hv;have HKN:=zz9 (And.intro hkn hvm);clear hk hv hkn hvm;have HT:=zz9 ht;have hpos:=ht.1;have K:=zz9 (wP w ht);clear ht;go_enter Tryz.func10,Tryz.ntmps10
 go_wp2_with fail
 with_reducible refine K.out.mono ?_
 clear K;rintro e wa ⟨rfl,ba⟩;have HBa:=zz9 ba;clear ba
 go_upto_region 2 with fail
 obtain ⟨O,hm,LF⟩:=zwi wa #[.int .u8 102,.int .u8 110,.int .u8 32,.int .u8 112,.int .u8 40,.int .u8 107,.int .u8 58,.int .u8 32,.int .u8 98,.int .u8 121,.int .u8 116,.int .u8 101,.int .u8 115,.int .u8 44,.int .u8 32,.int .u8 118,.int .u8 58,.int .u8 32,.int .u8 98,.int .u8 121,.int .u8 116,.int .u8 101,.int .u8 115,.int .u8 41,.int .u8 32,.int .u8 123,.int .u8 32,.int .u8 112,.int .u8 117,.int .u8 116,.int .u8 40,.int .u8 107,.int .u8 44,.int .u8 32,.int .u8 118,.int .u8 41,.int .u8 59,.int .u8 32,.int .u8 125,.int .u8 32,.int .u8 102,.int .u8 110,.int .u8 32,.int .u8 103,.int .u8 40,.int .u8 107,.int .u8 58,.int .u8 32,.int .u8 98,.int .u8 121,.int .u8 116,.int .u8 101,.int .u8 115,.int .u8 41,.int .u8 58,.int .u8 32,.int .u8 98,.int .u8 121,.int .u8 116,.int .u8 101,.int .u8 115,.int .u8 32,.int .u8 123,.int .u8 32,.int .u8 114,.int .u8 101,.int .u8 116,.int .u8 117,.int .u8 114,.int .u8 110,.int .u8 32,.int .u8 103,.int .u8 101,.int .u8 116,.int .u8 40,.int .u8 107,.int .u8 41,.int .u8 59,.int .u8 32,.int .u8 125,.int .u8 32,.int .u8 102,.int .u8 110,.int .u8 32,.int .u8 104,.int .u8 40,.int .u8 107,.int .u8 58,.int .u8 32,.int .u8 98,.int .u8 121,.int .u8 116,.int .u8 101,.int .u8 115,.int .u8 41,.int .u8 58,.int .u8 32,.int .u8 98,.int .u8 111,.int .u8 111,.int .u8 108,.int .u8 32,.int .u8 123,.int .u8 32,.int .u8 114,.int .u8 101,.int .u8 116,.int .u8 117,.int .u8 114,.int .u8 110,.int .u8 32,.int .u8 104,.int .u8 97,.int .u8 115,.int .u8 40,.int .u8 107,.int .u8 41,.int .u8 59,.int .u8 32,.int .u8 125,.int .u8 32,.int .u8 102,.int .u8 110,.int .u8 32,.int .u8 100,.int .u8 40,.int .u8 107,.int .u8 58,.int .u8 32,.int .u8 98,.int .u8 121,.int .u8 116,.int .u8 101,.int .u8 115,.int .u8 41,.int .u8 32,.int .u8 123,.int .u8 32,.int .u8 100,.int .u8 101,.int .u8 108,.int .u8 40,.int .u8 107,.int .u8 41,.int .u8 59,.int .u8 32,.int .u8 125] keFT 147 (by kernel_rfl);have B0:=za wa O;have HB0:=zz9 (zd HBa.out B0 HBa.out.size);have K:=zz9 (wU zxh (some ⟨wa.heap.size,0,none⟩) 147 147 (wa.alloc O) rfl (by omega) (by unfold maxLen;omega) LF (HT.out.below HB0.out hpos));clear LF B0 HBa
 go_wp2_with (refine zxm rfl 17 rfl (v:=.slice (some ⟨wa.heap.size,0,none⟩) 147 147) (w':=wa.alloc (.cells #[.int .u8 102,.int .u8 110,.int .u8 32,.int .u8 112,.int .u8 40,.int .u8 107,.int .u8 58,.int .u8 32,.int .u8 98,.int .u8 121,.int .u8 116,.int .u8 101,.int .u8 115,.int .u8 44,.int .u8 32,.int .u8 118,.int .u8 58,.int .u8 32,.int .u8 98,.int .u8 121,.int .u8 116,.int .u8 101,.int .u8 115,.int .u8 41,.int .u8 32,.int .u8 123,.int .u8 32,.int .u8 112,.int .u8 117,.int .u8 116,.int .u8 40,.int .u8 107,.int .u8 44,.int .u8 32,.int .u8 118,.int .u8 41,.int .u8 59,.int .u8 32,.int .u8 125,.int .u8 32,.int .u8 102,.int .u8 110,.int .u8 32,.int .u8 103,.int .u8 40,.int .u8 107,.int .u8 58,.int .u8 32,.int .u8 98,.int .u8 121,.int .u8 116,.int .u8 101,.int .u8 115,.int .u8 41,.int .u8 58,.int .u8 32,.int .u8 98,.int .u8 121,.int .u8 116,.int .u8 101,.int .u8 115,.int .u8 32,.int .u8 123,.int .u8 32,.int .u8 114,.int .u8 101,.int .u8 116,.int .u8 117,.int .u8 114,.int .u8 110,.int .u8 32,.int .u8 103,.int .u8 101,.int .u8 116,.int .u8 40,.int .u8 107,.int .u8 41,.int .u8 59,.int .u8 32,.int .u8 125,.int .u8 32,.int .u8 102,.int .u8 110,.int .u8 32,.int .u8 104,.int .u8 40,.int .u8 107,.int .u8 58,.int .u8 32,.int .u8 98,.int .u8 121,.int .u8 116,.int .u8 101,.int .u8 115,.int .u8 41,.int .u8 58,.int .u8 32,.int .u8 98,.int .u8 111,.int .u8 111,.int .u8 108,.int .u8 32,.int .u8 123,.int .u8 32,.int .u8 114,.int .u8 101,.int .u8 116,.int .u8 117,.int .u8 114,.int .u8 110,.int .u8 32,.int .u8 104,.int .u8 97,.int .u8 115,.int .u8 40,.int .u8 107,.int .u8 41,.int .u8 59,.int .u8 32,.int .u8 125,.int .u8 32,.int .u8 102,.int .u8 110,.int .u8 32,.int .u8 100,.int .u8 40,.int .u8 107,.int .u8 58,.int .u8 32,.int .u8 98,.int .u8 121,.int .u8 116,.int .u8 101,.int .u8 115,.int .u8 41,.int .u8 32,.int .u8 123,.int .u8 32,.int .u8 100,.int .u8 101,.int .u8 108,.int .u8 40,.int .u8 107,.int .u8 41,.int .u8 59,.int .u8 32,.int .u8 125] 5)) (by kernel_rfl) ?_)
 clear hm
 generalize wa.alloc O =w0 at *
 with_reducible refine K.out.mono ?_
 clear K;rintro e w1 ⟨A,c,ks,rfl,hX,b1⟩;rw [zxg,show keFX.length =4 from rfl] at hX ⊢;have HB1:=zd HB0.out b1 HB0.out.size;have c1:=za w1 (.cells #[.slice A 4 c] 26);have X0:Hid ((w1.alloc (.cells #[.slice A 4 c] 26)).cell? ⟨w1.heap.size,0,none⟩ =some (.slice A 4 c)):=by show _ =_;rw [cell_of_row _ _ _ _ _ _ (heap_alloc_new w1 _)];rfl
 have HB2:=zz9 (zd HB1 c1 HB1.size);have HX2:Hid (XfsC (w1.alloc (.cells #[.slice A 4 c] 26)) (Lo (w1.alloc (.cells #[.slice A 4 c] 26)).heap.size) keFX ks (.slice A 4 c)):=(hX.same (xj c1 (zzA0 _))).more fun k hk=>zzA1 hk c1.size;clear hX b1 c1 HB1 HB0
 go_upto_region 3 with fail
 generalize w1.alloc (.cells #[.slice A 4 c] 26) =w2 at *
 generalize w1.heap.size =gp at *
 have hgp:gp < w2.heap.size:=World.block_lt_of_cell? w2 _ X0.out;have HW:Hid (w.heap.size<=w2.heap.size):=HB2.out.size;have K:=zz9 (zge w2.heap.size w2 (zzA0 _))
 go_wp2_with fail
 with_reducible refine K.out.mono ?_
 clear K;rintro e w4 ⟨J,rfl,hJ,hj,b3⟩;have HL:Hid (Lw w2.heap.size keFX ks A c J [] [] w4):=⟨b3.size,hj,HX2.out.same (xj b3 (zzA0 _))⟩;have HX:Hid (∀ w',Below w2.heap.size w4 w'->w'.cell? ⟨gp,0,none⟩ =some (.slice A 4 c)):=fun w' hb=>by rw [hb.cell (p:=⟨gp,0,none⟩) hgp];exact zb X0.out b3
 have HB4:=zz9 (zd HB2.out b3 HB2.out.size);have HN4:Hid (w2.heap.size<=w4.heap.size):=b3.size;clear hj hJ b3 HX2 X0 HB2;by_cases h1:256 < n
 ·have h1':(256:Int) < (n:Int):=by omega
  clear HX HL
  go_wp2
  go_ret;exact ⟨rfl,HB4.out⟩
 have h1':¬ (256:Int) < (n:Int):=by omega
 by_cases h2:256 < m
 ·have h2':(256:Int) < (m:Int):=by omega
  clear HX HL
  go_wp2
  go_ret;exact ⟨rfl,HB4.out⟩
 have h2':¬ (256:Int) < (m:Int):=by omega
 have HLE:Hid (k.length<=256/\v.length<=256):=⟨by have:=HKN.out.1;omega,by have:=HKN.out.2;omega⟩;obtain ⟨tr,us,hs',cur',q1,q2,q3,q4⟩:=zxu (n0:=w2.heap.size) (ks:=ks) (A:=A) (c:=c) (J:=J) (k:=k) (v:=v) (w:=w4) HLE.out.1 HLE.out.2;have HQ:=zz9 (And.intro q1 (And.intro q2 q3));have HR:=zz9 q4;clear q1 q2 q3 q4 h1 h2;have KT:=zz9 (zxi A0 k n c0 HKN.out.1 w4 (HK.out.on HB4.out) (by have:=HLE.out.1;omega))
 go_wp2_with fail
 refine KT.out.mono ?_;rintro e w5 ⟨Ak,ck,rfl,hsk,b5⟩;have ba:=za w5 (tO Ak n ck);have HBk:=zz9 (zd b5 ba b5.size);have HGk:=zz9 (heap_alloc_new w5 (tO Ak n ck));have HSk:=zz9 (hsk.on ba);have HGK:Hid (w4.heap.size<=w5.heap.size):=b5.size;clear KT b5 ba hsk
 go_upto_region 9 with fail
 generalize w5.alloc (.cells #[.int .i64 3,.int .i64 0,.slice Ak n ck] 41) =wk at *
 generalize w5.heap.size =gk at *
 go_cut [11] (fun p wx=>∃ gx A6 c6,p =.pointer (some ⟨gx,0,none⟩)/\wx.heap[gx]? =some (oC 0 0 (.slice A6 0 c6) tr us)/\Below w.heap.size w wx/\Lw w2.heap.size keFX ks A c J hs' cur' wx/\wx.heap[gk]? =some (.cells #[.int .i64 3,.int .i64 0,.slice Ak n ck] 41 (0,0))/\SB wx wx.heap.size (.slice Ak n ck) k/\wx.cell? ⟨gp,0,none⟩ =some (.slice A 4 c))
 case first=>
  have SA:Hid (∀ x,Below wk.heap.size wk x->x.cell? ⟨gp,0,none⟩ =some (.slice A 4 c)):=fun x hb=>HX.out x ((HBk.out.trans (hb.mono HBk.out.size)).mono HN4.out);have KF:Hid (∀ x,Below wk.heap.size wk x->x.heap[gk]? =some (.cells #[.int .i64 3,.int .i64 0,.slice Ak n ck] 41 (0,0))/\SB x x.heap.size (.slice Ak n ck) k):=fun x hb=>⟨zg hb HGk.out (zz7.1 HGk.out).1,HSk.out.on hb⟩;have KV:Hid (∀ x,Below wk.heap.size wk x->Calls Tryz.prog 31 #[.slice A1 m c1] x fun e w'=>∃ A' c',e =.returned (.agg #[.int .i64 3,.int .i64 0,.slice A' m c'])/\SB w' w'.heap.size (.slice A' m c') v/\Below x.heap.size x w'):=fun x hb=>zxi A1 v m c1 HKN.out.2 x (HV.out.on (HB4.out.trans ((HBk.out.trans (hb.mono HBk.out.size)).mono HB4.out.size))) (by have:=HLE.out.2;omega);have KR:Hid (∀ x g c' Av cv,Below wk.heap.size wk x->Ar2 g c' Ak n ck Av m cv x->SB x x.heap.size (.slice Av m cv) v->Calls Tryz.prog 19 #[.agg #[.slice A 4 c],.string ⟨#[112]⟩,.slice (some ⟨g,0,none⟩) 2 c',.pointer (some ⟨J,0,none⟩),.int .i64 1000] x fun e w''=>∃ A' c'',e =.returned (.agg #[.int .i64 0,.int .i64 0,.slice A' 0 c'',.int .i64 tr,.int .i64 us])/\Mv w2.heap.size NoM x w''/\Jr w2.heap.size w'' J hs' cur'/\Below w2.heap.size w4 w''):=fun x g c' Av cv hb ha hs=>HR.out x g c' Ak n ck Av m cv HL.out (HBk.out.trans (hb.mono HBk.out.size)) ha (KF.out x hb).2 hs;have D0:Hid (Below wk.heap.size wk wk.drew):=(Below.refl _ _).drew;have HSZ:Hid (w.heap.size<=wk.heap.size/\gp < wk.heap.size/\gk < wk.heap.size):=⟨zzA2 HB4.out.size HBk.out.size,by have:=HN4.out;have:=HBk.out.size;omega,(zz7.1 HGk.out).1⟩;clear HR;refine wp_region_noPanic ?_;refine wp_region_held_drew (S:=fun x=>x.cell? ⟨gp,0,none⟩ =some (.slice A 4 c)) (by kernel_rfl) (SA.out _ D0.out) (fun hHeld=>?_);have L0:=zz9 D0.out;clear D0
  generalize wk.drew =x0 at *
  refine zz8 0 ?v0_1 rfl (fun _ _ _ h=>h) ?y0_1 ?r0_1
  case y0_1=>(intro w hSw;(try dsimp only at hSw);go_simp;(try with_reducible rfl))
  try simp only [Act.put,zz1,zz2,zz3,zz4,zz5,zz6]
  refine zz8 1 ?v1_2 rfl (fun _ _ _ h=>h) ?y1_2 ?r1_2
  case y1_2=>(intro w hSw;(try dsimp only at hSw);go_simp;(try with_reducible rfl))
  try simp only [Act.put,zz1,zz2,zz3,zz4,zz5,zz6]
  refine zz8 2 ?v2_3 rfl (fun _ _ _ h=>h) ?y2_3 ?r2_3
  case y2_3=>(intro w hSw;(try dsimp only at hSw);go_simp;(try with_reducible rfl))
  try simp only [Act.put,zz1,zz2,zz3,zz4,zz5,zz6]
  refine zz8 6 ?v6_4 rfl (fun _ _ _ h=>h) ?y6_4 ?r6_4
  case y6_4=>(intro w hSw;(try dsimp only at hSw);go_simp;(try with_reducible rfl))
  try simp only [Act.put,zz1,zz2,zz3,zz4,zz5,zz6]
  refine wpAnyH_ready (rs:=[3,8]) (by kernel_rfl) (by simp) ?_;refine AllReadyH.cons rfl (fun K hK=>?_) (AllReadyH.cons rfl (fun K hK=>?_) AllReadyH.nil)
  ·go_simp
   (with_reducible refine (KV.out _ L0.out).mono ?_)
   rintro e x1 ⟨Av,cv,rfl,hsv,hb⟩;have L1:=zz9 (L0.out.trans (hb.mono L0.out.size));have V1:=zz9 hsv;clear hb hsv
   go_wp2_with fail
   refine hK.out _ _ (SA.out _ L1.out) (fun hHeld=>?_);clear hK K
   try simp only [Act.put,zz1,zz2,zz3,zz4,zz5,zz6]
   refine wpAnyH_ready (rs:=[4,8]) (by kernel_rfl) (by simp) ?_;refine AllReadyH.cons rfl (fun K hK=>?_) (AllReadyH.cons rfl (fun K hK=>?_) AllReadyH.nil)
   ·go_simp
    have hb:=za x1 (.cells #[.int .i64 3,.int .i64 0,.slice Av m cv] 41);have L2:=zz9 (L1.out.trans (hb.mono L1.out.size));have G2:=zz9 (heap_alloc_new x1 (.cells #[.int .i64 3,.int .i64 0,.slice Av m cv] 41));have V2:=zz9 (V1.out.on hb);clear hb
    generalize x1.alloc (.cells #[.int .i64 3,.int .i64 0,.slice Av m cv] 41) =x2 at *
    generalize x1.heap.size =gv at *
    refine hK.out _ _ (SA.out _ L2.out) (fun hHeld=>?_);clear hK K
    try simp only [Act.put,zz1,zz2,zz3,zz4,zz5,zz6]
    refine wpAnyH_ready (rs:=[5,8]) (by kernel_rfl) (by simp) ?_;refine AllReadyH.cons rfl (fun K hK=>?_) (AllReadyH.cons rfl (fun K hK=>?_) AllReadyH.nil)
    ·obtain ⟨c',x3,hr,hb,hP⟩:=zw4 x2 32 gk gv Ak n ck Av m cv (KF.out _ L2.out).1 G2.out
     refine zwo rfl (.tmp 43) (.tmp 46) 32 rfl rfl rfl hr ?_;have L3:=zz9 (L2.out.trans (hb.mono L2.out.size));have P3:=zz9 hP;have V3:=zz9 (V2.out.on hb);have G3:=zz9 (zg hb G2.out (zz7.1 G2.out).1);clear hb hP hr
     generalize x2.heap.size =ga at *
     refine hK.out _ _ (SA.out _ L3.out) (fun hHeld=>?_);clear hK K
     try simp only [Act.put,zz1,zz2,zz3,zz4,zz5,zz6]
     refine wpAnyH_ready (rs:=[7,8]) (by kernel_rfl) (by simp) ?_;refine AllReadyH.cons rfl (fun K hK=>?_) (AllReadyH.cons rfl (fun K hK=>?_) AllReadyH.nil)
     ·go_simp
      (with_reducible refine (KR.out _ _ _ _ _ L3.out P3.out V3.out).mono ?_)
      rintro e x4 ⟨A6,c6,rfl,hm6,hj6,hb6⟩;have HJ6:=zz9 ((HL.out.on (HBk.out.trans (L3.out.mono HBk.out.size))).mv hm6 hj6);have HB6:Hid (Below w.heap.size w x4):=HB4.out.trans (hb6.mono HW.out);have HK6:=zz9 (hm6.kept (KF.out _ L3.out).1 (by decide));have HS6:=zz9 ((KF.out _ L3.out).2.off hm6.off);have HX6:=zz9 (HX.out x4 hb6);clear hm6 hj6 hb6
      go_wp2_with fail
      refine hK.out _ _ HX6.out (fun hHeld=>?_);clear hK K
      try simp only [Act.put,zz1,zz2,zz3,zz4,zz5,zz6]
      refine wpAnyH_ready (rs:=[8]) (by kernel_rfl) (by simp) ?_;refine AllReadyH.cons rfl (fun K hK=>?_) AllReadyH.nil
      go_simp
      have c8:=za x4 zO44;obtain ⟨⟨d0,d1,d2,d3,d4⟩,f0,f1,f2,f3,f4⟩:=xi (heap_alloc_new x4 zO44);refine hK.out _ _ (zb HX6.out c8) (fun hHeld=>?_);clear hK K
      try simp only [Act.put,zz1,zz2,zz3,zz4,zz5,zz6]
      refine wpAnyH_ready (rs:=[9]) (by kernel_rfl) (by simp) ?_;refine AllReadyH.cons rfl (fun K hK=>?_) AllReadyH.nil
      go_simp
      have c9:=za x4 (oC 0 0 (.slice A6 0 c6) tr us);refine hK.out _ _ (zb HX6.out c9) (fun hHeld=>?_);clear hK K;refine wpAnyH_done (by kernel_rfl) ?_ _;refine NoPanic.normal ?_
      (try go_wp2_with fail)
      go_meet
      exact ⟨_,A6,c6,rfl,heap_alloc_new x4 (oC 0 0 (.slice A6 0 c6) tr us),zd HB6.out c9 HB6.out.size,HJ6.out.on c9,zg c9 HK6.out (zz7.1 HK6.out).1,HS6.out.on c9,zb HX6.out c9⟩
     ·go_simp
      have hb:=za x3 zO44;have L4:=zz9 (L3.out.trans (hb.mono L3.out.size));have Z4:=zz9 (heap_alloc_new x3 zO44);have HGN:Hid (w2.heap.size<=x3.heap.size):=zzA2 HN4.out (zzA2 HBk.out.size L3.out.size);have HGZ:Hid (w.heap.size<=x3.heap.size/\gp≠x3.heap.size/\gk≠x3.heap.size):=⟨zzA2 HSZ.out.1 L3.out.size,Nat.ne_of_lt (zzA1 HSZ.out.2.1 L3.out.size),Nat.ne_of_lt (zzA1 HSZ.out.2.2 L3.out.size)⟩;have V4:=zz9 (V3.out.on hb);have P4:=zz9 (P3.out.on hb);clear hb
      generalize x3.alloc (.cells #[.int .i64 0,.int .i64 0,.slice none 0 0,.int .i64 0,.int .i64 0] 44) =x4 at *
      generalize x3.heap.size =gz at *
      refine hK.out _ _ (SA.out _ L4.out) (fun hHeld=>?_);clear hK K
      try simp only [Act.put,zz1,zz2,zz3,zz4,zz5,zz6]
      refine wpAnyH_ready (rs:=[7]) (by kernel_rfl) (by simp) ?_;refine AllReadyH.cons rfl (fun K hK=>?_) AllReadyH.nil
      go_simp
      (with_reducible refine (KR.out _ _ _ _ _ L4.out P4.out V4.out).mono ?_)
      rintro e x5 ⟨A6,c6,rfl,hm6,hj6,hb6⟩;have HJ6:=zz9 ((HL.out.on (HBk.out.trans (L4.out.mono HBk.out.size))).mv hm6 hj6);have HB6:Hid (Below w.heap.size w x5):=HB4.out.trans (hb6.mono HW.out);have HK6:=zz9 (hm6.kept (KF.out _ L4.out).1 (by decide));have HS6:=zz9 ((KF.out _ L4.out).2.off hm6.off);have HX6:=zz9 (HX.out x5 hb6);have Z5:=zz9 (hm6.kept Z4.out (by decide));clear hm6 hj6 hb6
      go_wp2_with fail
      refine hK.out _ _ HX6.out (fun hHeld=>?_);clear hK K
      try simp only [Act.put,zz1,zz2,zz3,zz4,zz5,zz6]
      obtain ⟨⟨d0,d1,d2,d3,d4⟩,f0,f1,f2,f3,f4⟩:=xi Z5.out;have hS:=zha Z5.out 0 0 (.slice A6 0 c6) tr us;refine wpAnyH_ready (rs:=[9]) (by kernel_rfl) (by simp) ?_;refine AllReadyH.cons rfl (fun K hK=>?_) AllReadyH.nil
      go_simp
      refine hK.out _ _ (zdx HX6.out HGZ.out.2.1) (fun hHeld=>?_);clear hK K;refine wpAnyH_done (by kernel_rfl) ?_ _;refine NoPanic.normal ?_
      (try go_wp2_with fail)
      go_meet
      exact ⟨_,A6,c6,rfl,hS.here,HB6.out.trans (hS.below HGZ.out.1),lw_o (W:=w) hS Z5.out HJ6.out HGN.out (zt9 hS Z5.out HGN.out xF xF),(hS.far _ HGZ.out.2.2).trans HK6.out,HS6.out.off (zt9 hS Z5.out (Nat.zero_le _) xF xF),zdx HX6.out HGZ.out.2.1⟩
    ·go_simp
     have hb:=za x2 zO44;have L3:=zz9 (L2.out.trans (hb.mono L2.out.size));have Z3:=zz9 (heap_alloc_new x2 zO44);have HGN:Hid (w2.heap.size<=x2.heap.size):=zzA2 HN4.out (zzA2 HBk.out.size L2.out.size);have HGZ:Hid (w.heap.size<=x2.heap.size/\gp≠x2.heap.size/\gk≠x2.heap.size):=⟨zzA2 HSZ.out.1 L2.out.size,Nat.ne_of_lt (zzA1 HSZ.out.2.1 L2.out.size),Nat.ne_of_lt (zzA1 HSZ.out.2.2 L2.out.size)⟩;have V3:=zz9 (V2.out.on hb);have G3:=zz9 (zg hb G2.out (zz7.1 G2.out).1);clear hb
     generalize x2.alloc (.cells #[.int .i64 0,.int .i64 0,.slice none 0 0,.int .i64 0,.int .i64 0] 44) =x3 at *
     generalize x2.heap.size =gz at *
     refine hK.out _ _ (SA.out _ L3.out) (fun hHeld=>?_);clear hK K
     try simp only [Act.put,zz1,zz2,zz3,zz4,zz5,zz6]
     refine wpAnyH_ready (rs:=[5]) (by kernel_rfl) (by simp) ?_;refine AllReadyH.cons rfl (fun K hK=>?_) AllReadyH.nil;obtain ⟨c',x4,hr,hb,hP⟩:=zw4 x3 32 gk gv Ak n ck Av m cv (KF.out _ L3.out).1 G3.out;refine zwo rfl (.tmp 43) (.tmp 46) 32 rfl rfl rfl hr ?_;have L4:=zz9 (L3.out.trans (hb.mono L3.out.size));have P4:=zz9 hP;have V4:=zz9 (V3.out.on hb);have G4:=zz9 (zg hb G3.out (zz7.1 G3.out).1);have Z4:=zz9 (zg hb Z3.out (zz7.1 Z3.out).1);clear hb hP hr
     generalize x3.heap.size =ga at *
     refine hK.out _ _ (SA.out _ L4.out) (fun hHeld=>?_);clear hK K
     try simp only [Act.put,zz1,zz2,zz3,zz4,zz5,zz6]
     refine wpAnyH_ready (rs:=[7]) (by kernel_rfl) (by simp) ?_;refine AllReadyH.cons rfl (fun K hK=>?_) AllReadyH.nil
     go_simp
     (with_reducible refine (KR.out _ _ _ _ _ L4.out P4.out V4.out).mono ?_)
     rintro e x5 ⟨A6,c6,rfl,hm6,hj6,hb6⟩;have HJ6:=zz9 ((HL.out.on (HBk.out.trans (L4.out.mono HBk.out.size))).mv hm6 hj6);have HB6:Hid (Below w.heap.size w x5):=HB4.out.trans (hb6.mono HW.out);have HK6:=zz9 (hm6.kept (KF.out _ L4.out).1 (by decide));have HS6:=zz9 ((KF.out _ L4.out).2.off hm6.off);have HX6:=zz9 (HX.out x5 hb6);have Z5:=zz9 (hm6.kept Z4.out (by decide));clear hm6 hj6 hb6
     go_wp2_with fail
     refine hK.out _ _ HX6.out (fun hHeld=>?_);clear hK K
     try simp only [Act.put,zz1,zz2,zz3,zz4,zz5,zz6]
     obtain ⟨⟨d0,d1,d2,d3,d4⟩,f0,f1,f2,f3,f4⟩:=xi Z5.out;have hS:=zha Z5.out 0 0 (.slice A6 0 c6) tr us;refine wpAnyH_ready (rs:=[9]) (by kernel_rfl) (by simp) ?_;refine AllReadyH.cons rfl (fun K hK=>?_) AllReadyH.nil
     go_simp
     refine hK.out _ _ (zdx HX6.out HGZ.out.2.1) (fun hHeld=>?_);clear hK K;refine wpAnyH_done (by kernel_rfl) ?_ _;refine NoPanic.normal ?_
     (try go_wp2_with fail)
     go_meet
     exact ⟨_,A6,c6,rfl,hS.here,HB6.out.trans (hS.below HGZ.out.1),lw_o (W:=w) hS Z5.out HJ6.out HGN.out (zt9 hS Z5.out HGN.out xF xF),(hS.far _ HGZ.out.2.2).trans HK6.out,HS6.out.off (zt9 hS Z5.out (Nat.zero_le _) xF xF),zdx HX6.out HGZ.out.2.1⟩
   ·go_simp
    have hb:=za x1 zO44;have L2:=zz9 (L1.out.trans (hb.mono L1.out.size));have Z2:=zz9 (heap_alloc_new x1 zO44);have HGN:Hid (w2.heap.size<=x1.heap.size):=zzA2 HN4.out (zzA2 HBk.out.size L1.out.size);have HGZ:Hid (w.heap.size<=x1.heap.size/\gp≠x1.heap.size/\gk≠x1.heap.size):=⟨zzA2 HSZ.out.1 L1.out.size,Nat.ne_of_lt (zzA1 HSZ.out.2.1 L1.out.size),Nat.ne_of_lt (zzA1 HSZ.out.2.2 L1.out.size)⟩;have V2:=zz9 (V1.out.on hb);clear hb
    generalize x1.alloc (.cells #[.int .i64 0,.int .i64 0,.slice none 0 0,.int .i64 0,.int .i64 0] 44) =x2 at *
    generalize x1.heap.size =gz at *
    refine hK.out _ _ (SA.out _ L2.out) (fun hHeld=>?_);clear hK K
    try simp only [Act.put,zz1,zz2,zz3,zz4,zz5,zz6]
    refine wpAnyH_ready (rs:=[4]) (by kernel_rfl) (by simp) ?_;refine AllReadyH.cons rfl (fun K hK=>?_) AllReadyH.nil
    go_simp
    have hb:=za x2 (.cells #[.int .i64 3,.int .i64 0,.slice Av m cv] 41);have L3:=zz9 (L2.out.trans (hb.mono L2.out.size));have G3:=zz9 (heap_alloc_new x2 (.cells #[.int .i64 3,.int .i64 0,.slice Av m cv] 41));have V3:=zz9 (V2.out.on hb);have Z3:=zz9 (zg hb Z2.out (zz7.1 Z2.out).1);clear hb
    generalize x2.alloc (.cells #[.int .i64 3,.int .i64 0,.slice Av m cv] 41) =x3 at *
    generalize x2.heap.size =gv at *
    refine hK.out _ _ (SA.out _ L3.out) (fun hHeld=>?_);clear hK K
    try simp only [Act.put,zz1,zz2,zz3,zz4,zz5,zz6]
    refine wpAnyH_ready (rs:=[5]) (by kernel_rfl) (by simp) ?_;refine AllReadyH.cons rfl (fun K hK=>?_) AllReadyH.nil;obtain ⟨c',x4,hr,hb,hP⟩:=zw4 x3 32 gk gv Ak n ck Av m cv (KF.out _ L3.out).1 G3.out;refine zwo rfl (.tmp 43) (.tmp 46) 32 rfl rfl rfl hr ?_;have L4:=zz9 (L3.out.trans (hb.mono L3.out.size));have P4:=zz9 hP;have V4:=zz9 (V3.out.on hb);have G4:=zz9 (zg hb G3.out (zz7.1 G3.out).1);have Z4:=zz9 (zg hb Z3.out (zz7.1 Z3.out).1);clear hb hP hr
    generalize x3.heap.size =ga at *
    refine hK.out _ _ (SA.out _ L4.out) (fun hHeld=>?_);clear hK K
    try simp only [Act.put,zz1,zz2,zz3,zz4,zz5,zz6]
    refine wpAnyH_ready (rs:=[7]) (by kernel_rfl) (by simp) ?_;refine AllReadyH.cons rfl (fun K hK=>?_) AllReadyH.nil
    go_simp
    (with_reducible refine (KR.out _ _ _ _ _ L4.out P4.out V4.out).mono ?_)
    rintro e x5 ⟨A6,c6,rfl,hm6,hj6,hb6⟩;have HJ6:=zz9 ((HL.out.on (HBk.out.trans (L4.out.mono HBk.out.size))).mv hm6 hj6);have HB6:Hid (Below w.heap.size w x5):=HB4.out.trans (hb6.mono HW.out);have HK6:=zz9 (hm6.kept (KF.out _ L4.out).1 (by decide));have HS6:=zz9 ((KF.out _ L4.out).2.off hm6.off);have HX6:=zz9 (HX.out x5 hb6);have Z5:=zz9 (hm6.kept Z4.out (by decide));clear hm6 hj6 hb6
    go_wp2_with fail
    refine hK.out _ _ HX6.out (fun hHeld=>?_);clear hK K
    try simp only [Act.put,zz1,zz2,zz3,zz4,zz5,zz6]
    obtain ⟨⟨d0,d1,d2,d3,d4⟩,f0,f1,f2,f3,f4⟩:=xi Z5.out;have hS:=zha Z5.out 0 0 (.slice A6 0 c6) tr us;refine wpAnyH_ready (rs:=[9]) (by kernel_rfl) (by simp) ?_;refine AllReadyH.cons rfl (fun K hK=>?_) AllReadyH.nil
    go_simp
    refine hK.out _ _ (zdx HX6.out HGZ.out.2.1) (fun hHeld=>?_);clear hK K;refine wpAnyH_done (by kernel_rfl) ?_ _;refine NoPanic.normal ?_
    (try go_wp2_with fail)
    go_meet
    exact ⟨_,A6,c6,rfl,hS.here,HB6.out.trans (hS.below HGZ.out.1),lw_o (W:=w) hS Z5.out HJ6.out HGN.out (zt9 hS Z5.out HGN.out xF xF),(hS.far _ HGZ.out.2.2).trans HK6.out,HS6.out.off (zt9 hS Z5.out (Nat.zero_le _) xF xF),zdx HX6.out HGZ.out.2.1⟩
  ·go_simp
   have hb:=za x0 zO44;have L1:=zz9 (L0.out.trans (hb.mono L0.out.size));have Z1:=zz9 (heap_alloc_new x0 zO44);have HGN:Hid (w2.heap.size<=x0.heap.size):=zzA2 HN4.out (zzA2 HBk.out.size L0.out.size);have HGZ:Hid (w.heap.size<=x0.heap.size/\gp≠x0.heap.size/\gk≠x0.heap.size):=⟨zzA2 HSZ.out.1 L0.out.size,Nat.ne_of_lt (zzA1 HSZ.out.2.1 L0.out.size),Nat.ne_of_lt (zzA1 HSZ.out.2.2 L0.out.size)⟩;clear hb
   generalize x0.alloc (.cells #[.int .i64 0,.int .i64 0,.slice none 0 0,.int .i64 0,.int .i64 0] 44) =x1 at *
   generalize x0.heap.size =gz at *
   refine hK.out _ _ (SA.out _ L1.out) (fun hHeld=>?_);clear hK K
   try simp only [Act.put,zz1,zz2,zz3,zz4,zz5,zz6]
   refine wpAnyH_ready (rs:=[3]) (by kernel_rfl) (by simp) ?_;refine AllReadyH.cons rfl (fun K hK=>?_) AllReadyH.nil
   go_simp
   (with_reducible refine (KV.out _ L1.out).mono ?_)
   rintro e x2 ⟨Av,cv,rfl,hsv,hb⟩;have L2:=zz9 (L1.out.trans (hb.mono L1.out.size));have V2:=zz9 hsv;have Z2:=zz9 (zg hb Z1.out (zz7.1 Z1.out).1);clear hb hsv
   go_wp2_with fail
   refine hK.out _ _ (SA.out _ L2.out) (fun hHeld=>?_);clear hK K
   try simp only [Act.put,zz1,zz2,zz3,zz4,zz5,zz6]
   refine wpAnyH_ready (rs:=[4]) (by kernel_rfl) (by simp) ?_;refine AllReadyH.cons rfl (fun K hK=>?_) AllReadyH.nil
   go_simp
   have hb:=za x2 (.cells #[.int .i64 3,.int .i64 0,.slice Av m cv] 41);have L3:=zz9 (L2.out.trans (hb.mono L2.out.size));have G3:=zz9 (heap_alloc_new x2 (.cells #[.int .i64 3,.int .i64 0,.slice Av m cv] 41));have V3:=zz9 (V2.out.on hb);have Z3:=zz9 (zg hb Z2.out (zz7.1 Z2.out).1);clear hb
   generalize x2.alloc (.cells #[.int .i64 3,.int .i64 0,.slice Av m cv] 41) =x3 at *
   generalize x2.heap.size =gv at *
   refine hK.out _ _ (SA.out _ L3.out) (fun hHeld=>?_);clear hK K
   try simp only [Act.put,zz1,zz2,zz3,zz4,zz5,zz6]
   refine wpAnyH_ready (rs:=[5]) (by kernel_rfl) (by simp) ?_;refine AllReadyH.cons rfl (fun K hK=>?_) AllReadyH.nil;obtain ⟨c',x4,hr,hb,hP⟩:=zw4 x3 32 gk gv Ak n ck Av m cv (KF.out _ L3.out).1 G3.out;refine zwo rfl (.tmp 43) (.tmp 46) 32 rfl rfl rfl hr ?_;have L4:=zz9 (L3.out.trans (hb.mono L3.out.size));have P4:=zz9 hP;have V4:=zz9 (V3.out.on hb);have G4:=zz9 (zg hb G3.out (zz7.1 G3.out).1);have Z4:=zz9 (zg hb Z3.out (zz7.1 Z3.out).1);clear hb hP hr
   generalize x3.heap.size =ga at *
   refine hK.out _ _ (SA.out _ L4.out) (fun hHeld=>?_);clear hK K
   try simp only [Act.put,zz1,zz2,zz3,zz4,zz5,zz6]
   refine wpAnyH_ready (rs:=[7]) (by kernel_rfl) (by simp) ?_;refine AllReadyH.cons rfl (fun K hK=>?_) AllReadyH.nil
   go_simp
   (with_reducible refine (KR.out _ _ _ _ _ L4.out P4.out V4.out).mono ?_)
   rintro e x5 ⟨A6,c6,rfl,hm6,hj6,hb6⟩;have HJ6:=zz9 ((HL.out.on (HBk.out.trans (L4.out.mono HBk.out.size))).mv hm6 hj6);have HB6:Hid (Below w.heap.size w x5):=HB4.out.trans (hb6.mono HW.out);have HK6:=zz9 (hm6.kept (KF.out _ L4.out).1 (by decide));have HS6:=zz9 ((KF.out _ L4.out).2.off hm6.off);have HX6:=zz9 (HX.out x5 hb6);have Z5:=zz9 (hm6.kept Z4.out (by decide));clear hm6 hj6 hb6
   go_wp2_with fail
   refine hK.out _ _ HX6.out (fun hHeld=>?_);clear hK K
   try simp only [Act.put,zz1,zz2,zz3,zz4,zz5,zz6]
   obtain ⟨⟨d0,d1,d2,d3,d4⟩,f0,f1,f2,f3,f4⟩:=xi Z5.out;have hS:=zha Z5.out 0 0 (.slice A6 0 c6) tr us;refine wpAnyH_ready (rs:=[9]) (by kernel_rfl) (by simp) ?_;refine AllReadyH.cons rfl (fun K hK=>?_) AllReadyH.nil
   go_simp
   refine hK.out _ _ (zdx HX6.out HGZ.out.2.1) (fun hHeld=>?_);clear hK K;refine wpAnyH_done (by kernel_rfl) ?_ _;refine NoPanic.normal ?_
   (try go_wp2_with fail)
   go_meet
   exact ⟨_,A6,c6,rfl,hS.here,HB6.out.trans (hS.below HGZ.out.1),lw_o (W:=w) hS Z5.out HJ6.out HGN.out (zt9 hS Z5.out HGN.out xF xF),(hS.far _ HGZ.out.2.2).trans HK6.out,HS6.out.off (zt9 hS Z5.out (Nat.zero_le _) xF xF),zdx HX6.out HGZ.out.2.1⟩
 case rest=>
  obtain ⟨gx,A6,c6,rfl,XB,hbw,hlw,hgk,hsk,hcell⟩:=hcut;have HX0:=zz9 XB;have HB0:=zz9 hbw;have HL0:=zz9 hlw;have HG0:=zz9 hgk;have HS0:=zz9 hsk;clear XB hbw hlw hgk hsk HX HR HL;by_cases h64:n<=64
  rotate_left
  ·obtain ⟨e1,e2⟩:=HQ.out.2.1 (by rw [HKN.out.1];omega)
   subst e1 e2;have h64':(64:Int) < (n:Int):=by omega
   obtain ⟨⟨z0,z1,z2,z3,z4⟩,_⟩:=xi HX0.out;have KP:=zz9 (zxb _ _ J _ HL0.out.jr);clear HQ h64
   go_wp2_with fail
   refine KP.out.mono ?_;rintro e w9 ⟨⟨A9,c9,rfl⟩,b9⟩;have HB9:=zz9 (zd HB0.out b9 HB0.out.size);clear b9 KP
   go_wp2
   go_ret;exact ⟨rfl,HB9.out⟩
  ·obtain ⟨e1,e2,e3⟩:=HQ.out.1 (by rw [HKN.out.1];exact h64)
   subst e1 e2 e3;have h64':¬ (64:Int) < (n:Int):=by omega
   obtain ⟨o1,o2,o3,o4⟩:=zyc k v;have HO:=zz9 (And.intro o1 (And.intro o2 (And.intro o3 o4)));clear HQ h64 o1 o2 o3 o4
   have K:Hid (Calls Tryz.prog 19 #[.agg #[.slice A 4 c],.string ⟨#[103]⟩,.slice (some ⟨gk,0,none⟩) 1 1,.pointer (some ⟨J,0,none⟩),.int .i64 1000] wc fun e w'=>∃ A' c',e =.returned (.agg #[.int .i64 3,.int .i64 0,.slice A' m c',.int .i64 0,.int .i64 5])/\Mv w2.heap.size NoM wc w'/\Jr w2.heap.size w' J [[]] [(k,v)]/\SB w' w'.heap.size (.slice A' m c') v):=
    vU HL0.out wF wo (by simp) ke_p ke_s [103] (by unfold Byn;decide) _ [ya k] (zwn HG0.out HS0.out HLE.out.1) keF1 (by kernel_rfl) (zw5 HLE.out.1 keF1 rfl) 1000 5 _ 3 0 v m (by rw [HO.out.1];rfl) HKN.out.2 [[]] [(k,v)] (zyw (xT keFX) k [[]] [(k,v)])
   go_wp2_with fail
   refine K.out.mono ?_;rintro e wg ⟨Awg,cwg,rfl,hm,hj,hsb⟩;clear K;have L1:=HL0.out.mv hm hj;have G1:=hm.kept HG0.out (by decide);have S1:=HS0.out.off hm.off;have C1:wg.cell? ⟨gp,0,none⟩ =some (.slice A 4 c):=by rw [(hm.low HL0.out.hn).cell (p:=⟨gp,0,none⟩) hgp];exact hcell
   have B1:=HB0.out.trans ((hm.low HL0.out.hn).mono HW.out);have HXq:=hm.kept HX0.out (by decide);have cb:=za wg (oC 3 0 (.slice Awg m cwg) 0 5);have HL1:=zz9 (L1.on cb);have HG1:=zz9 (zg cb G1 (zz7.1 G1).1);have HS1:=zz9 (S1.on cb);have HB1:=zz9 (zd B1 cb B1.size);have hcell2:=zb C1 cb;have HY1:=zz9 (heap_alloc_new wg (oC 3 0 (.slice Awg m cwg) 0 5));have HX1:=zz9 (zg cb HXq (zz7.1 HXq).1);have HT1:=zz9 (hsb.on cb);clear L1 G1 S1 C1 B1 cb hm hj hsb HL0 HG0 HS0 HB0 hcell HXq HX0;have hcell:=hcell2;clear hcell2
   go_upto_region 13 with fail
   generalize wg.alloc (.cells #[.int .i64 3,.int .i64 0,.slice Awg m cwg,.int .i64 0,.int .i64 5] 44) =W1 at *
   generalize wg.heap.size =gHY at *
   have K:Hid (Calls Tryz.prog 19 #[.agg #[.slice A 4 c],.string ⟨#[104]⟩,.slice (some ⟨gk,0,none⟩) 1 1,.pointer (some ⟨J,0,none⟩),.int .i64 1000] W1 fun e w'=>∃ A' c',e =.returned (.agg #[.int .i64 2,.int .i64 1,.slice A' 0 c',.int .i64 0,.int .i64 5])/\Mv w2.heap.size NoM W1 w'/\Jr w2.heap.size w' J [[]] [(k,v)]/\SB w' w'.heap.size (.slice A' 0 c') []):=
    vU HL1.out wF wo (by simp) ke_p ke_s [104] (by unfold Byn;decide) _ [ya k] (zwn HG1.out HS1.out HLE.out.1) keF2 (by kernel_rfl) (zw5 HLE.out.1 keF2 rfl) 1000 5 _ 2 1 [] 0 (by rw [HO.out.2.1];rfl) rfl [[]] [(k,v)] (zxx (xT keFX) k [[]] [(k,v)])
   go_wp2_with fail
   refine K.out.mono ?_;rintro e wh ⟨Awh,cwh,rfl,hm,hj,hsb⟩;clear K;have L1:=HL1.out.mv hm hj;have G1:=hm.kept HG1.out (by decide);have S1:=HS1.out.off hm.off;have C1:wh.cell? ⟨gp,0,none⟩ =some (.slice A 4 c):=by rw [(hm.low HL1.out.hn).cell (p:=⟨gp,0,none⟩) hgp];exact hcell
   have B1:=HB1.out.trans ((hm.low HL1.out.hn).mono HW.out);have HXq:=hm.kept HX1.out (by decide);have HYq:=hm.kept HY1.out (by decide);have HTq:=HT1.out.off hm.off;have cb:=za wh (oC 2 1 (.slice Awh 0 cwh) 0 5);have HL2:=zz9 (L1.on cb);have HG2:=zz9 (zg cb G1 (zz7.1 G1).1);have HS2:=zz9 (S1.on cb);have HB2:=zz9 (zd B1 cb B1.size);have hcell2:=zb C1 cb;have HZ2:=zz9 (heap_alloc_new wh (oC 2 1 (.slice Awh 0 cwh) 0 5));have HX2:=zz9 (zg cb HXq (zz7.1 HXq).1);have HY2:=zz9 (zg cb HYq (zz7.1 HYq).1);have HT2:=zz9 (HTq.on cb);clear L1 G1 S1 C1 B1 cb hm hj hsb HL1 HG1 HS1 HB1 hcell HXq HYq HX1 HY1 HTq HT1;have hcell:=hcell2;clear hcell2
   go_upto_region 14 with fail
   generalize wh.alloc (.cells #[.int .i64 2,.int .i64 1,.slice Awh 0 cwh,.int .i64 0,.int .i64 5] 44) =W2 at *
   generalize wh.heap.size =gHZ at *
   have K:Hid (Calls Tryz.prog 19 #[.agg #[.slice A 4 c],.string ⟨#[100]⟩,.slice (some ⟨gk,0,none⟩) 1 1,.pointer (some ⟨J,0,none⟩),.int .i64 1000] W2 fun e w'=>∃ A' c',e =.returned (.agg #[.int .i64 0,.int .i64 0,.slice A' 0 c',.int .i64 0,.int .i64 6])/\Mv w2.heap.size NoM W2 w'/\Jr w2.heap.size w' J ([[]]++[[(k,v)]]) []/\SB w' w'.heap.size (.slice A' 0 c') []):=
    vU HL2.out wF wo (by simp) ke_p ke_s [100] (by unfold Byn;decide) _ [ya k] (zwn HG2.out HS2.out HLE.out.1) keF3 (by kernel_rfl) (zw5 HLE.out.1 keF3 rfl) 1000 6 _ 0 0 [] 0 rfl rfl ([[]]++[[(k,v)]]) [] (by have h:=zys (xT keFX) k [[]] [(k,v)];rw [HO.out.2.2.1] at h;exact h)
   go_wp2_with fail
   refine K.out.mono ?_;rintro e wd ⟨Awd,cwd,rfl,hm,hj,hsb⟩;clear K;have L1:=HL2.out.mv hm hj;have G1:=hm.kept HG2.out (by decide);have S1:=HS2.out.off hm.off;have C1:wd.cell? ⟨gp,0,none⟩ =some (.slice A 4 c):=by rw [(hm.low HL2.out.hn).cell (p:=⟨gp,0,none⟩) hgp];exact hcell
   have B1:=HB2.out.trans ((hm.low HL2.out.hn).mono HW.out);have HXq:=hm.kept HX2.out (by decide);have HYq:=hm.kept HY2.out (by decide);have HZq:=hm.kept HZ2.out (by decide);have HTq:=HT2.out.off hm.off;have HL3:=zz9 L1;have HG3:=zz9 G1;have HS3:=zz9 S1;have HB3:=zz9 B1;have HX3:=zz9 HXq;have HY3:=zz9 HYq;have HZ3:=zz9 HZq;have HT3:=zz9 HTq;clear L1 G1 S1 B1 hm hj hsb HL2 HG2 HS2 HB2 hcell HXq HYq HZq HX2 HY2 HZ2 HTq HT2;have hcell:=C1;clear C1
   have K:Hid (Calls Tryz.prog 19 #[.agg #[.slice A 4 c],.string ⟨#[104]⟩,.slice (some ⟨gk,0,none⟩) 1 1,.pointer (some ⟨J,0,none⟩),.int .i64 1000] wd fun e w'=>∃ A' c',e =.returned (.agg #[.int .i64 2,.int .i64 0,.slice A' 0 c',.int .i64 0,.int .i64 5])/\Mv w2.heap.size NoM wd w'/\Jr w2.heap.size w' J ([[]]++[[(k,v)]]) []/\SB w' w'.heap.size (.slice A' 0 c') []):=
    vU HL3.out wF wo (by simp) ke_p ke_s [104] (by unfold Byn;decide) _ [ya k] (zwn HG3.out HS3.out HLE.out.1) keF2 (by kernel_rfl) (zw5 HLE.out.1 keF2 rfl) 1000 5 _ 2 0 [] 0 (by rw [HO.out.2.2.2];rfl) rfl ([[]]++[[(k,v)]]) [] (zxx (xT keFX) k ([[]]++[[(k,v)]]) [])
   go_wp2_with fail
   refine K.out.mono ?_;rintro e wu ⟨Awu,cwu,rfl,hm,hj,hsb⟩;clear K;have L1:=HL3.out.mv hm hj;have G1:=hm.kept HG3.out (by decide);have S1:=HS3.out.off hm.off;have C1:wu.cell? ⟨gp,0,none⟩ =some (.slice A 4 c):=by rw [(hm.low HL3.out.hn).cell (p:=⟨gp,0,none⟩) hgp];exact hcell
   have B1:=HB3.out.trans ((hm.low HL3.out.hn).mono HW.out);have HXq:=hm.kept HX3.out (by decide);have HYq:=hm.kept HY3.out (by decide);have HZq:=hm.kept HZ3.out (by decide);have HTq:=HT3.out.off hm.off;have cb:=za wu (oC 2 0 (.slice Awu 0 cwu) 0 5);have HL4:=zz9 (L1.on cb);have HG4:=zz9 (zg cb G1 (zz7.1 G1).1);have HS4:=zz9 (S1.on cb);have HB4:=zz9 (zd B1 cb B1.size);have hcell2:=zb C1 cb;have HU4:=zz9 (heap_alloc_new wu (oC 2 0 (.slice Awu 0 cwu) 0 5));have HX4:=zz9 (zg cb HXq (zz7.1 HXq).1);have HY4:=zz9 (zg cb HYq (zz7.1 HYq).1);have HZ4:=zz9 (zg cb HZq (zz7.1 HZq).1);have HT4:=zz9 (HTq.on cb);clear L1 G1 S1 C1 B1 cb hm hj hsb HL3 HG3 HS3 HB3 hcell HXq HYq HZq HX3 HY3 HZ3 HTq HT3;have hcell:=hcell2;clear hcell2
   go_upto_region 16 with fail
   generalize wu.alloc (.cells #[.int .i64 2,.int .i64 0,.slice Awu 0 cwu,.int .i64 0,.int .i64 5] 44) =W4 at *
   generalize wu.heap.size =gHU at *
   obtain ⟨⟨x0,x1,x2,x3,x4⟩,_⟩:=xi HX4.out;obtain ⟨⟨y0,y1,y2,y3,y4⟩,_⟩:=xi HY4.out;obtain ⟨⟨z0,z1,z2,z3,z4⟩,_⟩:=xi HZ4.out;obtain ⟨⟨t0,t1,t2,t3,t4⟩,_⟩:=xi HU4.out;have s1:=HT4.out.str;have s2:=(HV.out.on HB4.out).str;generalize strOfNums v =sv at s1 s2;have KP:=zz9 (zxb _ _ J _ HL4.out.jr)
   go_wp2_with fail
   refine KP.out.mono ?_;rintro e w9 ⟨⟨A9,c9,rfl⟩,b9⟩;have HB9:=zz9 (zd HB4.out b9 HB4.out.size);clear b9 KP
   go_wp2
   go_ret;exact ⟨rfl,HB9.out⟩
end
section
open Go.RowKit
theorem zxn (A0:Option Addr) (s0:List Nat) (c0:Nat) (A1:Option Addr) (s1:List Nat) (c1:Nat) (w:World) (x0:s0.length<=c0) (y0:c0<=maxLen) (l0:Lies w w.heap.size A0 c0 (bts s0)) (z0:Byn s0) (x1:s1.length<=c1) (y1:c1<=maxLen) (l1:Lies w w.heap.size A1 c1 (bts s1)) (z1:Byn s1) (ht:Tab w) :
  Calls Tryz.prog 10 #[.slice A0 s0.length c0,.slice A1 s1.length c1] w fun e w'=>e =.returned (.bool true)/\Below w.heap.size w w':=
 zxp A0 A1 s0.length c0 s1.length c1 (ints s0) (ints s1) (by simp) (by simp) w ⟨A0,c0,by simp,by simpa using x0,y0,l0,z0.byt⟩ ⟨A1,c1,by simp,by simpa using x1,y1,l1,z1.byt⟩ ht
end
section
open Go.ChangeShapes Go.WideShapes Go.ChangeAt Go.RowKit
theorem own:ownKnob Tryz.prog.godebug =none:=by kernel_rfl
theorem zxr:laidOutB Tryz.prog =true:=by kernel_rfl
theorem zr0:Tryz.prog.cellsOf 9 =1:=by kernel_rfl
theorem zxw:Tryz.prog.bytesOf 5 =1:=by kernel_rfl
theorem ztk:Tryz.prog.globalNamed "covenant/token.keywords" =some 1:=by kernel_rfl
theorem zt2:(Tryz.prog.globals[1]?).map (·.type) =some 247:=by kernel_rfl
theorem zuk:Tryz.prog.globalNamed "covenant/token.signs" =some 2:=by kernel_rfl
theorem zs4:(Tryz.prog.globals[2]?).map (·.type) =some 248:=by kernel_rfl
abbrev zeu:List (String×DataW Unit):=[("covenant/token.keywords",Rows.laid_covenant_token_keywords),("covenant/token.signs",Rows.laid_covenant_token_signs)]
def litS (s:List Nat):DataW Unit:=.lit (.string (s.map UInt8.ofNat))
theorem zi7:(Rows.laid_covenant_token_keywords:DataW Unit) =.agg (xV.map litS):=by kernel_rfl
theorem zh6:(Rows.laid_covenant_token_signs:DataW Unit) =.agg (xU.map litS):=by kernel_rfl
theorem zg2 (os:Os) (args:Array Value):laidMetH Tryz.prog zeu ((World.doorLaid Tryz.prog 400 os).forCall (fun _ _=>0) ⟨#[],args,[]⟩).memory:=
 laidMetH_of_parts3 (fuel:=8) (laidMet_of_run' 8 (by kernel_rfl) (by kernel_rfl)) (by kernel_rfl) (by kernel_rfl)
theorem ziu {s:ByteArray} (h:(DataW.lit (.string s.data.toList):DataW Unit) =litS l):s =strN l:=by
 have h1:s.data.toList =l.map UInt8.ofNat:=by
  simpa [litS] using h
 apply ByteArray.ext;rw [xr,<- h1]
theorem wE {nm:String} {t:TypeId} {cs:Array Value} {f:Nat} {q:List MemPlace} {L:List (List Nat)} {d:DataW Unit} {b0:Nat} {en:TypeId×Value->Unit} {sp:Nat->Bool} {hl:Bool}
  (hg:Tryz.prog.globalNamed nm =some g) (hv:W.var? Tryz.prog nm =some cs) (ht:Tryz.prog.underlying t =some (.array n 9)) (hd:DataW.trod en Tryz.prog W b0 sp hl f t cs.toList =some (d,q)) (hL:d =.agg (L.map litS)) (hn:L.length =n) :
  W.rangeAt g 0 (L.map strV):=by
 obtain ⟨xs,m1,rfl,hx1,hlen,hxn,hel⟩:=DataW.trod_array ht hd;simp only [Prod.mk.injEq] at hx1;rw [hL] at hx1;have hagg:L.map litS =xs.map (fun x=>x.fst):=by
  have:=hx1.1;injection this
 intro k v hk;rw [Nat.zero_add,World.var?_cell hg hv k];obtain ⟨s,hs,rfl⟩:∃ s,L[k]? =some s/\strV s =v:=by
  rw [List.getElem?_map] at hk;cases hL:L[k]? with
  | none=>rw [hL] at hk;simp at hk
  | some s=>rw [hL] at hk;exact ⟨s,rfl,by simpa using hk⟩
 have hkn:k < n:=by rw [<- hn];exact (List.getElem?_eq_some_iff.1 hs).1
 have h0:=hel k hkn;obtain ⟨x,hx⟩:∃ x,xs[k]? =some x:=⟨_,List.getElem?_eq_getElem (by omega)⟩;rw [hx,zr0] at h0;obtain ⟨sb,e1,e2,_⟩:=DataW.trod_string Tryz.underlying9 h0;have h1:(L.map litS)[k]? =some (litS s):=by rw [List.getElem?_map,hs];rfl
 rw [hagg,List.getElem?_map,hx,e2] at h1;have h2:sb =strN s:=ziu (by simpa using h1);have h3:(cs.toList.drop (k*1))[0]? =some (.string sb):=by
  have:=congrArg (fun l:List Value=>l[0]?) e1;simpa using this
 show cs[k]? =some (.string (strN s));rw [<- h2];simpa using h3
theorem zwe (h:laidMetH Tryz.prog zeu W):Tab W:=by
 rw [MakeChecks.laidMetH_plain _ _ _ (by kernel_rfl)] at h;obtain ⟨ps,⟨g0,t0,cs0,f0,p0,q0,hg0,ht0,hv0,hd0,hrest,_⟩,_,_⟩:=h;obtain ⟨g1,t1,cs1,f1,p1,q1,hg1,ht1,hv1,hd1,_,_⟩:=hrest;obtain rfl:=Option.some.inj (ztk.symm.trans hg0);obtain rfl:=Option.some.inj (zt2.symm.trans ht0);obtain rfl:=Option.some.inj (zuk.symm.trans hg1);obtain rfl:=Option.some.inj (zs4.symm.trans ht1);have r0:=wE hg0 hv0 Tryz.underlying247 hd0 zi7 rfl;have r1:=wE hg1 hv1 Tryz.underlying248 hd1 zh6 rfl;exact ⟨World.block_lt_of_cell? W _ (r1 0 _ rfl),r0,r1⟩
theorem zyx {n:Int} (h:(Lit.int .u8 n).wf =true):0<=n/\n < 256:=by
 have:=bounds_u8 h;omega
section
variable {H:Type} {enc:TypeId×Value->H} {P:Program} {w:World} {base:Nat} {held:Bool} {d:DataW H} {ps:List MemPlace} {ts:List TypeId} {ds:List (DataW H)}
theorem zxe {a:Addr} {len cap:Nat} {zs:List Int} (hl:len<=cap) (hz:zs.length =cap) (hc:∀ i,i < cap->w.cell? (a.add i) =some (.int .u8 (zs.getD i 0))) :
  Lies w w.heap.size (some a) cap (zA (zs.take len)):=by
 refine ⟨(fun e=>by cases e),fun j u hu=>?_⟩;have hj:j < len:=by
  have:=(List.getElem?_eq_some_iff.1 hu).1;simp at this;omega
 have hcj:=hc j (by omega);refine ⟨a,rfl,by have:=World.block_lt_of_cell? w _ hcj;rwa [qh] at this,?_⟩;rw [hcj];have:zs[j]? =some zs[j]:=List.getElem?_eq_getElem (by omega);simp [hj,this] at hu;simp [List.getD,this,hu]
theorem zxl {t e:TypeId} {a:Option Addr} {len cap:Nat} (ht:P.underlying t =some (.slice e)) (he:P.underlying e =some (.int .u8)) (hc:P.cellsOf e =1)
  (h:DataW.Trod enc P w base (fun _=>true) held t (.slice a len cap) d ps) :
  ∃ s:List Int,s.length =len/\len<=cap/\cap<=maxLen/\Byt s/\Lies w w.heap.size a cap (zA s):=by
 obtain ⟨fuel,hf⟩:=h;rcases open_ints ht he hc hf with ⟨hcs,_⟩|⟨x,l,c,zs,hcs,_,hl,hm,hz,_,hcell,hwz⟩
 ·simp [Value.cells] at hcs
  obtain ⟨rfl,rfl,rfl⟩:=hcs;exact ⟨[],rfl,zzA0 _,Nat.zero_le _,Byt.nil,Lies.nothing _ _⟩
 ·simp [Value.cells] at hcs
  obtain ⟨rfl,rfl,rfl⟩:=hcs;have hz':zs.length =cap:=by simpa using hz
  refine ⟨zs.take len,by simp;omega,hl,hm,fun b hb=>zyx (hwz b (List.mem_of_mem_take hb)),zxe hl hz' fun i hi=>hcell i (by omega)⟩
theorem zwq {t e:TypeId} {a:Option Addr} {len cap:Nat} (ht:P.underlying t =some (.slice e)) (he:P.underlying e =some (.int .u8)) (hc:P.cellsOf e =1) (hb:P.bytesOf e =1)
  (h:DataW.Trod enc P w base (fun _=>true) held t (.slice a len cap) d ps) (hsz:(DataW.weightsEach P ts ds).all (·<=reachBytes) =true) (h1:ts[j]? =some t) (h2:ds[j]? =some d):cap<=140737488351232:=by
 obtain ⟨fuel,hf⟩:=h;rcases open_ints ht he hc hf with ⟨hcs,_⟩|⟨x,l,c,zs,hcs,_,hl,hm,hz,hx,_,_⟩
 ·simp [Value.cells] at hcs
  omega
 ·simp [Value.cells] at hcs
  obtain ⟨rfl,rfl,rfl⟩:=hcs;have hz':zs.length =cap:=by simpa using hz
  have hd:d =.slice (lits .u8 (zs.take len)) (lits .u8 (zs.drop len)):=by injection hx
  subst hd;have:=sized_slice hsz h1 h2 ht;rw [hb] at this;simp only [lits,List.length_map,List.length_take,List.length_drop,reachBytes] at this;omega
theorem zw7 {t e:TypeId} {a:Option Addr} {len cap:Nat} (ht:P.underlying t =some (.slice e)) (he:P.underlying e =some (.int .u8)) (hc:P.cellsOf e =1)
  (h:DataW.Trod enc P w base (fun _=>true) held t (.slice a len cap) d ps) :
  ∃ s:List Nat,s.length =len/\len<=cap/\cap<=maxLen/\Byn s/\Lies w w.heap.size a cap (bts s):=by
 obtain ⟨s,h1,h2,h3,h4,h5⟩:=zxl ht he hc h;have hs:ints (s.map Int.toNat) =s:=by
  simp only [ints,List.map_map]
  conv=>rhs;rw [<- List.map_id s]
  refine List.map_congr_left fun x hx=>?_;have:=h4 x hx;simp;omega
 refine ⟨s.map Int.toNat,by simpa using h1,h2,h3,fun b hb=>?_,?_⟩
 ·obtain ⟨x,hx,rfl⟩:=List.mem_map.1 hb
  have:=h4 x hx;omega
 ·unfold bts
  rw [hs];exact h5
end
end
section
open Go Go.ChangeShapes Go.WideShapes
theorem zwk:(Rows.evalKeepsRow.inPlace == Tryz.prog.inPlace 10) =true:=by kernel_rfl
theorem zwf:(Rows.evalKeepsRow.unfollowed == Tryz.prog.unfollowed 10) =true:=by kernel_rfl
theorem zwh:(Rows.evalKeepsRow.recurses == Tryz.prog.recurses 10) =true:=by kernel_rfl
theorem zwu:(Rows.evalKeepsRow.named == Tryz.prog.varsNamed 10) =true:=by kernel_rfl
theorem zwz:laidOutB Tryz.prog =true:=by kernel_rfl
theorem zwx:mapsRowed Tryz.prog =true:=by kernel_rfl
theorem zww:joinedFacts Tryz.prog 10 Tryz.f10 Rows.evalKeepsSpec Rows.evalKeepsRow =true:=by
 unfold joinedFacts;rw [zwk,zwf,zwh,zwu,zwz,zwx]
 kernel_rfl
theorem zxf:OpenClaim.wfByText (OpenSpec.ofChange Rows.evalKeepsSpec) Rows.evalKeepsRow =true:=by kernel_rfl
theorem zxa:Tryz.prog.funcNamed "covenant/covenantlaw10.EvalKeeps" =some 10:=by kernel_rfl
theorem zwy:([22,22].all fun u=>!Tryz.prog.wantsStandIn u) =true:=by kernel_rfl
theorem zw2:false =Rows.evalKeepsRow.goesBy Tryz.pinned.checked.prog:=by kernel_rfl
end
section
open Go
theorem zdw:Tryz.pinned.checked.prog.mainIs =some (true,"20a4b8f10f3facb4eddfb4da623dd329809a1f4fa6d99b0aa5301608ddedb87d".toList):=by kernel_rfl
theorem zbs:true =Tryz.pinned.checked.prog.looks []:=by kernel_rfl
end
end Go.Proofs.YtcilgkdnjgmogaaGreatDoor
