/- A part of the proof. -/
import Derived.Test.YtcilgkdnjgmogaaGreatDoorKb
import Derived.Deep.RegionHeld3
import Derived.JoinedOf
namespace Go.Proofs.YtcilgkdnjgmogaaGreatDoor
set_option maxRecDepth 100000
set_option maxHeartbeats 12800000
set_option linter.all false
variable {A:Option Addr} {n0:Nat} {w:World}
section
open Go.RowKit Go.MapKept
theorem de_p:kD deFX =none:=zgf ▸ zfl.m
theorem de_s:∀ f∈deFX,shB f.body =true:=zgf ▸ zfl.s
theorem zuy {ks:List Two} {c J:Nat} (n:Nat) (hn:n<=255):∃ (vt vn tr us:Int),(n < 16->tr =0/\vn =n)/\(16<=n->tr =4)/\∀ w' g,Lw n0 deFX ks A c J [] [] w->Below w.heap.size w w'->w'.heap[g]? =some (.cells #[.int .i64 1,.int .i64 n,.slice none 0 0] 41 (0,0)) ->
  Calls Tryz.prog 19 #[.agg #[.slice A 1 c],.string ⟨#[102]⟩,.slice (some ⟨g,0,none⟩) 1 1,.pointer (some ⟨J,0,none⟩),.int .i64 10000] w' fun e w''=>∃ A' c',e =.returned (.agg #[.int .i64 vt,.int .i64 vn,.slice A' 0 c',.int .i64 tr,.int .i64 us])/\Mv n0 NoM w' w''/\Below n0 w w'':=by
 by_cases h:n < 16
 ·refine ⟨1,n,0,11*n+6,fun _=>⟨rfl,rfl⟩,fun _=>by omega,fun w' g hL hb hg=>?_⟩
  exact (vU (hL.on hb) wF wo (by simp) de_p de_s [102] (by unfold Byn;decide) _ [intV n] (zcu hg (SB.nil _ _) (yr (by omega))) deF0 zdd (by simp [fitB,fitL,jg,deF0,intV]) 10000 _ _ 1 n [] 0 rfl rfl [] [] (zn9 h)).mono fun e w'' ⟨A',c',e1,e2,_⟩=>⟨A',c',e1,e2,(hb.mono hL.hn).trans (e2.low (hL.on hb).hn)⟩
 ·refine ⟨0,0,4,176,fun _=>by omega,fun _=>rfl,fun w' g hL hb hg=>?_⟩
  exact (yy (hL.on hb) wF wo (by simp) de_p de_s [102] (by unfold Byn;decide) _ [intV n] (zcu hg (SB.nil _ _) (yr (by omega))) deF0 zdd (by simp [fitB,fitL,jg,deF0,intV]) 10000 4 176 _ _ (znw (by omega) hn)).mono fun e w'' ⟨A',c',e1,e2,_⟩=>⟨A',c',e1,e2,(hb.mono hL.hn).trans (e2.low (hL.on hb).hn)⟩
theorem zk6 (n:Nat) (hn:n<=255) (w:World) (ht:Tab w):Calls Tryz.prog 8 #[.int .u8 n] w fun e w'=>e =.returned (.bool true)/\Below w.heap.size w w':=by
 have HT:=zz9 ht;have hpos:=ht.1;have K:=zz9 (wP w ht);clear ht;go_enter Tryz.func8,Tryz.ntmps8
 go_wp2_with fail
 with_reducible refine K.out.mono ?_
 clear K;rintro e wa ⟨rfl,ba⟩;have HBa:=zz9 ba;clear ba
 go_upto_region 2 with fail
 obtain ⟨O,hm,LF⟩:=zwi wa #[.int .u8 102,.int .u8 110,.int .u8 32,.int .u8 102,.int .u8 40,.int .u8 110,.int .u8 58,.int .u8 32,.int .u8 105,.int .u8 110,.int .u8 116,.int .u8 41,.int .u8 58,.int .u8 32,.int .u8 105,.int .u8 110,.int .u8 116,.int .u8 32,.int .u8 123,.int .u8 32,.int .u8 105,.int .u8 102,.int .u8 32,.int .u8 110,.int .u8 32,.int .u8 61,.int .u8 61,.int .u8 32,.int .u8 48,.int .u8 32,.int .u8 123,.int .u8 32,.int .u8 114,.int .u8 101,.int .u8 116,.int .u8 117,.int .u8 114,.int .u8 110,.int .u8 32,.int .u8 48,.int .u8 59,.int .u8 32,.int .u8 125,.int .u8 32,.int .u8 114,.int .u8 101,.int .u8 116,.int .u8 117,.int .u8 114,.int .u8 110,.int .u8 32,.int .u8 49,.int .u8 32,.int .u8 43,.int .u8 32,.int .u8 102,.int .u8 40,.int .u8 110,.int .u8 32,.int .u8 45,.int .u8 32,.int .u8 49,.int .u8 41,.int .u8 59,.int .u8 32,.int .u8 125] deFT 66 (by kernel_rfl);have B0:=za wa O;have HB0:=zz9 (zd HBa.out B0 HBa.out.size);have K:=zz9 (wU zfl (some ⟨wa.heap.size,0,none⟩) 66 66 (wa.alloc O) rfl (by omega) (by unfold maxLen;omega) LF (HT.out.below HB0.out hpos));clear LF B0 HBa
 go_wp2_with fail
 clear hm
 generalize wa.alloc O =w0 at *
 with_reducible refine K.out.mono ?_
 clear K;rintro e w1 ⟨A,c,ks,rfl,hX,b1⟩;rw [zgf,show deFX.length =1 from rfl] at hX ⊢;have HB1:=zd HB0.out b1 HB0.out.size;have c1:=za w1 (.cells #[.slice A 1 c] 26);have X0:Hid ((w1.alloc (.cells #[.slice A 1 c] 26)).cell? ⟨w1.heap.size,0,none⟩ =some (.slice A 1 c)):=by show _ =_;rw [cell_of_row _ _ _ _ _ _ (heap_alloc_new w1 _)];rfl
 have HB2:=zz9 (zd HB1 c1 HB1.size);have HX2:Hid (XfsC (w1.alloc (.cells #[.slice A 1 c] 26)) (Lo (w1.alloc (.cells #[.slice A 1 c] 26)).heap.size) deFX ks (.slice A 1 c)):=(hX.same (xj c1 (Nat.le_refl _))).more fun k hk=>Nat.lt_of_lt_of_le hk c1.size;clear hX b1 c1 HB1 HB0
 go_upto_region 3 with fail
 generalize w1.alloc (.cells #[.slice A 1 c] 26) =w2 at *
 generalize w1.heap.size =gp at *
 have hgp:gp < w2.heap.size:=World.block_lt_of_cell? w2 _ X0.out;have HW:Hid (w.heap.size<=w2.heap.size):=HB2.out.size;have K:=zz9 (zge w2.heap.size w2 (Nat.le_refl _))
 go_wp2_with fail
 with_reducible refine K.out.mono ?_
 clear K;rintro e w4 ⟨J,rfl,hJ,hj,b3⟩;have HL:Hid (Lw w2.heap.size deFX ks A c J [] [] w4):=⟨b3.size,hj,HX2.out.same (xj b3 (Nat.le_refl _))⟩;have HX:Hid (∀ w',Below w2.heap.size w4 w'->w'.cell? ⟨gp,0,none⟩ =some (.slice A 1 c)):=fun w' hb=>by rw [hb.cell (p:=⟨gp,0,none⟩) hgp];exact zb X0.out b3
 have HB4:=zz9 (zd HB2.out b3 HB2.out.size);have HN4:Hid (w2.heap.size<=w4.heap.size):=b3.size;clear hj hJ b3 HX2 X0 HB2;obtain ⟨vt,vn,tr,us,q1,q2,q3⟩:=zuy (n0:=w2.heap.size) (ks:=ks) (A:=A) (c:=c) (J:=J) (w:=w4) n hn;have HQ:=zz9 (And.intro q1 q2);have KR:=zz9 (fun w' g hb hg=>q3 w' g HL.out hb hg);have KN:Hid (∀ (m:Int) w',Calls Tryz.prog 29 #[.int .i64 m] w' fun e w''=>e =.returned (.agg #[.int .i64 1,.int .i64 m,.slice none 0 0])/\Below w'.heap.size w' w''):=fun m w'=>numR m w';have hwr:IntKind.i64.wrap (n:Int) =(n:Int):=(zjt _).trans (xQ (by unfold fits;omega));have HX4:Hid (∀ w',Below w4.heap.size w4 w'->w'.cell? ⟨gp,0,none⟩ =some (.slice A 1 c)):=fun w' hb=>HX.out w' (hb.mono HN4.out);have hbl:=Below.refl w4.heap.size w4;clear q1 q2 q3
 go_upto_region 6 with fail
 go_region_held3 (fun w'=>w'.cell? ⟨gp,0,none⟩ =some (.slice A 1 c))
  (first
   | (with_reducible exact HXR.out)
   | (with_reducible exact zb HXR.out (za _ _))
   | (with_reducible exact zdx HXR.out HG6.out.2)
   | (with_reducible exact HX4.out _ hbl)
   | (with_reducible exact HX4.out _ hbl.drew)
   | (with_reducible exact HX4.out _ (hbl.alloc hbl.size _))
   | (with_reducible exact HX4.out _ (hbl.alloc hbl.size _).drew)
   | (with_reducible exact HX4.out _ ((hbl.alloc hbl.size _).alloc (hbl.alloc hbl.size _).size _))
   | (with_reducible exact HX4.out _ ((hbl.alloc hbl.size _).alloc (hbl.alloc hbl.size _).size _).drew))
  (first
   | (go_at_call 29;refine (KN.out _ _).mono ?_;rintro e w5 ⟨rfl,b5⟩;(first|(replace hbl:=zd hbl.drew b5 hbl.size)|(have HZ:Hid (w5.heap[w4.heap.size]? =some zO44):=zg b5 (heap_alloc_new w4 zO44) (by simp);replace hbl:=zd (hbl.alloc hbl.size zO44).drew b5 (hbl.alloc hbl.size zO44).size));clear b5)
   | (go_at_call 19;refine (KR.out _ _ (by first|exact hbl.alloc hbl.size _|exact (hbl.alloc hbl.size _).alloc (hbl.alloc hbl.size _).size _) (by first|exact heap_alloc_new _ _|exact kN _ _ _|exact zg (za _ _) (heap_alloc_new _ _) (by simp))).mono ?_;rintro e w6 ⟨A6,c6,rfl,hm6,hb6⟩;have HXR:=zz9 (HX.out w6 hb6);have HB6:Hid (Below w.heap.size w w6):=HB4.out.trans (hb6.mono HW.out);(first|(have HZ6:=hm6.kept (zg (za _ _) HZ.out (zz7.1 HZ.out).1) (by decide);have HG6:Hid (w.heap.size<=w4.heap.size/\gp≠w4.heap.size):=⟨HB4.out.size,by have:=HN4.out;omega⟩;obtain ⟨⟨d0,d1,d2,d3,d4⟩,f0,f1,f2,f3,f4⟩:=xi HZ6)|(have HZ6:=hm6.kept (zg (za _ _) (heap_alloc_new w5 zO44) (by simp)) (by decide);have HG6:Hid (w.heap.size<=w5.heap.size/\gp≠w5.heap.size):=⟨Nat.le_trans HB4.out.size hbl.size,by have:=HN4.out;have:=hbl.size;omega⟩;obtain ⟨⟨d0,d1,d2,d3,d4⟩,f0,f1,f2,f3,f4⟩:=xi HZ6)|(have HZ6:=hm6.kept (kN w5 _ zO44) (by decide);have HG6:Hid (w.heap.size<=w5.heap.size+1/\gp≠w5.heap.size+1):=⟨Nat.le_succ_of_le (Nat.le_trans HB4.out.size hbl.size),by have:=HN4.out;have:=hbl.size;omega⟩;obtain ⟨⟨d0,d1,d2,d3,d4⟩,f0,f1,f2,f3,f4⟩:=xi HZ6)|skip);(try replace HZ6:=zz9 HZ6);clear hm6 hb6))
 all_goals
  first
   | (have hS:=zha HZ6.out vt vn (.slice A6 0 c6) tr us
      have XB:=zz9 hS.here;have HBW:Hid (Below w.heap.size w _):=HB6.out.trans (hS.below HG6.out.1)
      clear hS d0 d1 d2 d3 d4 f0 f1 f2 f3 f4)
   | (have XB:=zz9 (heap_alloc_new w6 (oC vt vn (.slice A6 0 c6) tr us))
      have HBW:Hid (Below w.heap.size w _):=zd HB6.out (za w6 (oC vt vn (.slice A6 0 c6) tr us)) HB6.out.size)
  obtain ⟨⟨z0,z1,z2,z3,z4⟩,_⟩:=xi XB.out;rcases Nat.lt_or_ge n 16 with h|h
  ·obtain ⟨e1,e2⟩:=HQ.out.1 h
   subst e1 e2;have h16:¬ (16:Int)<=(n:Int):=by omega
   clear HQ KR KN HX HX4 HXR HB6 h
   go_wp2
   go_ret;exact ⟨rfl,HBW.out⟩
  ·have e1:=HQ.out.2 h
   subst e1;have h16:(16:Int)<=(n:Int):=by omega
   clear HQ KR KN HX HX4 HXR HB6 h
   go_wp2
   go_ret;exact ⟨rfl,HBW.out⟩
end
section
open Go Go.ChangeShapes Go.WideShapes
theorem yI:(Rows.evalDeepRow.inPlace == Tryz.prog.inPlace 8) =true:=by kernel_rfl
theorem j4:(Rows.evalDeepRow.unfollowed == Tryz.prog.unfollowed 8) =true:=by kernel_rfl
theorem yp:(Rows.evalDeepRow.recurses == Tryz.prog.recurses 8) =true:=by kernel_rfl
theorem zav:(Rows.evalDeepRow.named == Tryz.prog.varsNamed 8) =true:=by kernel_rfl
theorem zc9:laidOutB Tryz.prog =true:=by kernel_rfl
theorem zau:mapsRowed Tryz.prog =true:=by kernel_rfl
theorem za4:joinedFacts Tryz.prog 8 Tryz.f8 Rows.evalDeepSpec Rows.evalDeepRow =true:=by
 unfold joinedFacts;rw [yI,j4,yp,zav,zc9,zau]
 kernel_rfl
theorem zfw:OpenClaim.wfByText (OpenSpec.ofChange Rows.evalDeepSpec) Rows.evalDeepRow =true:=by kernel_rfl
theorem zga:Tryz.prog.funcNamed "covenant/covenantlaw10.EvalDeep" =some 8:=by kernel_rfl
theorem zan:([5].all fun u=>!Tryz.prog.wantsStandIn u) =true:=by kernel_rfl
theorem zc1:false =Rows.evalDeepRow.goesBy Tryz.pinned.checked.prog:=by kernel_rfl
end
end Go.Proofs.YtcilgkdnjgmogaaGreatDoor
