/- A part of the proof. -/
import Derived.Test.YtcilgkdnjgmogaaGreatDoorKb
import Derived.Deep.RegionHeld3
import Derived.JoinedOf
namespace Go.Proofs.YtcilgkdnjgmogaaGreatDoor
set_option maxRecDepth 100000
set_option maxHeartbeats 12800000
set_option linter.all false
variable {A:Option Addr} {n0:Nat} {w:World}
section
open Go.RowKit Go.MapKept
theorem lo_p:kD loFX =none:=zfs ▸ zfm.m
theorem lo_s:∀ f∈loFX,shB f.body =true:=zfs ▸ zfm.s
theorem ztu {ks:List Two} {c J:Nat} (a b:Int) (N:Nat) (ha:-128<=a/\a<=127) (hb:-128<=b/\b<=127) (hN:N<=255) (hab:(N =0/\b<=a)\/b =a+N):∀ w' g,Lw n0 loFX ks A c J [] [] w->Below w.heap.size w w'->w'.heap[g]? =some (.cells #[.int .i64 1,.int .i64 a,.slice none 0 0,.int .i64 1,.int .i64 b,.slice none 0 0] 41 (0,0)) ->
  Calls Tryz.prog 19 #[.agg #[.slice A 1 c],.string ⟨#[102]⟩,.slice (some ⟨g,0,none⟩) 2 2,.pointer (some ⟨J,0,none⟩),.int .i64 10000] w' fun e w''=>∃ A' c',e =.returned (.agg #[.int .i64 1,.int .i64 (tri a N),.slice A' 0 c',.int .i64 0,.int .i64 (7+5*N)])/\Mv n0 NoM w' w''/\Below n0 w w'':=fun w' g hL hbl hg=>
 (vU (hL.on hbl) wF wo (by simp) lo_p lo_s [102] (by unfold Byn;decide) _ [intV a,intV b] (zrb hg (SB.nil _ _) (yr (by omega)) (SB.nil _ _) (yr (by omega))) loF0 zpm (by simp [fitB,fitL,jg,loF0,intV]) 10000 _ _ 1 (tri a N) [] 0 rfl rfl [] [] (zqw a b N [] [] ha hb hN hab)).mono fun e w'' ⟨A',c',e1,e2,_⟩=>⟨A',c',e1,e2,(hbl.mono hL.hn).trans (e2.low (hL.on hbl).hn)⟩
theorem ziz (a b:Int) (ha:-128<=a/\a<=127) (hb:-128<=b/\b<=127) (w:World) (ht:Tab w):Calls Tryz.prog 7 #[.int .i8 a,.int .i8 b] w fun e w'=>e =.returned (.bool true)/\Below w.heap.size w w':=by
 obtain ⟨N,hN,hab⟩:∃ N:Nat,N<=255/\((N =0/\b<=a)\/b =a+N):=⟨(b-a).toNat,by omega,by omega⟩;have HAB:=zz9 (And.intro ha (And.intro hb (And.intro hN hab)));clear hab;have HT:=zz9 ht;have hpos:=ht.1;have K:=zz9 (wP w ht);clear ht;go_enter Tryz.func7,Tryz.ntmps7
 go_wp2_with fail
 with_reducible refine K.out.mono ?_
 clear K;rintro e wa ⟨rfl,ba⟩;have HBa:=zz9 ba;clear ba
 go_upto_region 2 with fail
 obtain ⟨O,hm,LF⟩:=zwi wa #[.int .u8 102,.int .u8 110,.int .u8 32,.int .u8 102,.int .u8 40,.int .u8 97,.int .u8 58,.int .u8 32,.int .u8 105,.int .u8 110,.int .u8 116,.int .u8 44,.int .u8 32,.int .u8 98,.int .u8 58,.int .u8 32,.int .u8 105,.int .u8 110,.int .u8 116,.int .u8 41,.int .u8 58,.int .u8 32,.int .u8 105,.int .u8 110,.int .u8 116,.int .u8 32,.int .u8 123,.int .u8 32,.int .u8 108,.int .u8 101,.int .u8 116,.int .u8 32,.int .u8 115,.int .u8 32,.int .u8 61,.int .u8 32,.int .u8 48,.int .u8 59,.int .u8 32,.int .u8 102,.int .u8 111,.int .u8 114,.int .u8 32,.int .u8 105,.int .u8 32,.int .u8 61,.int .u8 32,.int .u8 97,.int .u8 32,.int .u8 116,.int .u8 111,.int .u8 32,.int .u8 98,.int .u8 32,.int .u8 123,.int .u8 32,.int .u8 115,.int .u8 32,.int .u8 61,.int .u8 32,.int .u8 115,.int .u8 32,.int .u8 43,.int .u8 32,.int .u8 105,.int .u8 59,.int .u8 32,.int .u8 125,.int .u8 32,.int .u8 114,.int .u8 101,.int .u8 116,.int .u8 117,.int .u8 114,.int .u8 110,.int .u8 32,.int .u8 115,.int .u8 59,.int .u8 32,.int .u8 125] loFT 80 (by kernel_rfl);have B0:=za wa O;have HB0:=zz9 (zd HBa.out B0 HBa.out.size);have K:=zz9 (wU zfm (some ⟨wa.heap.size,0,none⟩) 80 80 (wa.alloc O) rfl (by omega) (by unfold maxLen;omega) LF (HT.out.below HB0.out hpos));clear LF B0 HBa
 go_wp2_with fail
 clear hm
 generalize wa.alloc O =w0 at *
 with_reducible refine K.out.mono ?_
 clear K;rintro e w1 ⟨A,c,ks,rfl,hX,b1⟩;rw [zfs,show loFX.length =1 from rfl] at hX ⊢;have HB1:=zd HB0.out b1 HB0.out.size;have c1:=za w1 (.cells #[.slice A 1 c] 26);have X0:Hid ((w1.alloc (.cells #[.slice A 1 c] 26)).cell? ⟨w1.heap.size,0,none⟩ =some (.slice A 1 c)):=by show _ =_;rw [cell_of_row _ _ _ _ _ _ (heap_alloc_new w1 _)];rfl
 have HB2:=zz9 (zd HB1 c1 HB1.size);have HX2:Hid (XfsC (w1.alloc (.cells #[.slice A 1 c] 26)) (Lo (w1.alloc (.cells #[.slice A 1 c] 26)).heap.size) loFX ks (.slice A 1 c)):=(hX.same (xj c1 (Nat.le_refl _))).more fun k hk=>Nat.lt_of_lt_of_le hk c1.size;clear hX b1 c1 HB1 HB0
 go_upto_region 3 with fail
 generalize w1.alloc (.cells #[.slice A 1 c] 26) =w2 at *
 generalize w1.heap.size =gp at *
 have hgp:gp < w2.heap.size:=World.block_lt_of_cell? w2 _ X0.out;have HW:Hid (w.heap.size<=w2.heap.size):=HB2.out.size;have K:=zz9 (zge w2.heap.size w2 (Nat.le_refl _))
 go_wp2_with fail
 with_reducible refine K.out.mono ?_
 clear K;rintro e w4 ⟨J,rfl,hJ,hj,b3⟩;have HL:Hid (Lw w2.heap.size loFX ks A c J [] [] w4):=⟨b3.size,hj,HX2.out.same (xj b3 (Nat.le_refl _))⟩;have HX:Hid (∀ w',Below w2.heap.size w4 w'->w'.cell? ⟨gp,0,none⟩ =some (.slice A 1 c)):=fun w' hb=>by rw [hb.cell (p:=⟨gp,0,none⟩) hgp];exact zb X0.out b3
 have HB4:=zz9 (zd HB2.out b3 HB2.out.size);have HN4:Hid (w2.heap.size<=w4.heap.size):=b3.size;clear hj hJ b3 HX2 X0 HB2;have KR:=zz9 (fun w' g hbl hg=>ztu (n0:=w2.heap.size) (ks:=ks) (A:=A) (c:=c) (J:=J) (w:=w4) a b N HAB.out.1 HAB.out.2.1 HAB.out.2.2.1 HAB.out.2.2.2 w' g HL.out hbl hg);have KN:Hid (∀ (m:Int) w',Calls Tryz.prog 29 #[.int .i64 m] w' fun e w''=>e =.returned (.agg #[.int .i64 1,.int .i64 m,.slice none 0 0])/\Below w'.heap.size w' w''):=fun m w'=>numR m w';have hwa:IntKind.i64.wrap a =a:=(zjt _).trans (xQ (by unfold fits;omega));have hwb:IntKind.i64.wrap b =b:=(zjt _).trans (xQ (by unfold fits;omega));have HX4:Hid (∀ w',Below w4.heap.size w4 w'->w'.cell? ⟨gp,0,none⟩ =some (.slice A 1 c)):=fun w' hb=>HX.out w' (hb.mono HN4.out);have hbl:=Below.refl w4.heap.size w4
 go_upto_region 6 with fail
 go_cut [10] (fun p wx=>∃ gx A6 c6,p =.pointer (some ⟨gx,0,none⟩)/\wx.heap[gx]? =some (oC 1 (tri a N) (.slice A6 0 c6) 0 (7+5*N))/\Below w.heap.size w wx)
 case first=>
  generalize tri a N =vn at *
  generalize (7+5*(N:Int)) =us at *
  go_region_held3 (fun w'=>w'.cell? ⟨gp,0,none⟩ =some (.slice A 1 c))
   (first
    | (with_reducible exact HXR.out)
    | (with_reducible exact zdx HXR.out HG6.out.2)
    | (with_reducible exact zb HXR.out (za _ _))
    | (with_reducible exact HX4.out _ hbl)
    | (with_reducible exact HX4.out _ hbl.drew)
    | (with_reducible exact HX4.out _ (hbl.alloc hbl.size _))
    | (with_reducible exact HX4.out _ (hbl.alloc hbl.size _).drew)
    | (with_reducible exact HX4.out _ ((hbl.alloc hbl.size _).alloc (hbl.alloc hbl.size _).size _))
    | (with_reducible exact HX4.out _ ((hbl.alloc hbl.size _).alloc (hbl.alloc hbl.size _).size _).drew))
   (first
    | (go_at_call 29;refine (KN.out _ _).mono ?_;rintro e w5 ⟨rfl,b5⟩;(first|(replace hbl:=zd hbl.drew b5 hbl.size;(try replace HZ:=zz9 (zg b5 HZ.out (zz7.1 HZ.out).1)))|(replace hbl:=zd hbl b5 hbl.size;(try replace HZ:=zz9 (zg b5 HZ.out (zz7.1 HZ.out).1)))|(have HZ:Hid (w5.heap[w4.heap.size]? =some zO44):=zg b5 (heap_alloc_new w4 zO44) (by simp);have HZG:=zz9 (And.intro (Nat.le_trans HB4.out.size hbl.size) (Nat.ne_of_lt (Nat.lt_of_lt_of_le hgp (Nat.le_trans HN4.out hbl.size))));replace hbl:=zd (hbl.alloc hbl.size zO44).drew b5 (hbl.alloc hbl.size zO44).size)|(have HZ:=zz9 (zg b5 (heap_alloc_new _ zO44) (by simp));have HZG:=zz9 (And.intro (Nat.le_trans HB4.out.size hbl.size) (Nat.ne_of_lt (Nat.lt_of_lt_of_le hgp (Nat.le_trans HN4.out hbl.size))));replace hbl:=zd (hbl.alloc hbl.size zO44) b5 (hbl.alloc hbl.size zO44).size));clear b5)
    | (go_at_call 19;refine (KR.out _ _ (by first|exact hbl.alloc hbl.size _|exact (hbl.alloc hbl.size _).alloc (hbl.alloc hbl.size _).size _|exact (hbl.drew).alloc hbl.size _|exact ((hbl.alloc hbl.size _).drew).alloc (hbl.alloc hbl.size _).size _|exact ((hbl.drew).alloc hbl.size _).alloc (hbl.alloc hbl.size zO44).size _) (by first|exact heap_alloc_new _ _|exact kN _ _ _|exact zg (za _ _) (heap_alloc_new _ _) (by simp))).mono ?_;rintro e w6 ⟨A6,c6,rfl,hm6,hb6⟩;have HXR:=zz9 (HX.out w6 hb6);have HB6:Hid (Below w.heap.size w w6):=HB4.out.trans (hb6.mono HW.out);(first|(have HZ6:=hm6.kept (zg (za _ _) HZ.out (zz7.1 HZ.out).1) (by decide);have HG6:=zz9 HZG.out;obtain ⟨⟨d0,d1,d2,d3,d4⟩,f0,f1,f2,f3,f4⟩:=xi HZ6)|(have HZ6:=hm6.kept (zg (za _ _) (heap_alloc_new w5 zO44) (by simp)) (by decide);have HG6:Hid (w.heap.size<=w5.heap.size/\gp≠w5.heap.size):=⟨Nat.le_trans HB4.out.size hbl.size,by have:=HN4.out;have:=hbl.size;omega⟩;obtain ⟨⟨d0,d1,d2,d3,d4⟩,f0,f1,f2,f3,f4⟩:=xi HZ6)|(have HZ6:=hm6.kept (kN w5 _ zO44) (by decide);have HG6:Hid (w.heap.size<=w5.heap.size+1/\gp≠w5.heap.size+1):=⟨Nat.le_succ_of_le (Nat.le_trans HB4.out.size hbl.size),by have:=HN4.out;have:=hbl.size;omega⟩;obtain ⟨⟨d0,d1,d2,d3,d4⟩,f0,f1,f2,f3,f4⟩:=xi HZ6)|skip);(try replace HZ6:=zz9 HZ6);clear hm6 hb6))
  all_goals
   first
    | (have hS:=zha HZ6.out 1 vn (.slice A6 0 c6) 0 us
       (try go_wp2_with fail)
       go_meet
       exact ⟨_,A6,c6,rfl,hS.here,HB6.out.trans (hS.below HG6.out.1)⟩)
    | ((try go_wp2_with fail)
       go_meet
       exact ⟨_,A6,c6,rfl,heap_alloc_new w6 (oC 1 vn (.slice A6 0 c6) 0 us),zd HB6.out (za w6 (oC 1 vn (.slice A6 0 c6) 0 us)) HB6.out.size⟩)
 case rest=>
  obtain ⟨gx,A6,c6,rfl,XB,hbw⟩:=hcut;obtain ⟨⟨z0,z1,z2,z3,z4⟩,_⟩:=xi XB;have HBW:=zz9 hbw;have HTR:Hid (∀ j:Nat,j<=255->-(400*j)<=tri a j/\tri a j<=400*j):=fun j hj=>zla HAB.out.1.1 HAB.out.1.2 j hj;clear XB hbw HX HX4 hbl KR KN HL
  go_wp2
  go_loop [11,12,13] (fun s n i=>∃ j:Nat,j<=N/\i =.int .i64 (a+j)/\s =.int .i64 (tri a j)/\n =.int .i64 j) (fun _ _ i=>(a+N-intOf i).toNat)
  case atStart=>exact ⟨0,Nat.zero_le _,by simp,rfl,rfl⟩
  case round=>
   obtain ⟨j,hj,rfl,rfl,rfl⟩:=hrel;by_cases hjN:j < N
   ·have hlt:a+(j:Int) < b:=by have:=HAB.out.2.2.2;omega
    have h1:=HTR.out j (by omega);have hs1:wrap64 (tri a j+(a+j)) =tri a (j+1):=by rw [xQ (by unfold fits;omega)];rfl
    go_wp2
    go_round
    case rel=>exact ⟨j+1,by omega,by go_num,by go_num,by go_num⟩
    case measure=>simp [intOf];omega
   ·obtain rfl:j =N:=by omega
    have hlt:¬ a+(j:Int) < b:=by have:=HAB.out.2.2.2;omega
    go_wp2
    go_ret;exact ⟨rfl,HBW.out⟩
end
section
open Go Go.ChangeShapes Go.WideShapes
theorem ye:(Rows.evalLoopsRow.inPlace == Tryz.prog.inPlace 7) =true:=by kernel_rfl
theorem jO:(Rows.evalLoopsRow.unfollowed == Tryz.prog.unfollowed 7) =true:=by kernel_rfl
theorem vm:(Rows.evalLoopsRow.recurses == Tryz.prog.recurses 7) =true:=by kernel_rfl
theorem wM:(Rows.evalLoopsRow.named == Tryz.prog.varsNamed 7) =true:=by kernel_rfl
theorem za3:laidOutB Tryz.prog =true:=by kernel_rfl
theorem zaf:mapsRowed Tryz.prog =true:=by kernel_rfl
theorem wy:joinedFacts Tryz.prog 7 Tryz.f7 Rows.evalLoopsSpec Rows.evalLoopsRow =true:=by
 unfold joinedFacts;rw [ye,jO,vm,wM,za3,zaf]
 kernel_rfl
theorem zes:OpenClaim.wfByText (OpenSpec.ofChange Rows.evalLoopsSpec) Rows.evalLoopsRow =true:=by kernel_rfl
theorem zet:Tryz.prog.funcNamed "covenant/covenantlaw10.EvalLoops" =some 7:=by kernel_rfl
theorem wv:([57,57].all fun u=>!Tryz.prog.wantsStandIn u) =true:=by kernel_rfl
theorem zar:false =Rows.evalLoopsRow.goesBy Tryz.pinned.checked.prog:=by kernel_rfl
end
end Go.Proofs.YtcilgkdnjgmogaaGreatDoor
