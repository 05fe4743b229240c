/- A part of the proof. -/
import Derived.Test.YtcilgkdnjgmogaaGreatDoorYd
import Derived.ProofKit
import Derived.LaidMore
import Derived.OpenShut
import Derived.Stop.Joined
import Derived.SizedLaws
import Derived.ChangeOld
import Derived.Below
import Derived.ChangeMaps5
import Derived.Deep.Slices
import Derived.Lib.SmallJoins
import Derived.Deep.SlicePairs
import Derived.Test.YtcilgkdnjgmogaaGreatDoorCards
import Derived.JoinedOf
namespace Go.Proofs.YtcilgkdnjgmogaaGreatDoor
open Go.Proofs.Tryz
set_option maxRecDepth 100000
set_option maxHeartbeats 12800000
set_option linter.all false
variable {B g i j m n:Nat} {W w:World} {e:TypeId} {l:List Nat}
section
open Go.RowKit Go.MapKept
def RawA(w:World)(V:Value)(vs:List Va):Prop:=
 ∃ks:List Value,ks.length=vs.length/\RowF w (Lo w.heap.size) vs.length (vasC vs ks) V/\∀(i:Nat) (v:Va) (k:Value),vs[i]? =some v->ks[i]? =some k->SB w w.heap.size k v.s/\fits v.n
def RawA.argx[Prt]{w w':World}{V:Value}{vs:List Va}{n0:Nat}(h:RawA w V vs)(hb:Below w.heap.size w w')(hn:w.heap.size<=n0):ArgY n0 w' V vs:=by
 obtain⟨ks,h1,h2,h3⟩:=h;exact⟨Lo w.heap.size,ks,h1,h2.same fun k hk=>hb.block k hk,fun i v k a b=>⟨(h3 i v k a b).1.on hb,(h3 i v k a b).2⟩,fun b hb'=>⟨aS hb' hb.size,zDo (aS hb' hn),.inl (aS hb' hn)⟩⟩
def zCm(A0:Option Addr)(T:List Nat)(n0 c0:Nat)(hn0:T.length=n0)(hc0:n0<=c0)(hm0:c0<=maxLen)(hyT:Byn T)(name:List Nat)(hy:Byn name)(V:Value)(vs:List Va)(AL:Option Addr)(cL:Nat)(ls:List PR)(hcL:ls.length<=cL)(hmL:cL<=maxLen)(hlL:ls.length<=2932031007402)(limit:Int)(hlim:fits limit)
  (w:World) (ht:Tab w) (hT:Lies w w.heap.size A0 c0 (bts T)) (hA:RawA w V vs) (hL:Prs w w.heap.size AL cL ls) :
  Calls prog 5 #[.slice A0 n0 c0,.string (strN name),V,.slice AL ls.length cL,.int .i64 limit] w fun e w'=>e=.returned (.bool true)/\Below w.heap.size w w':=by
 have HTab:=aQ ht;have HT:=aQ hT;have HA:=aQ hA;have HL:=aQ hL;have HP:=aQ (And.intro hn0 (And.intro hc0 (And.intro hm0 (And.intro hyT (And.intro hy (And.intro hcL (And.intro hmL (And.intro hlL hlim))))))));have K:=aQ (wP w ht);have hpos:=ht.1;clear ht hT hA hL hn0 hc0 hm0 hyT hy hcL hmL hlL hlim;go_enter func5,ntmps5
 go_wp2_with fail
 with_reducible refine K.out.mono ?_
 clear K;rintro e wa ⟨rfl,ba⟩;have HBa:=aQ ba;clear ba;have K:=aQ (zCs T A0 n0 c0 wa HP.out.1 HP.out.2.1 HP.out.2.2.1 (HT.out.below HBa.out |>.more HBa.out.size) HP.out.2.2.2.1 (HTab.out.below HBa.out hpos))
 go_wp2_with fail
 with_reducible refine K.out.mono ?_
 clear K;rintro e w1 (⟨A1,c1,err,aW,rfl,he,b1⟩|⟨fs,ks,A,c,hp,hsh,rfl,hX,b1⟩)
 ·have HB1:=aQ (zd HBa.out b1 HBa.out.size);have q0:(err != 0)=true:=by simpa using he
  have hc1:=za w1 (.cells #[.slice A1 0 c1] 26);have HB2:=aQ (zd HB1.out hc1 HB1.out.size);clear b1 he hc1 HB1 HBa;go_upto_region 3 with fail
  generalize w1.alloc (.cells #[.slice A1 0 c1] 26)=w2 at *
  have K:Hid (∀w',Below w.heap.size w w'->Calls prog 17 #[.slice AL ls.length cL] w' (NewQ w.heap.size ls w')):=fun w' hb=>zCg w.heap.size AL ls cL w' hb.size (HL.out.on hb) HP.out.2.2.2.2.2.1 HP.out.2.2.2.2.2.2.1 HP.out.2.2.2.2.2.2.2.1
  (go_wp2_with fail);refine(K.out w2 HB2.out).mono ?_;rintro e w3 ⟨b3,h⟩;have HB3:=aQ (zd HB2.out b3 HB2.out.size);obtain⟨x,rfl⟩:∃x,e=.returned x:=by rcases h with⟨_,rfl⟩|⟨_,J,rfl,_⟩<;>exact⟨_,rfl⟩
  clear h b3 HB2
  (go_wp2_with fail);refine(K.out w3 HB3.out).mono ?_;rintro e w4 ⟨b4,h⟩;have HB4:=aQ (zd HB3.out b4 HB3.out.size);obtain⟨y,rfl⟩:∃y,e=.returned y:=by rcases h with⟨_,rfl⟩|⟨_,J,rfl,_⟩<;>exact⟨_,rfl⟩
  clear h b4 HB3
  go_wp2_with fail
  all_goals
   go_ret;exact⟨rfl,HB4.out⟩
 ·have HB1:=aQ (zd HBa.out b1 HBa.out.size);have HF:=aQ (And.intro hp hsh);have hc1:=za w1 (.cells #[.slice A fs.length c] 26);have X0:Hid ((w1.alloc (.cells #[.slice A fs.length c] 26)).cell? ⟨w1.heap.size,0,none⟩=some (.slice A fs.length c)):=by show _=_;rw[wy _ _ _ _ _ _ (ye w1 _)];rfl
  have HB2:=aQ (zd HB1.out hc1 HB1.out.size);have HX2:Hid (XfsC (w1.alloc (.cells #[.slice A fs.length c] 26)) (Lo (w1.alloc (.cells #[.slice A fs.length c] 26)).heap.size) fs ks (.slice A fs.length c)):=(hX.same (xj hc1 (aR _))).more fun k hk=>aS hk hc1.size;clear b1 hc1 HB1 HBa hX hp hsh;go_upto_region 3 with fail
  generalize w1.alloc (.cells #[.slice A fs.length c] 26)=w2 at *
  generalize w1.heap.size=gp at *
  have hgp:gp<w2.heap.size:=wW w2 _ X0.out;have K:Hid (∀w',Below w2.heap.size w2 w'->Calls prog 17 #[.slice AL ls.length cL] w' (NewQ w2.heap.size ls w')):=fun w' hb=>zCg w2.heap.size AL ls cL w' hb.size (HL.out.on (zd HB2.out hb HB2.out.size)) HP.out.2.2.2.2.2.1 HP.out.2.2.2.2.2.2.1 HP.out.2.2.2.2.2.2.2.1
  (go_wp2_with fail);refine(K.out w2 (Below.refl _ _)).mono ?_;rintro e w3 ⟨b3,h3⟩;have HB3:=aQ b3;rcases h3 with⟨hr,rfl⟩|⟨hr,J,rfl,hJ,hj,hjb⟩
  ·have HR:=aQ hr;clear b3 hr
   (go_wp2_with fail);refine(K.out w3 HB3.out).mono ?_;rintro e w4 ⟨b4,h4⟩;have HB4:=aQ (zd HB2.out (zd HB3.out b4 HB3.out.size) HB2.out.size);obtain⟨y,rfl⟩:∃y,e=.returned y:=by rcases h4 with⟨_,rfl⟩|⟨_,J,rfl,_⟩<;>exact⟨_,rfl⟩
   clear h4 b4
   go_wp2_with fail
   all_goals
    go_ret;exact⟨rfl,HB4.out⟩
  have HR:=aQ hr;have HJ3:=aQ (And.intro hJ (And.intro hj hjb));clear b3 hr hJ hj hjb
  (go_wp2_with fail);refine(K.out w3 HB3.out).mono ?_;rintro e w4 ⟨b4,h4⟩;rcases h4 with⟨hr,rfl⟩|⟨hr,L,rfl,hL,hl,hlb⟩
  ·exact absurd HR.out hr
  have HB4:=aQ (zd HB3.out b4 HB3.out.size);have HJ4:Hid (Jr w2.heap.size w4 J [] ls/\J<L/\∀b,Jb w4 J b->b=J):=⟨HJ3.out.2.1.on b4,by have:=(HJ3.out.2.1.jb_lt (.inl rfl)).1;omega,fun b hb=>HJ3.out.2.2 b (zFm (b4.block J (HJ3.out.2.1.jb_lt (.inl rfl)).1) hb)⟩;have HL4:=aQ (And.intro hl hlb);have X4:=aQ (zb X0.out HB4.out);have HXw4:=aQ (HX2.out.same (xj HB4.out (aR _)));clear b4 hr hL hl hlb HJ3 K HB3 X0;by_cases hlt:20000<limit
  ·have q0:decide (limit > 20000)=true:=by simpa using hlt
   have HBw:=aQ (zd HB2.out HB4.out HB2.out.size)
   go_wp2_with fail
   all_goals
    go_ret;exact⟨rfl,HBw.out⟩
  have q0:decide (limit > 20000)=false:=by simpa using hlt
  have x4:=X4.out
  (go_wp2_with fail);clear x4 q0;have hlp:limit<=20000:=by omega
  clear hlt;obtain⟨v,t,u,hs',cur',hu,ht0,RUN⟩:=zCp HF.out.1 HF.out.2 name HP.out.2.2.2.2.1 vs limit ls;have HRUN:=aQ (fun(iP:Prt)=>@RUN iP);have HU:=aQ (And.intro hu ht0);clear RUN hu ht0;have HBw4:=aQ (zd HB2.out HB4.out HB2.out.size);have K19:=aQ (HRUN.out ⟨fun b=>b=L⟩ w2.heap.size ks A c J w4 V ⟨HB4.out.size,HJ4.out.1,HXw4.out⟩ (fun b hb e=>by have:=HJ4.out.2.2 b hb;have:=HJ4.out.2.1;subst e;omega) (fun b e=>by subst e;exact(HL4.out.1.jb_lt (.inl rfl)).1) (@RawA.argx ⟨fun b=>b=L⟩ _ _ _ _ _ HA.out HBw4.out HB2.out.size));refine K19.out.mono ?_;rintro e w6 ⟨A1,c1,rfl,hm,hnp,hj,hsb⟩;obtain⟨hl6,hlb6⟩:=@Jr.prt ⟨fun b=>b=L⟩ _ _ _ _ _ _ HL4.out.1 hm (fun b hb=>HL4.out.2 b hb);have low6:=@Mv.low ⟨fun b=>b=L⟩ _ _ _ _ hm HB4.out.size;have b7:=za w6 (oC v.t v.n (.slice A1 v.s.length c1) t u);have h7:=ye w6 (oC v.t v.n (.slice A1 v.s.length c1) t u);have HSB6:=aQ (hsb.on b7);have hn6:w2.heap.size<=w6.heap.size:=aT HB4.out.size (@Mv.size ⟨fun b=>b=L⟩ _ _ _ _ hm);have LOW7:=aQ (low6.trans (b7.mono hn6));have HJ7:=aQ (hj.on b7);have HL7:=aQ (hl6.on b7);have HNP7:Hid (∀b,Jb (w6.alloc (oC v.t v.n (.slice A1 v.s.length c1) t u)) L b->¬Jb (w6.alloc (oC v.t v.n (.slice A1 v.s.length c1) t u)) J b):=fun b hb hb'=>by
   have e1:b=L:=HL4.out.2 b (hlb6 b (zFm (b7.block L (hl6.jb_lt (.inl rfl)).1) hb));exact hnp b (zFm (b7.block J (hj.jb_lt (.inl rfl)).1) hb') e1
  have H7:=aQ h7;have x7:(w6.alloc (oC v.t v.n (.slice A1 v.s.length c1) t u)).cell? ⟨gp,0,none⟩=some (.slice A fs.length c):=by rw[LOW7.out.cell (p:=⟨gp,0,none⟩) hgp];exact X4.out
  have HN7:Hid (w2.heap.size<=w6.heap.size/\w6.heap.size<(w6.alloc (oC v.t v.n (.slice A1 v.s.length c1) t u)).heap.size):=⟨hn6,by simp⟩;clear K19 hm hnp hj hsb hl6 hlb6 low6 b7 h7 hn6;unfold oC at HSB6 LOW7 HJ7 HL7 HNP7 H7 x7 HN7
  go_wp2_with fail
  generalize w6.alloc (.cells #[.int .i64 v.t,.int .i64 v.n,.slice A1 v.s.length c1,.int .i64 t,.int .i64 u] 44)=w7 at *
  generalize w6.heap.size=d7 at *
  clear x7;have HBw7:=aQ (HBw4.out.trans (LOW7.out.mono HB2.out.size));have K19:=aQ (HRUN.out ⟨fun b=>Jb w7 J b⟩ w2.heap.size ks A c L w7 V ⟨aT HN7.out.1 (Nat.le_of_lt HN7.out.2),HL7.out,HXw4.out.same (vL LOW7.out)⟩ HNP7.out (fun b e=>(HJ7.out.jb_lt e).1) (@RawA.argx ⟨fun b=>Jb w7 J b⟩ _ _ _ _ _ HA.out HBw7.out HB2.out.size));refine K19.out.mono ?_;rintro e w8 ⟨A2,c2,rfl,hm,hnp,hl8,hsb⟩;obtain⟨hj8,_⟩:=@Jr.prt ⟨fun b=>Jb w7 J b⟩ _ _ _ _ _ _ HJ7.out hm (fun b hb=>hb);have low8:=@Mv.low ⟨fun b=>Jb w7 J b⟩ _ _ _ _ hm (aT HN7.out.1 (Nat.le_of_lt HN7.out.2));have h8:=@Mv.kept ⟨fun b=>Jb w7 J b⟩ _ _ _ _ _ _ _ _ hm H7.out (by decide);have sb8:=HSB6.out.off (@Mv.off ⟨fun b=>Jb w7 J b⟩ _ _ _ _ hm);have b9:=za w8 (oC v.t v.n (.slice A2 v.s.length c2) t u);have h9:=ye w8 (oC v.t v.n (.slice A2 v.s.length c2) t u);have hn8:w2.heap.size<=w8.heap.size:=aT (aT HN7.out.1 (Nat.le_of_lt HN7.out.2)) (@Mv.size ⟨fun b=>Jb w7 J b⟩ _ _ _ _ hm);have LOW9:=aQ (LOW7.out.trans (low8.trans (b9.mono hn8)));have HO9:=aQ (And.intro (zg b9 h8 (aU.1 h8).1) h9);have HS9:=aQ (And.intro (sb8.on b9) (hsb.on b9));have HJ9:=aQ (And.intro (hj8.on b9) (hl8.on b9));clear K19 hm hnp hl8 hsb hj8 low8 h8 sb8 b9 h9 hn8 HNP7 HL7 HJ7 HSB6 H7;unfold oC at LOW9 HO9 HS9 HJ9;go_upto_region 9 with fail
  generalize w8.alloc (.cells #[.int .i64 v.t,.int .i64 v.n,.slice A2 v.s.length c2,.int .i64 t,.int .i64 u] 44)=w9 at *
  generalize w8.heap.size=d9 at *
  obtain⟨⟨x1,x2,x3,x4,x5⟩,_⟩:=xi HO9.out.1;obtain⟨⟨y1,y2,y3,y4,y5⟩,_⟩:=xi HO9.out.2;have q0:decide (u<0)=false:=by have:=HU.out.1.1;simp;omega
  obtain⟨m,q1,hum⟩:∃m:Int,(if(0:Int) > limit then(0:Int)else limit)=m/\u<=m:=⟨_,rfl,by
   have h:=HU.out.1.2;unfold newL up at h
   split<;>omega⟩
  have q1':(if limit<(0:Int)then(0:Int)else limit)=m:=q1;have q2:decide (u > m)=false:=by simp;omega
  have q3:decide (m<u)=false:=by simp;omega
  clear hum
  (go_wp2_with fail);clear q0 q1 q1' q2 q3;have HBw9:=aQ (HBw4.out.trans (LOW9.out.mono HB2.out.size));have HR9:=aQ HJ9.out.1.cur;refine(zDh v.t v.n t u A1 A2 v.s v.s.length c1 c2 rfl w9 HS9.out.1 HS9.out.2).mono ?_;rintro e wb ⟨rfl,bb⟩;have HBb:=aQ bb;have KP:Hid (∀W,Below w9.heap.size w9 W->(Calls prog 23 #[.pointer (some ⟨J,0,none⟩)] W (NewR W cur'))/\Calls prog 23 #[.pointer (some ⟨L,0,none⟩)] W (NewR W cur')):=fun W hb=>⟨(zyt w2.heap.size W J hs' cur' (HJ9.out.1.on hb)).mono fun e w' h=>h.f.r,(zyt w2.heap.size W L hs' cur' (HJ9.out.2.on hb)).mono fun e w' h=>h.f.r⟩;clear bb
  (go_wp2_with fail);refine(KP.out _ HBb.out).1.mono ?_;rintro e wc ⟨A3,c3,rfl,hc3,hm3,hp3,_,bc⟩;have HP3:=aQ (And.intro hc3 (And.intro hm3 hp3));have HBc:=aQ (zd HBb.out bc HBb.out.size);clear bc hc3 hm3 hp3
  (go_wp2_with fail);refine(KP.out _ HBc.out).2.mono ?_;rintro e wd ⟨A4,c4,rfl,hc4,hm4,hp4,_,bd⟩;have HP4:=aQ (And.intro hc4 (And.intro hm4 (And.intro hp4 (HP3.out.2.2.on bd))));have HBd:=aQ (zd HBc.out bd HBc.out.size);clear bd hc4 hm4 hp4 HBc;have K22:Hid (Calls prog 22 #[.slice A3 cur'.length c3,.slice A4 cur'.length c4] wd fun e w'=>e=.returned (.bool true)/\Below wd.heap.size wd w'):=(zD4 A3 cur' c3 A4 cur' c4 wd HP4.out.2.2.2 HP3.out.1 HP3.out.2.1 HP4.out.2.2.1).mono fun e w' h=>⟨h.1.trans (by simp),h.2⟩
  (go_wp2_with fail);refine K22.out.mono ?_;rintro e we ⟨rfl,be⟩;have HBe:=aQ (zd HBd.out be HBd.out.size);clear be K22 HP3 HP4 HBd
  (go_wp2_with fail);refine(KP.out _ HBe.out).1.mono ?_;rintro e wf ⟨A3,c3,rfl,hc3,hm3,hp3,_,bf⟩;have HBf:=aQ (zd HBe.out bf HBe.out.size);have K26:Hid (Calls prog 26 #[.slice A3 cur'.length c3] wf fun e w'=>e=.returned (.bool true)/\Below wf.heap.size wf w'):=(zB9 A3 cur' c3 wf hp3 hc3 hm3 (by have:=(jo HR9.out).2;omega)).mono fun e w' h=>⟨h.1.trans (by rw[decide_eq_true HR9.out]),h.2⟩;clear bf hc3 hm3 hp3 HBe
  (go_wp2_with fail);refine K26.out.mono ?_;rintro e wg ⟨rfl,bg⟩;have HBg:=aQ (zd HBf.out bg HBf.out.size);clear bg K26 HBf
  (go_upto_region 11 with fail);obtain⟨⟨z1,z2,z3,z4,z5⟩,_⟩:=xi (zg HBg.out HO9.out.1 (aU.1 HO9.out.1).1);clear x1 x2 x3 x4 x5 y1 y2 y3 y4 y5;have HBwg:=aQ (zd HBw9.out HBg.out HBw9.out.size);by_cases h0:t=0
  ·have q0:(t==0)=true:=by simpa using h0
   clear h0
   go_wp2_with fail
   all_goals
    go_ret;exact⟨rfl,HBwg.out⟩
  obtain⟨rfl,rfl,rfl⟩:=HU.out.2 h0;have q0:(t==0)=false:=by simpa using h0
  clear h0
  (go_wp2_with fail);refine(KP.out _ HBg.out).1.mono ?_;rintro e wh ⟨A5,c5,rfl,hc5,hm5,hp5,_,bh⟩;have HBh:=aQ (zd HBg.out bh HBg.out.size);have K22:Hid (Calls prog 22 #[.slice A5 cur'.length c5,.slice AL cur'.length cL] wh fun e w'=>e=.returned (.bool true)/\Below wh.heap.size wh w'):=(zD4 A5 cur' c5 AL cur' cL wh hp5 hc5 hm5 (HL.out.on (zd HBwg.out bh HBwg.out.size))).mono fun e w' h=>⟨h.1.trans (by simp),h.2⟩;clear bh hc5 hm5 hp5
  (go_wp2_with fail);refine K22.out.mono ?_;rintro e wi ⟨rfl,bi⟩;have HBi:=aQ (zd HBh.out bi HBh.out.size);clear bi K22 HBh;have K27:Hid (Calls prog 27 #[.pointer (some ⟨J,0,none⟩)] wi fun e w'=>e=.returned (.int .i64 0)/\wi=w'):=zpu w2.heap.size wi J [] cur' (HJ9.out.1.on HBi.out)
  (go_wp2_with fail);refine K27.out.mono ?_;rintro e wj ⟨rfl,rfl⟩;clear K27 z1 z2 z3 z4 z5;have hz:wi.heap[d7]? =some (oC 0 0 (.slice A1 0 c1) t u):=zg HBi.out HO9.out.1 (aU.1 HO9.out.1).1;obtain⟨⟨z1,z2,z3,z4,z5⟩,_⟩:=xi hz;have K28:Hid (Calls prog 28 #[.agg #[.int .i64 0,.int .i64 0,.slice A1 0 c1],.agg #[.int .i64 0,.int .i64 0,.slice none 0 0]] wi fun e w'=>e=.returned (.bool true)/\Below wi.heap.size wi w'):=by
   obtain⟨A',c',e,_,_,g,_⟩:=HS9.out.1.on HBi.out;injection e with e1 _ e3
   subst e1 e3;exact zx9 0 0 A1 none [] 0 c1 0 rfl wi g (Lies.nothing _ _)
  have HBwi:=aQ (zd HBw9.out HBi.out HBw9.out.size);clear hz
  (go_wp2_with fail);refine K28.out.mono ?_;rintro e wj ⟨rfl,bj⟩;have HBj:=aQ (zd HBwi.out bj HBwi.out.size);clear bj
  go_wp2_with fail
  all_goals
   go_ret;exact⟨by simp,HBj.out⟩
end
section
open Go.ChangeShapes Go.WideShapes Go.ChangeAt Go.RowKit
def own:ownKnob prog.godebug=none:=by kernel_rfl
def zxr:laidOutB prog=true:=by kernel_rfl
def zr0:prog.cellsOf 9=1:=by kernel_rfl
def zxw:prog.bytesOf 5=1:=by kernel_rfl
def ztk:prog.globalNamed "covenant/token.keywords" =some 1:=by kernel_rfl
def zt2:(prog.globals[1]?).map (·.type)=some 247:=by kernel_rfl
def zuk:prog.globalNamed "covenant/token.signs" =some 2:=by kernel_rfl
def zs4:(prog.globals[2]?).map (·.type)=some 248:=by kernel_rfl
abbrev zeu:List (String×DataW Unit):=[("covenant/token.keywords",Rows.laid_covenant_token_keywords),("covenant/token.signs",Rows.laid_covenant_token_signs)]
def litS(s:List Nat):DataW Unit:=.lit (.string (s.map UInt8.ofNat))
def zi7:(Rows.laid_covenant_token_keywords:DataW Unit)=.agg (xV.map litS):=by kernel_rfl
def zh6:(Rows.laid_covenant_token_signs:DataW Unit)=.agg (xU.map litS):=by kernel_rfl
def zg2(os:Os)(args:Array Value):laidMetH prog zeu ((World.doorLaid prog 400 os).forCall (fun _ _=>0) ⟨#[],args,[]⟩).memory:=
 laidMetH_of_parts3 (fuel:=8) (laidMet_of_run' 8 (by kernel_rfl) (by kernel_rfl)) (by kernel_rfl) (by kernel_rfl)
def ziu{s:ByteArray}(h:(DataW.lit (.string s.data.toList):DataW Unit)=litS l):s=strN l:=by
 have h1:s.data.toList=l.map UInt8.ofNat:=by
  simpa[litS]using h
 apply ByteArray.ext;rw[xr,<- h1]
def wE{nm:String}{t:TypeId}{cs:Array Value}{f:Nat}{q:List MemPlace}{L:List (List Nat)}{d:DataW Unit}{b0:Nat}{en:TypeId×Value->Unit}{sp:Nat->Bool}{hl:Bool}
  (hg:prog.globalNamed nm=some g) (hv:W.var? prog nm=some cs) (ht:prog.underlying t=some (.array n 9)) (hd:DataW.trod en prog W b0 sp hl f t cs.toList=some (d,q)) (hL:d=.agg (L.map litS)) (hn:L.length=n) :
  W.rangeAt g 0 (L.map strV):=by
 obtain⟨xs,m1,rfl,hx1,hlen,hxn,hel⟩:=DataW.trod_array ht hd;simp only[Prod.mk.injEq]at hx1;rw[hL]at hx1;have hagg:L.map litS=xs.map (fun x=>x.fst):=by
  have:=hx1.1;injection this
 intro k v hk;rw[Nat.zero_add,World.var?_cell hg hv k];obtain⟨s,hs,rfl⟩:∃s,L[k]? =some s/\strV s=v:=by
  rw[List.getElem?_map]at hk;cases hL:L[k]? with
  | none=>rw[hL]at hk;simp at hk
  | some s=>rw[hL]at hk;exact⟨s,rfl,by simpa using hk⟩
 have hkn:k<n:=by rw[<- hn];exact(vm.1 hs).1
 have h0:=hel k hkn;obtain⟨x,hx⟩:∃x,xs[k]? =some x:=⟨_,vp (by omega)⟩;rw[hx,zr0]at h0;obtain⟨sb,e1,e2,_⟩:=DataW.trod_string underlying9 h0;have h1:(L.map litS)[k]? =some (litS s):=by rw[List.getElem?_map,hs];rfl
 rw[hagg,List.getElem?_map,hx,e2]at h1;have h2:sb=strN s:=ziu (by simpa using h1);have h3:(cs.toList.drop (k*1))[0]? =some (.string sb):=by
  have:=congrArg (fun l:List Value=>l[0]?) e1;simpa using this
 show cs[k]? =some (.string (strN s));rw[<- h2];simpa using h3
def zwe(h:laidMetH prog zeu W):Tab W:=by
 rw[MakeChecks.laidMetH_plain _ _ _ (by kernel_rfl)]at h;obtain⟨ps,⟨g0,t0,cs0,f0,p0,q0,hg0,ht0,hv0,hd0,hrest,_⟩,_,_⟩:=h;obtain⟨g1,t1,cs1,f1,p1,q1,hg1,ht1,hv1,hd1,_,_⟩:=hrest;obtain rfl:=Option.some.inj (ztk.symm.trans hg0);obtain rfl:=Option.some.inj (zt2.symm.trans ht0);obtain rfl:=Option.some.inj (zuk.symm.trans hg1);obtain rfl:=Option.some.inj (zs4.symm.trans ht1);have r0:=wE hg0 hv0 underlying247 hd0 zi7 rfl;have r1:=wE hg1 hv1 underlying248 hd1 zh6 rfl;exact⟨wW W _ (r1 0 _ rfl),r0,r1⟩
def zyx{n:Int}(h:(Lit.int .u8 n).wf=true):0<=n/\n<256:=by
 have:=bounds_u8 h;omega
section
variable {H:Type} {enc:TypeId×Value->H} {P:Program} {w:World} {base:Nat} {held:Bool} {d:DataW H} {ps:List MemPlace} {ts:List TypeId} {ds:List (DataW H)}
def zxe{a:Addr}{len cap:Nat}{zs:List Int}(hl:len<=cap)(hz:zs.length=cap)(hc:∀i,i<cap->w.cell? (a.add i)=some (.int .u8 (zs.getD i 0))):Lies w w.heap.size (some a) cap (zA (zs.take len)):=by
 refine⟨(fun e=>by cases e),fun j u hu=>?_⟩;have hj:j<len:=by
  have:=(vm.1 hu).1;simp at this;omega
 have hcj:=hc j (by omega);refine⟨a,rfl,by have:=wW w _ hcj;rwa [qh]at this,?_⟩;rw[hcj];have:zs[j]? =some zs[j]:=vp (by omega);simp[hj,this]at hu;simp[List.getD,this,hu]
def zxl{t e:TypeId}{a:Option Addr}{len cap:Nat}(ht:P.underlying t=some (.slice e))(he:P.underlying e=some (.int .u8))(hc:P.cellsOf e=1)
  (h:DataW.Trod enc P w base (fun _=>true) held t (.slice a len cap) d ps) :
  ∃s:List Int,s.length=len/\len<=cap/\cap<=maxLen/\Byt s/\Lies w w.heap.size a cap (zA s):=by
 obtain⟨fuel,hf⟩:=h;rcases open_ints ht he hc hf with⟨hcs,_⟩|⟨x,l,c,zs,hcs,_,hl,hm,hz,_,hcell,hwz⟩
 ·simp[Value.cells]at hcs;obtain⟨rfl,rfl,rfl⟩:=hcs;exact⟨[],rfl,aR _,aK _,Byt.nil,Lies.nothing _ _⟩
 ·simp[Value.cells]at hcs;obtain⟨rfl,rfl,rfl⟩:=hcs;have hz':zs.length=cap:=by simpa using hz
  refine⟨zs.take len,by simp;omega,hl,hm,fun b hb=>zyx (hwz b (List.mem_of_mem_take hb)),zxe hl hz' fun i hi=>hcell i (by omega)⟩
def zwq{t e:TypeId}{a:Option Addr}{len cap:Nat}(ht:P.underlying t=some (.slice e))(he:P.underlying e=some (.int .u8))(hc:P.cellsOf e=1)(hb:P.bytesOf e=1)
  (h:DataW.Trod enc P w base (fun _=>true) held t (.slice a len cap) d ps) (hsz:(DataW.weightsEach P ts ds).all (·<=reachBytes)=true) (h1:ts[j]? =some t) (h2:ds[j]? =some d):cap<=140737488351232:=by
 obtain⟨fuel,hf⟩:=h;rcases open_ints ht he hc hf with⟨hcs,_⟩|⟨x,l,c,zs,hcs,_,hl,hm,hz,hx,_,_⟩
 ·simp[Value.cells]at hcs;omega
 ·simp[Value.cells]at hcs;obtain⟨rfl,rfl,rfl⟩:=hcs;have hz':zs.length=cap:=by simpa using hz
  have hd:d=.slice (lits .u8 (zs.take len)) (lits .u8 (zs.drop len)):=by injection hx
  subst hd;have:=sized_slice hsz h1 h2 ht;rw[hb]at this;simp only[lits,aD,aI,aH,reachBytes]at this;omega
def zw7{t e:TypeId}{a:Option Addr}{len cap:Nat}(ht:P.underlying t=some (.slice e))(he:P.underlying e=some (.int .u8))(hc:P.cellsOf e=1)
  (h:DataW.Trod enc P w base (fun _=>true) held t (.slice a len cap) d ps) :
  ∃s:List Nat,s.length=len/\len<=cap/\cap<=maxLen/\Byn s/\Lies w w.heap.size a cap (bts s):=by
 obtain⟨s,h1,h2,h3,h4,h5⟩:=zxl ht he hc h;have hs:ints (s.map Int.toNat)=s:=by
  simp only[ints,List.map_map]
  conv=>rhs;rw[<- List.map_id s]
  refine List.map_congr_left fun x hx=>?_;have:=h4 x hx;simp;omega
 refine⟨s.map Int.toNat,by simpa using h1,h2,h3,fun b hb=>?_,?_⟩
 ·obtain⟨x,hx,rfl⟩:=List.mem_map.1 hb;have:=h4 x hx;omega
 ·unfold bts;rw[hs];exact h5
end
end
section
open Go.ChangeShapes Go.WideShapes Go.ChangeAt Go.RowKit
def zBd{α β:Type}:∀(n:Nat) (p:Nat->α->β->Prop),(∀i,i<n->∃a b,p i a b)->∃(l:List α) (ks:List β),l.length=n/\ks.length=n/\∀i a b,l[i]? =some a->ks[i]? =some b->p i a b
 | 0,_,_=>⟨[],[],rfl,rfl,fun i a b h=>by simp at h⟩
 | n+1,p,h=>by
  obtain⟨a,b,hab⟩:=h 0 (by omega);obtain⟨l,ks,h1,h2,h3⟩:=zBd n (fun i=>p (i+1)) fun i hi=>h (i+1) (by omega);refine⟨a::l,b::ks,by simp[h1],by simp[h2],fun i x y hx hy=>?_⟩;cases i with
  | zero=>
   simp at hx hy;subst hx hy;exact hab
  | succ i=>exact h3 i x y (by simpa using hx) (by simpa using hy)
def zFw{H:Type}{wt:Nat}:∀ {ds:List (DataW H)} {i:Nat} {d:DataW H},ds[i]? =some d->wt∈d.weights prog e->wt∈DataW.weightsAll prog e ds
 | [],i,d,h,_=>by simp at h
 | x::r,0,d,h,hw=>by
  simp at h;subst h;unfold DataW.weightsAll;exact List.mem_append_left _ hw
 | x::r,i+1,d,h,hw=>by
  unfold DataW.weightsAll;exact List.mem_append_right _ (zFw (i:=i) (by simpa using h) hw)
def zFk{H:Type}{wt:Nat}:∀ {ts:List TypeId} {ds:List (DataW H)} {i:Nat} {t:TypeId} {d:DataW H},ts[i]? =some t->ds[i]? =some d->wt∈d.weights prog t->wt∈DataW.weightsEach prog ts ds
 | [],_,i,t,d,h,_,_=>by simp at h
 | _::_,[],i,t,d,_,h,_=>by simp at h
 | t0::ts,d0::ds,0,t,d,h,h',hw=>by
  simp at h h';subst h h';unfold DataW.weightsEach;exact List.mem_append_left _ hw
 | t0::ts,d0::ds,i+1,t,d,h,h',hw=>by
  unfold DataW.weightsEach;exact List.mem_append_right _ (zFk (i:=i) (by simpa using h) (by simpa using h') hw)
section
variable {H:Type} {enc:TypeId×Value->H} {w:World} {sp:Nat->Bool} {hd:Bool} {M:Nat}
def zAu{t:TypeId}{fs:Array Field}(ht:prog.underlying t=some (.struct fs)){xs:List (DataW H×List MemPlace)}(hM:∀wt∈(DataW.agg (xs.map (·.1))).weights prog t,wt<=M){i:Nat}{f:Field}{y:DataW H×List MemPlace}(hf:fs[i]? =some f)(hy:xs[i]? =some y):∀wt∈y.1.weights prog f.type,wt<=M:=by
 intro wt hw;refine hM wt ?_;unfold DataW.weights;rw[ht];exact zFk (i:=i) (t:=f.type) (d:=y.1) (by simp[hf]) (by simp[hy]) hw
def zBl{t e m fuel:Nat}{cs:List Value}{x:DataW H×List MemPlace}(ht:prog.underlying t=some (.slice e))(hm:prog.cellsOf e=m)(hpos:0<m)(hM:∀wt∈x.1.weights prog t,wt<=M)(h:DataW.trod enc prog w 0 sp hd fuel t cs=some x):cs=[.slice none 0 0]\/∃(a:Addr) (len cap n:Nat),fuel=n+1/\cs=[.slice (some a) len cap]/\len<=cap/\cap<=maxLen/\len*prog.bytesOf e<=M/\∀i,i<len->∃(cs':List Value) (y:DataW H×List MemPlace),cs'.length=m/\(∀wt∈y.1.weights prog e,wt<=M)/\DataW.trod enc prog w 0 sp hd n e cs'=some y/\∀r,r<m->a.block<w.heap.size/\∃v,cs'[r]? =some v/\w.cell? (a.add (i*m+r))=some v:=by
 subst hm;rcases DataW.trod_slice ht h with⟨h0,_⟩|⟨a,len,cap,elems,rest,n,hf,hcs,hx,_,hl,hc,hlen,hel,_,_⟩
 ·exact .inl h0
 ·have hM1:∀wt∈(elems.length+rest.length)*prog.bytesOf e::(DataW.weightsAll prog e (elems.map (·.1))++DataW.weightsAll prog e (rest.map (·.1))),wt<=M:=by
   intro wt hw;refine hM wt ?_;rw[hx];unfold DataW.weights;rw[ht];simpa using hw
  refine .inr ⟨a,len,cap,n,hf,hcs,hl,hc,aT (Nat.mul_le_mul_right _ (by omega)) (hM1 _ (List.mem_cons_self ..)),fun i hi=>?_⟩;have h1:=hel i hi;have h2:elems[i]? =some (elems[i]'(by omega)):=vp (by omega);rw[h2]at h1;cases hcc:w.cells? 0 (a.add (i*prog.cellsOf e)) (prog.cellsOf e)with
  | none=>rw[hcc]at h1;cases h1
  | some cs'=>
   rw[hcc]at h1;obtain⟨_,g2,g3⟩:=World.cells?_some hcc;refine⟨cs',_,g2,fun wt hw=>hM1 wt (List.mem_cons_of_mem _ (List.mem_append_left _ (zFw (i:=i) (by rw[List.getElem?_map,h2];rfl) hw))),h1,fun r hr=>?_⟩;have g4:=g3 r hr;have g5:cs'[r]? =some (cs'[r]'(by omega)):=vp (by omega);rw[g5,Go.Deep.add_add]at g4;exact⟨by have:=wW w _ g4;rwa [qh]at this,_,g5,g4⟩
def zCy{α β:Type}{f:α->β->List Value}(hpos:0<m)(hf:∀a b,(f a b).length=m){a:Addr}{len cap:Nat}(hl:len<=cap)(hc:cap<=maxLen)(l:List α)(ks:List β)(h1:l.length=len)(h2:ks.length=len)
  (hp:∀i x k,l[i]? =some x->ks[i]? =some k->∀r v,(f x k)[r]? =some v->a.block<w.heap.size/\w.cell? (a.add (i*m+r))=some v):RowF w (Lo w.heap.size) len (List.zipWith f l ks).flatten (.slice (some a) len cap):=by
 refine⟨_,_,rfl,hl,hc,(fun e=>by cases e),fun j u hu=>⟨a,rfl,?_⟩⟩;have hlen:(List.zipWith f l ks).flatten.length=len*m:=by
  rw[List.length_flatten,List.map_zipWith];have:(List.zipWith (fun a b=>(f a b).length) l ks)=List.replicate len m:=by
   apply List.ext_getElem?;intro i;rw[List.getElem?_zipWith,List.getElem?_replicate];by_cases hi:i<len
   ·rw[if_pos hi,vp (by omega),vp (by omega)];simp[hf]
   ·rw[if_neg hi,List.getElem?_eq_none (by omega)]
  rw[this];simp
 have hj:j<len*m:=by
  have:=(vm.1 hu).1;omega
 have hi:j / m<len:=Nat.div_lt_of_lt_mul (by rw[Nat.mul_comm];exact hj);have hr:j % m<m:=Nat.mod_lt _ hpos;have he:j=j / m*m+j % m:=by rw[Nat.mul_comm];exact(Nat.div_add_mod j m).symm
 obtain⟨x,hx⟩:∃x,l[j / m]? =some x:=⟨_,vp (by omega)⟩;obtain⟨k,hk⟩:∃k,ks[j / m]? =some k:=⟨_,vp (by omega)⟩;have hz:=zCa hf l ks (j / m) (j % m) x k hx hk hr;rw[<- he,hu]at hz;have:=hp _ x k hx hk _ u hz.symm;rw[<- he]at this;exact this
def zCx{t n:Nat}{v:Value}{y:DataW H×List MemPlace}(ht:prog.underlying t=some (.int .i64))(h:DataW.trod enc prog w 0 sp hd n t [v]=some y):∃k,v=.int .i64 k:=by
 obtain⟨k,e,_,_⟩:=DataW.trod_int ht h;simp at e;exact⟨k,e⟩
def zA4{α:Type}{l:List α}(h:l.length=n)(hi:i<n):∃a,l[i]? =some a:=⟨_,vp (by omega)⟩
end
end
section
open Go.ChangeShapes Go.WideShapes Go.ChangeAt Go.RowKit Go.Deep
def zCz:prog.bytesOf 119=48:=by kernel_rfl
def zGh:prog.cellsOf 22=1:=by kernel_rfl
def zBk:prog.cellsOf 119=2:=by kernel_rfl
def zDm:prog.cellsOf 41=3:=by kernel_rfl
def xc2:prog.cellsOf 2=1:=by kernel_rfl
def xc39:prog.cellsOf 39=1:=by kernel_rfl
section
variable {H:Type} {enc:TypeId×Value->H} {w:World} {base:Nat} {held:Bool} {d:DataW H} {ps:List MemPlace} {ts:List TypeId} {ds:List (DataW H)}
def zEd{v:Value}{x:DataW H×List MemPlace}(h:DataW.trod enc prog w base (fun _=>true) held n 22 [v]=some x):∃s,SB w w.heap.size v s:=by
 rcases open_ints underlying22 underlying5 zxj h with⟨hcs,_⟩|⟨x,l,c,zs,hcs,_,hl,hm,hz,_,hcell,hwz⟩
 ·injection hcs with hcs _
  subst hcs;exact⟨[],SB.nil _ _⟩
 ·injection hcs with hcs _
  subst hcs;have hz':zs.length=c:=by simpa using hz
  have hlen:(zs.take l).length=l:=by rw[aI];omega
  exact⟨zs.take l,some x,c,by rw[hlen],by omega,hm,zxe hl hz' fun i hi=>hcell i (by omega),fun b hb=>zyx (hwz b (List.mem_of_mem_take hb))⟩
def zDd{a:Addr}(cap:Nat)(V0 V1:Nat->Value)(q:Nat->PR)(hB:a.block<B):∀len,
  (∀i,i<len->w.cell? (a.add (i*2))=some (V0 i)/\w.cell? (a.add (i*2+1))=some (V1 i)/\SB w B (V0 i) (q i).1/\SB w B (V1 i) (q i).2)->Prs w B (some a) cap ((List.range len).map q)
 | 0,_=>⟨[],⟨(fun e=>by cases e),fun j u hu=>by simp at hu⟩,.nil⟩
 | len+1,h=>by
  obtain⟨vs,h1,h2⟩:=zDd cap V0 V1 q hB len fun i hi=>h i (by omega);obtain⟨g1,g2,g3,g4⟩:=h len (by omega);have hl:=h2.len;simp at hl;rw[List.range_succ,List.map_append];refine⟨vs++[V0 len,V1 len],⟨(fun e=>by cases e),fun j u hu=>?_⟩,h2.append (.cons g3 g4 .nil)⟩;rcases Nat.lt_or_ge j vs.length with hj|hj
  ·rw[aF hj]at hu;exact h1.2 j u hu
  ·rw[aG hj]at hu;refine⟨a,rfl,hB,?_⟩
   match hk:j-vs.length,hu with
   | 0,hu=>
    simp at hu;rw[show j=len*2 by omega,g1,hu]
   | 1,hu=>
    simp at hu;rw[show j=len*2+1 by omega,g2,hu]
def zBo{a:Option Addr}{len cap:Nat}(h:DataW.Trod enc prog w base (fun _=>true) held 33 (.slice a len cap) d ps):∃ls:List PR,ls.length=len/\len<=cap/\cap<=maxLen/\Prs w w.heap.size a cap ls:=by
 obtain⟨fuel,hf⟩:=h;rcases open_slice_pairs underlying33 underlying119 zBk rfl rfl zGh zGh hf with⟨hcs,_⟩|⟨x,l,c,m,n,V0,V1,D0,D1,P0,P1,hcs,_,hl,hm,hmm,_,hrow⟩
 ·simp[Value.cells]at hcs;obtain⟨rfl,rfl,rfl⟩:=hcs;exact⟨[],rfl,aR _,aK _,Prs.nothing _ _⟩
 ·simp[Value.cells]at hcs;obtain⟨rfl,rfl,rfl⟩:=hcs;have hmc:m=cap:=by simpa using hmm
  subst hmc;have each:∀i,i<len->∃q:PR,SB w w.heap.size (V0 i) q.1/\SB w w.heap.size (V1 i) q.2:=fun i hi=>by
   obtain⟨_,_,t0,t1⟩:=hrow i (by omega);obtain⟨s0,g0⟩:=zEd t0;obtain⟨s1,g1⟩:=zEd t1;exact⟨(s0,s1),g0,g1⟩
  obtain⟨q,hq⟩:=choose_lt each;refine⟨(List.range len).map q,by simp,hl,hm,?_⟩;by_cases h0:len=0
  ·subst h0;exact⟨[],⟨(fun e=>by cases e),fun j u hu=>by simp at hu⟩,.nil⟩
  ·have hb:x.block<w.heap.size:=by
    have:=wW w _ (hrow 0 (by omega)).1
    rwa [qh]at this
   exact zDd _ V0 V1 q hb len fun i hi=>⟨(hrow i (by omega)).1,(hrow i (by omega)).2.1,(hq i hi).1,(hq i hi).2⟩
def zA1{a:Option Addr}{len cap:Nat}(h:DataW.Trod enc prog w base (fun _=>true) held 33 (.slice a len cap) d ps)(hsz:(DataW.weightsEach prog ts ds).all (·<=reachBytes)=true)(h1:ts[j]? =some 33)(h2:ds[j]? =some d):len<=2932031007402:=by
 obtain⟨fuel,hf⟩:=h;rcases open_slice_pairs underlying33 underlying119 zBk rfl rfl zGh zGh hf with⟨hcs,_⟩|⟨x,l,c,m,n,V0,V1,D0,D1,P0,P1,hcs,_,hl,hm,hmm,hx,hrow⟩
 ·simp[Value.cells]at hcs;omega
 ·simp[Value.cells]at hcs;obtain⟨rfl,rfl,rfl⟩:=hcs;injection hx with hd _
  subst hd;have:=sized_slice hsz h1 h2 underlying33;rw[zCz]at this;simp only[aD,List.length_range,reachBytes]at this;omega
end
section
variable {H:Type} {enc:TypeId×Value->H} {w:World} {hd:Bool} {M:Nat}
def zCd{v:Value}{y:DataW H×List MemPlace}(hM:∀wt∈y.1.weights prog 22,wt<=M)(h:DataW.trod enc prog w 0 (fun _=>true) hd n 22 [v]=some y):∃s,SB w w.heap.size v s/\s.length<=M:=by
 have hr:=zBl underlying22 zxj (by omega) hM h;rcases open_ints underlying22 underlying5 zxj h with⟨hcs,_⟩|⟨x,l,c,zs,hcs,_,hl,hm,hz,_,hcell,hwz⟩
 ·injection hcs with hcs _
  subst hcs;exact⟨[],SB.nil _ _,aK _⟩
 ·injection hcs with hcs _
  subst hcs;have hz':zs.length=c:=by simpa using hz
  have hlen:(zs.take l).length=l:=by rw[aI];omega
  refine⟨zs.take l,⟨some x,c,by rw[hlen],by omega,hm,zxe hl hz' fun i hi=>hcell i (by omega),fun b hb=>zyx (hwz b (List.mem_of_mem_take hb))⟩,?_⟩;rcases hr with h0|⟨a,len,cap,n',_,h1,_,_,h2,_⟩
  ·simp at h0
  ·simp at h1;obtain⟨_,h3,_⟩:=h1;rw[zxw]at h2;omega
def zC8{v:Value}{y:DataW H×List MemPlace}(h:DataW.trod enc prog w 0 (fun _=>true) hd n 2 [v]=some y):∃k,v=.int .i64 k/\fits k:=by
 obtain⟨k,e,_,wk⟩:=DataW.trod_int underlying2 h;simp at e;exact⟨k,e,bounds_i64 wk⟩
def zEh{cs:List Value}(h:cs.length=3):∃a b c,cs=[a,b,c]:=by
 match cs,h with
 | [a,b,c],_=>exact⟨a,b,c,rfl⟩
def zCo{fuel:Nat}{cs:List Value}{x:DataW H×List MemPlace}(hM:∀wt∈x.1.weights prog 32,wt<=M)(h:DataW.trod enc prog w 0 (fun _=>true) hd fuel 32 cs=some x):∃(vs:List Va) (ks:List Value) (V:Value),cs=[V]/\ks.length=vs.length/\RowF w (Lo w.heap.size) vs.length (vasC vs ks) V/\∀(i:Nat) (v:Va) (k:Value),vs[i]? =some v->ks[i]? =some k->SB w w.heap.size k v.s/\fits v.n/\v.s.length<=M:=by
 rcases zBl underlying32 zDm (by omega) hM h with rfl|⟨a,len,cap,n,rfl,rfl,hl,hc,hby,hel⟩
 ·exact⟨[],[],_,rfl,rfl,⟨none,0,rfl,aR _,aK _,fun _=>rfl,fun j u h=>by simp[vasC]at h⟩,fun i v k h=>by simp at h⟩
 ·obtain⟨l,ks,h1,h2,h3⟩:=zBd len (fun i (v:Va) (k:Value)=>(SB w w.heap.size k v.s/\fits v.n/\v.s.length<=M)/\∀r u,(vaC v k)[r]? =some u->a.block<w.heap.size/\w.cell? (a.add (i*3+r))=some u) (by
   intro i hi;obtain⟨cs',y,g1,gM,g2,g3⟩:=hel i hi;obtain⟨c0,c1,c2,rfl⟩:=zEh g1;obtain⟨ys,n',hn',hyx,_,hys,hfs⟩:=DataW.trod_struct underlying41 g2;rw[hyx]at gM;obtain⟨y0,e0⟩:=zA4 hys (i:=0) (by decide);obtain⟨y1,e1⟩:=zA4 hys (i:=1) (by decide);obtain⟨y2,e2⟩:=zA4 hys (i:=2) (by decide);have f0:=hfs 0 _ rfl;have f1:=hfs 1 _ rfl;have f2:=hfs 2 _ rfl;simp[xc2,xc39,zGh,e0,e1,e2]at f0 f1 f2;obtain⟨tt,rfl⟩:=zCx underlying39 f0;obtain⟨num,rfl,hn⟩:=zC8 f1;obtain⟨s,hs,hsM⟩:=zCd (zAu underlying41 gM (i:=2) rfl e2) f2;refine⟨⟨tt,num,s⟩,c2,⟨hs,hn,hsM⟩,fun r v hv=>?_⟩;have hr:r<3:=by have:=(vm.1 hv).1;simpa[vaC]using this
   obtain⟨q1,v',q2,q3⟩:=g3 r hr;have:v'=v:=Option.some.inj (q2.symm.trans hv);subst this
   exact⟨q1,q3⟩)
  subst h1;exact⟨l,ks,_,rfl,h2,zCy (f:=vaC) (m:=3) (by omega) (fun _ _=>rfl) hl hc l ks rfl h2 fun i x k hx hk r v hv=>(h3 i x k hx hk).2 r v hv,fun i v k hv hk=>(h3 i v k hv hk).1⟩
end
end
section
open Go.ChangeShapes Go.WideShapes Go.ChangeAt Go.RowKit
def zCb{H:Type}{enc:TypeId×Value->H}{hd:Bool}{M:Nat}{a:Option Addr}{len cap:Nat}{d:DataW H}{ps:List MemPlace}(hM:∀wt∈d.weights prog 32,wt<=M)(h:DataW.Trod enc prog w 0 (fun _=>true) hd 32 (.slice a len cap) d ps):∃vs,RawA w (.slice a len cap) vs:=by
 obtain⟨fuel,hf⟩:=h;obtain⟨vs,ks,V,e,k1,k2,k3⟩:=zCo (x:=(d,ps)) hM hf;have e:V=.slice a len cap:=by
  simp[Value.cells]at e;exact e.symm
 subst e;exact⟨vs,ks,k1,k2,fun i v k a b=>⟨(k3 i v k a b).1,(k3 i v k a b).2.1⟩⟩
end
section
open Go Go.ChangeShapes Go.WideShapes
def zF6:(Rows.evalBackRow.inPlace==prog.inPlace 5)=true:=by kernel_rfl
def zFy:(Rows.evalBackRow.unfollowed==prog.unfollowed 5)=true:=by kernel_rfl
def zF3:(Rows.evalBackRow.recurses==prog.recurses 5)=true:=by kernel_rfl
def zAb:(Rows.evalBackRow.named==prog.varsNamed 5)=true:=by kernel_rfl
def zAl:laidOutB prog=true:=by kernel_rfl
def zAd:mapsRowed prog=true:=by kernel_rfl
def zAf:joinedFacts prog 5 Tryz.f5 Rows.evalBackSpec Rows.evalBackRow=true:=by
 unfold joinedFacts;rw[zF6,zFy,zF3,zAb,zAl,zAd]
 kernel_rfl
def zA0:OpenClaim.wfByText (OpenSpec.ofChange Rows.evalBackSpec) Rows.evalBackRow=true:=by kernel_rfl
def zA7:prog.funcNamed "covenant/covenantlaw10.EvalBack" =some 5:=by kernel_rfl
def zAe:([22,9,32,33,2].all fun u=>!prog.wantsStandIn u)=true:=by kernel_rfl
def zAm:false=Rows.evalBackRow.goesBy Tryz.pinned.checked.prog:=by kernel_rfl
end
section
open Go
def zdw:Tryz.pinned.checked.prog.mainIs=some (true,"20a4b8f10f3facb4eddfb4da623dd329809a1f4fa6d99b0aa5301608ddedb87d".toList):=by kernel_rfl
def zbs:true=Tryz.pinned.checked.prog.looks []:=by kernel_rfl
end
end Go.Proofs.YtcilgkdnjgmogaaGreatDoor
