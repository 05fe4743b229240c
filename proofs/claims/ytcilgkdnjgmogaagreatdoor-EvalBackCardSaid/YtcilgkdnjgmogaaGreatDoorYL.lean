/- A part of the proof. -/
import Derived.Test.YtcilgkdnjgmogaaGreatDoorYK
import Derived.Lib.SliceRun
import Derived.WalkKit
import Derived.WalkSpells
import Derived.WalkLawsBesides
import Derived.Lib.Hide
import Derived.Outline
import Derived.Laws.BytesArg
import Derived.Deep.MidRow
import Derived.Deep.RegionHeld3
import Derived.Deep.QuietTactic
import Derived.BigQuiet
namespace Go.Proofs.YtcilgkdnjgmogaaGreatDoor
open Go.Proofs.Tryz
set_option maxRecDepth 100000
set_option maxHeartbeats 12800000
set_option linter.all false
variable {A:Option Addr} {B c g i k m n n0:Nat} {e:TypeId} {us vs xs:List Value} {w w' w1 w2 wr:World}
section
section
open Go.RowKit
inductive PsO(w:World)(lo:Nat):List PR->List Value->Prop
 | nil:PsO w lo [] []
 | cons {p:PR} {l:List PR} {u v:Value} {vs:List Value} (h1:w.ownsRow lo 5 1 u p.1.length (zA p.1)) (b1:Byt p.1) (h2:w.ownsRow lo 5 1 v p.2.length (zA p.2)) (b2:Byt p.2) (h3:PsO w lo l vs):PsO w lo (p::l) (u::v::vs)
def PsO.mono{lo:Nat}(hm:∀u l,w.ownsRow lo 5 1 u l.length (zA l)->w'.ownsRow lo 5 1 u l.length (zA l)){l:List PR}{vs:List Value}(h:PsO w lo l vs):PsO w' lo l vs:=by
 induction h with
 | nil=>exact .nil
 | cons h1 b1 h2 b2 _ ih=>exact .cons (hm _ _ h1) b1 (hm _ _ h2) b2 ih
def PsO.append{lo:Nat}{l m:List PR}(h:PsO w lo l vs)(h':PsO w lo m us):PsO w lo (l++m) (vs++us):=by
 induction h with
 | nil=>exact h'
 | cons h1 b1 h2 b2 _ ih=>exact .cons h1 b1 h2 b2 ih
def zl0{base:Nat}{V:Value}{v:List Int}(h:w.ownsRow base 5 1 V v.length (zA v))(hb:Byt v):SBD w (Fr base w.heap.size) V v:=by
 obtain⟨A,c,e,h1,h2,h3⟩:=zd7 h;exact⟨A,c,e,h1,h2,h3,hb⟩
def PsO.pscd{lo:Nat}{l:List PR}(h:PsO w lo l vs):PsCD w (Fr lo w.heap.size) l vs:=by
 induction h with
 | nil=>exact .nil
 | cons h1 b1 h2 b2 _ ih=>exact .cons (zl0 h1 b1) (zl0 h2 b2) ih
def zib{base:Nat}{s:Nat}(h:w.ownsRow base e s (.slice A n c) n xs):za9 w (Fr base w.heap.size) A c xs:=by
 rcases h.2 with⟨h1,h2⟩|⟨g,cap,cur,h1,hb,hg,hn,hm,hs,ht⟩
 ·injection h1 with h1 _ h1'
  subst h1 h1' h2;have:xs=[]:=List.eq_nil_of_length_eq_zero (by simpa using h.1);subst this;exact⟨fun _=>rfl,fun j u h=>by simp at h⟩
 ·injection h1 with h1 _ h1'
  subst h1 h1';exact⟨(fun e=>by cases e),fun j u hu=>⟨_,rfl,h.lt g rfl,h.cells rfl j u hu⟩⟩
def NewO(w:World)(ls:List PR)(e:Ending)(w':World):Prop:=
 ∃A' c' vs,e=.returned (.slice A' ls.length c')/\ls.length<=c'/\c'<=maxLen/\w'.ownsRow w.heap.size 119 2 (.slice A' ls.length c') ls.length vs/\PsO w' w.heap.size ls vs/\Below w.heap.size w w'
def NewO.f{ls:List PR}{e:Ending}(h:NewO w ls e w'):NewF w ls e w':=by
 obtain⟨A',c',vs,h1,h2,h3,h4,h5,h6⟩:=h;exact⟨A',c',h1,h2,h3,⟨vs,zib h4,h5.pscd⟩,zgu h4,h6⟩
def MkA(w:World)(ls:List PR)(k:Nat)(m:Value)(wr:World):Prop:=
 ∃vs,wr.ownsRow w.heap.size 119 2 m k vs/\PsO wr w.heap.size (ls.take k) vs/\Below w.heap.size w wr
def MkA.bl{ls:List PR}{m:Value}(h:MkA w ls k m wr):Below w.heap.size w wr:=h.choose_spec.2.2
def MkA.own{ls:List PR}{m:Value}(h:MkA w ls k m wr):wr.ownsRow w.heap.size 119 2 m k h.choose:=h.choose_spec.1
def MkA.on{ls:List PR}{m:Value}(h:MkA w ls k m wr)(hb:Below wr.heap.size wr w2):MkA w ls k m w2:=by
 obtain⟨vs,ho,h1,h2⟩:=h;exact⟨vs,xB ho hb,h1.mono fun u l h=>xB h hb,h2.trans (hb.mono h2.size)⟩
def zh0(w:World)(x y:Value):∀j u,[x,y][j]? =some u->(w.alloc (.cells #[x,y] 119)).cell? ((⟨w.heap.size,0,none⟩:Addr).add j)=some u:=fun j u hu=>by
 rw[Addr.add_mid,Nat.zero_add,wy _ _ _ _ _ _ (ye w _)];simpa using hu
def wC{base base':Nat}{u m:Value}(h:w.ownsRow base 5 1 u n xs)(ho:w.ownsRow base' 119 2 m k vs)(hg:w.grownBy w' m.ownBlock):w'.ownsRow base 5 1 u n xs:=by
 refine⟨h.1,?_⟩;rcases h.2 with h'|⟨g,cap,cur,h1,h2,h3,h4⟩
 ·exact .inl h'
 ·refine .inr ⟨g,cap,cur,h1,h2,?_,h4⟩;rw[hg.block g (aU.1 h3).1 fun e=>?_]
  ·exact h3
  ·rcases ho.2 with⟨rfl,_⟩|⟨g',cap',cur',rfl,k2,k3,_⟩
   ·cases e
   ·injection e with e
    exact jV h3 k3 (by decide) e
def MkA.step{w w6 w7:World}{ls:List PR}{m v7:Value}{p:PR}{u v:Value}(hg:ls[k]? =some p)(ho:w6.ownsRow w.heap.size 119 2 m k vs)(hp:PsO w6 w.heap.size (ls.take k) vs)(hb:Below w.heap.size w w6)
  (h1:w6.ownsRow w.heap.size 5 1 u p.1.length (zA p.1)) (h2:w6.ownsRow w.heap.size 5 1 v p.2.length (zA p.2)) (b1:Byt p.1) (b2:Byt p.2) (ho7:w7.ownsRow w.heap.size 119 2 v7 (k+1) (vs++[u,v])) (hg7:w6.grownBy w7 m.ownBlock):MkA w ls (k+1) v7 w7:=by
 refine⟨_,ho7,?_,hb.grown hg7 hb.size fun k hk=>(ho.lt k hk).1⟩;rw[kj hg];exact(hp.mono fun u l h=>wC h ho hg7).append (.cons (wC h1 ho hg7) b1 (wC h2 ho hg7) b2 .nil)
def znu(A:Option Addr)(ls:List PR)(c:Nat)(w:World)(hp:Prs w w.heap.size A c ls)(hs:Sml ls):Calls prog 41 #[.slice A ls.length c] w (NewO w ls):=by
 have HP:=aQ hp;have HS:=aQ hs;have hn:=hs.1;clear hp hs;obtain⟨i0,hi,hz0,hz1,hz2⟩:=info_parts zkh;go_enter func41,ntmps41
 go_wp2_with(at_make;refine wpList_make_own _ rfl _ _ 33 rfl w.heap.size 119 i0 (.agg #[nilS,nilS]) 2 underlying33 hi hz0 hz1 _ _ _ ls.length rfl rfl rfl (by rw[hz2];omega) (by unfold maxLen;omega) (aR _) ?_;intro w1 ho1 hg1)
 have hst:Hid (MkA w ls 0 (.slice (some ⟨w.heap.size,0,none⟩) 0 ls.length) w1):=⟨[],ho1,by simp;exact .nil,(Below.refl _ _).grown hg1 (aR _) (fun k hk=>by cases hk)⟩;clear ho1 hg1;go_wp2
 go_loopw [3,5,11] (fun m _ i wr=>∃k:Nat,k<=ls.length/\i=.int .i64 k/\Hid (MkA w ls k m wr)) (fun _ _ i _=>ls.length-(intOf i).toNat)
 case atStart=>exact⟨0,aK _,rfl,hst⟩
 case round=>
  clear hst;obtain⟨k,hk,rfl,HMk⟩:=hrel;by_cases hlt:k<ls.length
  ·have hg:ls[k]? =some ls[k]:=vp hlt;generalize ls[k]=p at hg;have hP:=HP.out.on HMk.out.bl;obtain⟨b,o,Au,cu,Av,cv,rfl,c1,c2,s1,s2,q1,q2,q3,q4⟩:=hP.at hg;have hsm:=HS.out.2 p (wM hg);have HC:=aQ (zem c1 c2);have hbx:=za wr (.cells #[.slice Au p.1.length cu,.slice Av p.2.length cv] 119);have HY:Hid (Byt p.1/\Byt p.2):=⟨s1.byt,s2.byt⟩
   have HBX:Hid (∀w',Below (wr.alloc (.cells #[.slice Au p.1.length cu,.slice Av p.2.length cv] 119)).heap.size (wr.alloc (.cells #[.slice Au p.1.length cu,.slice Av p.2.length cv] 119)) w'->w'.cell? ⟨wr.heap.size,0,none⟩=some (.slice Au p.1.length cu)/\w'.cell? ⟨wr.heap.size,1,none⟩=some (.slice Av p.2.length cv)):=fun w' hb=>
    ⟨by rw[hb.cell (by simp),wy _ _ _ _ _ _ (ye wr _)];rfl,by rw[hb.cell (by simp),wy _ _ _ _ _ _ (ye wr _)];rfl⟩
   have HKc:Hid (∀w',Below (wr.alloc (.cells #[.slice Au p.1.length cu,.slice Av p.2.length cv] 119)).heap.size (wr.alloc (.cells #[.slice Au p.1.length cu,.slice Av p.2.length cv] 119)) w'->Calls prog 48 #[.slice Au p.1.length cu] w' (jG w' p.1)/\Calls prog 48 #[.slice Av p.2.length cv] w' (jG w' p.2)):=fun w' hb=>by
    obtain⟨_,_,e1,_,_,g1,_⟩:=(s1.on hbx).on hb;obtain⟨_,_,e2,_,_,g2,_⟩:=(s2.on hbx).on hb;injection e1 with e1 _ e1'
    injection e2 with e2 _ e2'
    subst e1 e1' e2 e2';exact⟨zbq _ p.1 _ w' g1 (by omega),zbq _ p.2 _ w' g2 (by omega)⟩
   have HMk0:=HMk;have HMk:Hid (MkA w ls k u3 (wr.alloc (.cells #[.slice Au p.1.length cu,.slice Av p.2.length cv] 119))):=HMk.out.on hbx;have HG:=aQ hg;have HW:Hid (w.heap.size<=wr.heap.size):=HMk0.out.bl.size;clear c1 c2 s1 s2 hbx hP
   go_wp2_with(first|(refine wpList_load_mid rfl 119 (.tmp 13) rfl b (o+k*2) rfl [.slice Au p.1.length cu,.slice Av p.2.length cv] _ HC.out underlying119 rfl kC ?_;refine Hid.out ?_)|fail)
   refine aQ ?_
   (go_wp2_with fail);have HWx:Hid (w.heap.size<=(wr.alloc (.cells #[.slice Au p.1.length cu,.slice Av p.2.length cv] 119)).heap.size):=by
    have:=HW.out;show _<=_;rw[aE];omega
   generalize wr.alloc (.cells #[.slice Au p.1.length cu,.slice Av p.2.length cv] 119)=wx at *
   refine wp_region_held_drew (S:=fun w'=>w'.cell? ⟨wr.heap.size,0,none⟩=some (.slice Au p.1.length cu)/\w'.cell? ⟨wr.heap.size,1,none⟩=some (.slice Av p.2.length cv)) (by kernel_rfl) (HBX.out _ (Below.refl _ _).drew) (fun hHeld=>?_);refine aP 0 ?_
   try simp only[Act.put,zzs]
   refine aP 1 ?_
   try simp only[Act.put,zzs]
   refine aP 2 ?_
   try simp only[Act.put,zzs]
   refine aP 4 ?_
   try simp only[Act.put,zzs]
   refine aP 5 ?_
   try simp only[Act.put,zzs]
   refine aa 3 rfl fun K hK=>?_;go_simp
   (with_reducible refine(HKc.out _ (Below.refl _ _).drew).1.mono ?_)
   rintro e w4⟨V4,rfl,n1,hb4⟩;obtain⟨A4,c4,rfl,n2,n3,n4⟩:=xG n1;replace hb4:Below wx.heap.size wx w4:=(Below.refl _ _).drew.trans hb4;have HA4:Hid (w4.ownsRow w.heap.size 5 1 (.slice A4 p.1.length c4) p.1.length (zA p.1)/\Below wx.heap.size wx w4):=⟨vz n1 HWx.out,hb4⟩;clear n1 n2 n3 n4
   (go_wp2_with fail);refine hK.out _ _ (HBX.out _ hb4) (fun hHeld=>?_);clear hK K hb4;refine aa 6 rfl fun K hK=>?_
   go_simp
   (with_reducible refine(HKc.out _ HA4.out.2).2.mono ?_)
   rintro e w5⟨V5,rfl,n1,hb5⟩;obtain⟨A5,c5,rfl,n2,n3,n4⟩:=xG n1;have HA5:Hid (w5.ownsRow w.heap.size 5 1 (.slice A4 p.1.length c4) p.1.length (zA p.1)/\w5.ownsRow w.heap.size 5 1 (.slice A5 p.2.length c5) p.2.length (zA p.2)/\Below wx.heap.size wx w5):=⟨xB HA4.out.1 hb5,vz n1 (aT HWx.out HA4.out.2.size),HA4.out.2.trans (hb5.mono HA4.out.2.size)⟩;clear n1 n2 n3 n4 hb5
   (go_wp2_with fail);refine hK.out _ _ (HBX.out _ HA5.out.2.2) (fun hHeld=>?_);clear hK K;refine aP 7 ?_
   try simp only[Act.put,zzs]
   refine aa 8 rfl fun K hK=>?_;go_simp;have HN:=aQ (zh0 w5 (.slice A4 p.1.length c4) (.slice A5 p.2.length c5));have HA6:Hid ((w5.alloc (.cells #[.slice A4 p.1.length c4,.slice A5 p.2.length c5] 119)).ownsRow w.heap.size 5 1 (.slice A4 p.1.length c4) p.1.length (zA p.1)/\(w5.alloc (.cells #[.slice A4 p.1.length c4,.slice A5 p.2.length c5] 119)).ownsRow w.heap.size 5 1 (.slice A5 p.2.length c5) p.2.length (zA p.2)/\Below wx.heap.size wx (w5.alloc (.cells #[.slice A4 p.1.length c4,.slice A5 p.2.length c5] 119))):=⟨xB HA5.out.1 (za w5 _),xB HA5.out.2.1 (za w5 _),HA5.out.2.2.trans ((za w5 _).mono HA5.out.2.2.size)⟩;refine hK.out _ _ (HBX.out _ HA6.out.2.2) (fun hHeld=>?_);clear hK K
   generalize w5.alloc (.cells #[.slice A4 p.1.length c4,.slice A5 p.2.length c5] 119)=w6 at *
   refine aa 9 rfl fun K hK=>?_;rw[if_pos (by rfl)];have HM6:=HMk.out.on HA6.out.2.2;obtain⟨vs,ho6,hp6,hb6⟩:=HM6;refine wp_append_own w6 (.tmp 15) (.tmp 23) 33 rfl w.heap.size 119 i0 _ 2 48 underlying33 hi hz0 hz1 hz2 rfl (by omega) _ k vs rfl ho6 ⟨w5.heap.size,0,none⟩ 1 1 [.slice A4 p.1.length c4,.slice A5 p.2.length c5] rfl rfl HN.out (by simp[Value.oneCell']) (by unfold maxLen;omega) (by omega) hb6.size ?_;intro v7 w7 ho7 hg7 _;have HM7:Hid (MkA w ls (k+1) v7 w7/\Below w.heap.size w w7):=⟨MkA.step hg ho6 hp6 hb6 HA6.out.1 HA6.out.2.1 HY.out.1 HY.out.2 ho7 hg7,hb6.grown hg7 hb6.size fun k hk=>(ho6.lt k hk).1⟩;have hS7:w7.cell? ⟨wr.heap.size,0,none⟩=some (.slice Au p.1.length cu)/\w7.cell? ⟨wr.heap.size,1,none⟩=some (.slice Av p.2.length cv):=by
    have hne:some wr.heap.size≠u3.ownBlock:=fun e=>by have:=(HMk0.out.own.lt _ e.symm).2;omega
    exact⟨hg7.cell (HBX.out _ HA6.out.2.2).1 hne,hg7.cell (HBX.out _ HA6.out.2.2).2 hne⟩
   refine hK.out _ _ hS7 (fun hHeld=>?_);clear hK K ho6 hp6 hb6 ho7 hg7 hS7;refine aP 10 ?_
   try simp only[Act.put,zzs]
   refine aJ (by kernel_rfl) ?_ _;clear HBX HKc HC HY;go_wp2
   go_roundw
   case rel=>exact⟨k+1,by omega,by go_num,HM7.out.1⟩
   case measure=>simp[intOf];omega
  ·obtain rfl:k=ls.length:=by omega
   obtain⟨vs,ho,hp,hb⟩:=HMk.out;obtain⟨A',c',rfl,e2,e3,e4⟩:=zxq ho;rw[List.take_length]at hp;have HF:Hid (ls.length<=c'/\c'<=maxLen/\wr.ownsRow w.heap.size 119 2 (.slice A' ls.length c') ls.length vs/\PsO wr w.heap.size ls vs/\Below w.heap.size w wr):=⟨e2,e3,ho,hp,hb⟩;clear ho hp hb e2 e3 e4 HMk;go_wp2;go_ret;exact⟨A',c',vs,rfl,HF.out⟩
def NewJ(w:World)(ls:List PR)(e:Ending)(w':World):Prop:=
 ∃J A' c',e=.returned (.pointer (some ⟨J,0,none⟩))/\w.heap.size<=J/\w'.heap[J]? =some (.cells #[.slice A' ls.length c',.slice none 0 0] 92 (0,0))/\ls.length<=c'/\c'<=maxLen/\PrsD w' (Fr w.heap.size w'.heap.size) A' c' ls/\vW w' A'/\Below w.heap.size w w'
def newC(A:Option Addr)(ls:List PR)(c:Nat)(w:World)(hp:Prs w w.heap.size A c ls)(hc:ls.length<=c)(hm:c<=maxLen)(hl:ls.length<=2932031007402)(hr:qJ ls):Calls prog 17 #[.slice A ls.length c] w (NewJ w ls):=by
 have K1:=aQ (zuj A ls c w hp hc hm hl);rw[decide_eq_true hr]at K1;have HP:=aQ hp;have HS:=aQ (jo hr).1;clear hp hr hl;unfold maxLen at hm;go_enter func17,ntmps17
 go_wp2_with fail
 (with_reducible refine K1.out.mono ?_)
 rintro e w1⟨rfl,hb1⟩;have K2:=aQ (znu A ls c w1 (HP.out.on hb1) HS.out);have HB:=aQ hb1;clear hb1
 go_wp2_with fail
 (with_reducible refine K2.out.mono ?_)
 rintro e w2 h;obtain⟨A',c',rfl,g1,g2,g3,g4,g5⟩:=h.f;have hb:=za w2 (.cells #[.slice A' ls.length c',.slice none 0 0] 92)
 have HF:Hid (w.heap.size<=w2.heap.size/\(w2.alloc (.cells #[.slice A' ls.length c',.slice none 0 0] 92)).heap[w2.heap.size]? =some (.cells #[.slice A' ls.length c',.slice none 0 0] 92 (0,0))/\ls.length<=c'/\c'<=maxLen/\PrsD (w2.alloc (.cells #[.slice A' ls.length c',.slice none 0 0] 92)) (Fr w.heap.size (w2.alloc (.cells #[.slice A' ls.length c',.slice none 0 0] 92)).heap.size) A' c' ls/\vW (w2.alloc (.cells #[.slice A' ls.length c',.slice none 0 0] 92)) A'/\Below w.heap.size w (w2.alloc (.cells #[.slice A' ls.length c',.slice none 0 0] 92))):=
  ⟨aT HB.out.size g5.size,ye w2 _,g1,g2,(g3.fr hb).lo HB.out.size,g4.on hb,(HB.out.trans (g5.mono HB.out.size)).trans (hb.mono (aT HB.out.size g5.size))⟩
 clear g1 g2 g3 g4 g5 h hb;go_wp2;go_ret;exact⟨_,A',c',rfl,HF.out⟩
def zC7(A:Option Addr)(ls:List PR)(c:Nat)(w:World)(hp:Prs w w.heap.size A c ls)(hc:ls.length<=c)(hm:c<=maxLen)(hl:ls.length<=2932031007402)(hr:¬qJ ls):Calls prog 17 #[.slice A ls.length c] w fun e w'=>e=.returned (.pointer none)/\Below w.heap.size w w':=by
 have K1:=aQ (zuj A ls c w hp hc hm hl);rw[decide_eq_false hr]at K1;clear hp hr hl;unfold maxLen at hm;go_enter func17,ntmps17
 go_wp2_with fail
 (with_reducible refine K1.out.mono ?_)
 rintro e w1⟨rfl,hb1⟩;have HB:=aQ hb1;clear hb1;go_wp2;go_ret;exact⟨rfl,HB.out⟩
def NewJ.jr{ls:List PR}{e:Ending}(h:NewJ w ls e w')(hr:qJ ls)(hn:n0<=w.heap.size):∃J,e=.returned (.pointer (some ⟨J,0,none⟩))/\w.heap.size<=J/\Jr n0 w' J [] ls/\Below w.heap.size w w':=by
 obtain⟨J,A',c',h1,h2,h3,h4,h5,h6,h7,h8⟩:=h;exact⟨J,h1,h2,⟨aT hn h2,by simp,by simpa using hr,A',c',none,0,[],[],h3,h4,h5,⟨h6.here,h7.off⟩,.nil _ _ _,rfl,by simp,by simp,fun i F a b hF=>by simp at hF⟩,h8⟩
def Jr.at{J:Nat}{hs:List (List PR)}{cur:List PR}(h:Jr n0 w J hs cur):∃A c R cr,w.cell? ⟨J,0,none⟩=some (.slice A cur.length c)/\w.cell? ⟨J,1,none⟩=some (.slice R hs.length cr)/\cur.length<=c/\c<=maxLen/\PrsX n0 w A c cur/\hs.length<=50000:=by
 obtain⟨A,c,R,cr,fs,Fs,h1,h2,h3,h4,_⟩:=h.ex;obtain⟨g0,g1,_⟩:=kO h1;exact⟨A,c,R,cr,g0,g1,h2,h3,h4,h.len⟩
def zpu(n0:Nat)(w:World)(J:Nat)(hs:List (List PR))(cur:List PR)(h:Jr n0 w J hs cur):Calls prog 27 #[.pointer (some ⟨J,0,none⟩)] w fun e w'=>e=.returned (.int .i64 hs.length)/\w=w':=by
 obtain⟨A,c,R,cr,g0,g1,g2,g3,g4,g5⟩:=h.at;clear h g4;go_enter func27,ntmps27;go_wp2;go_ret;exact⟨rfl,rfl⟩
def zvw(n0:Nat)(w:World)(J:Nat)(hs:List (List PR))(cur:List PR)(h:Jr n0 w J hs cur)(Ak:Option Addr)(key:List Int)(ck:Nat)(hk:SB w w.heap.size (.slice Ak key.length ck) key):Calls prog 292 #[.pointer (some ⟨J,0,none⟩),.slice Ak key.length ck] w (GotO w (getM cur key) (hasM cur key)):=by
 obtain⟨A,c,R,cr,g0,g1,g2,g3,g4,g5⟩:=h.at;have K:=aQ (getC A cur c Ak key ck w g4.1 g2 g3 hk (jo h.cur).1);clear h g4 hk;unfold maxLen at g3
 generalize getM cur key=gv at *
 generalize hasM cur key=hv at *
 go_enter func292,ntmps292
 go_wp2_with fail
 (with_reducible refine K.out.mono ?_)
 rintro e w1⟨V,rfl,h1⟩;have H:=aQ h1;clear h1;go_wp2
 go_ret2
 exact⟨V,rfl,H.out⟩
def zyt(n0:Nat)(w:World)(J:Nat)(hs:List (List PR))(cur:List PR)(h:Jr n0 w J hs cur):Calls prog 23 #[.pointer (some ⟨J,0,none⟩)] w (NewO w cur):=by
 obtain⟨A,c,R,cr,g0,g1,g2,g3,g4,g5⟩:=h.at;have K:=aQ (znu A cur c w g4.1 (jo h.cur).1);clear h g4;unfold maxLen at g3;go_enter func23,ntmps23
 go_wp2_with fail
 (with_reducible refine K.out.mono ?_)
 rintro e w1⟨A',c',vs,rfl,h1⟩;have H:=aQ h1;clear h1;go_wp2;go_ret;exact⟨A',c',vs,rfl,H.out⟩
def Jr.jb{J:Nat}{hs:List (List PR)}{cur:List PR}(h:Jr n0 w J hs cur)(hb:Below w.heap.size w w')(b:Nat):Jb w' J b ↔ Jb w J b:=by
 unfold Jb;rw[hb.cell (p:=⟨J,1,none⟩) h.sp.lt]
def Chd.from{n0 J:Nat}{w w4 w':World}{hs hs':List (List PR)}{cur cur':List PR}(h:Chd n0 J w4 hs' cur' w')(hj:Jr n0 w J hs cur)(hb:Below w.heap.size w w4):Chd n0 J w hs' cur' w':=
 ⟨(Off.of hb).trans h.1,⟨fun b hlt hnb=>(h.2.1.1 b (aS hlt hb.size) fun h'=>hnb ((hj.jb hb b).1 h')).trans (hb.block b hlt),fun b hb'=>(h.2.1.2 b hb').imp (hj.jb hb b).1 (aT hb.size)⟩,h.2.2⟩
def PutJ(n0 J:Nat)(hs:List (List PR))(cur:List PR)(key val:List Int)(w:World)(e:Ending)(w':World):Prop:=
 e=.returned (.int .i64 (putE cur key val))/\(putE cur key val=0->Chd n0 J w (hs++[cur]) (putM cur key val) w')/\(putE cur key val≠0->Below w.heap.size w w')
def zl4{l:List PR}{k v:List Int}(h:putE l k v=0):k.length<=64/\v.length<=256/\putR l k v=putM l k v:=by
 refine⟨?_,?_,if_pos h⟩ <;>
 ·unfold putE at h
  split at h
  ·cases h
  ·omega
def zvt(n0:Nat)(w:World)(J:Nat)(hs:List (List PR))(cur:List PR)(h:Jr n0 w J hs cur)(hl:hs.length<50000)(Ak:Option Addr)(key:List Int)(ck:Nat)(Av:Option Addr)(val:List Int)(cv:Nat)
  (hk:SB w w.heap.size (.slice Ak key.length ck) key) (hv:SB w w.heap.size (.slice Av val.length cv) val) :
  Calls prog 194 #[.pointer (some ⟨J,0,none⟩),.slice Ak key.length ck,.slice Av val.length cv] w (PutJ n0 J hs cur key val w):=by
 obtain⟨A,c,R,cr,g0,g1,g2,g3,g4,g5⟩:=h.at;have hsm:=jo h.cur;have K1:=aQ (putC A cur c Ak key ck Av val cv w g4.1 g2 g3 hk hv hsm.1 (by have:=hsm.2;omega));have hJlt:=h.sp.lt;have HJ:=aQ h;have HK:=aQ hk;have HM:=aQ g3;have HP:=aQ g4;clear h g4 hk hv hsm g1;unfold maxLen at g3;unfold PutJ;by_cases hE:putE cur key val=0
 ·obtain⟨q1,q2,q3⟩:=zl4 hE;have HR:Hid (qJ (putM cur key val)):=zbv HJ.out.cur hE;have HU:Hid (hasM cur key=false->delM (putM cur key val) key=cur):=zmz HJ.out.cur;have HU2:Hid (hasM cur key=true->putR (putM cur key val) key (getM cur key)=cur):=zlz HJ.out.cur;have HG:Hid (hasM cur key=true->(getM cur key).length<=256):=fun h=>((HJ.out.cur.1 _ (zf5 h)).2);rw[hE]at K1⊢;rw[q3]at K1
  generalize putM cur key val=nxt at *
  generalize hgv:getM cur key=gv at *
  generalize hhv:hasM cur key=is at *
  have HV:Hid (getM cur key=gv/\hasM cur key=is):=⟨hgv,hhv⟩;clear hE q2 q3 hgv hhv;go_enter func194,ntmps194
  go_wp2_with fail
  (with_reducible refine K1.out.mono ?_)
  rintro e w1⟨A1,c1,rfl,k1,k2,k3,k4,k5⟩;have HN:Hid (nxt.length<=c1/\c1<=maxLen/\PrsX n0 w1 A1 c1 nxt):=⟨k1,k2,k3.here,k4.off⟩;have HB1:=aQ k5;have HK1:=aQ (HK.out.on k5);have K2:=aQ (zn1 n0 Ak key ck w1 HK1.out (by omega));clear k1 k2 k3 k4 k5 K1
  go_wp2_with fail
  (with_reducible refine K2.out.mono ?_)
  rintro e w2⟨fn,lb,rfl,ha,hb⟩;have HA:=aQ ha;have HB2:=aQ (HB1.out.trans (hb.mono HB1.out.size));have HN2:Hid (nxt.length<=c1/\c1<=maxLen/\PrsX n0 w2 A1 c1 nxt):=⟨HN.out.1,HN.out.2.1,HN.out.2.2.on hb⟩;have hg0:w2.cell? ⟨J,0,none⟩=some (.slice A cur.length c):=by rw[HB2.out.cell (p:=⟨J,0,none⟩) hJlt];exact g0
  have K3:=aQ (getC A cur c Ak key ck w2 (HP.out.1.on HB2.out) g2 HM.out (HK.out.on HB2.out) (jo HJ.out.cur).1);rw[HV.out.1,HV.out.2]at K3;clear ha hb K2 HN HK1
  go_wp2_with fail
  (with_reducible refine K3.out.mono ?_)
  rintro e w3⟨V,rfl,k1,k2,k3⟩;have HB3:=aQ (HB2.out.trans (k3.mono HB2.out.size));have HN3:Hid (nxt.length<=c1/\c1<=maxLen/\PrsX n0 w3 A1 c1 nxt):=⟨HN2.out.1,HN2.out.2.1,HN2.out.2.2.on k3⟩;have HA3:Hid (Acts n0 w3 (.func (.func fn) #[] lb) (fun a=>delM a key)):=HA.out.off (.of k3);obtain⟨Av',cv',rfl,hsv⟩:∃A c,V=.slice A gv.length c/\SB w3 w3.heap.size (.slice A gv.length c) gv:=by
   obtain⟨A,c,rfl,x⟩:=zd4 k1 k2;exact⟨A,c,rfl,A,c,rfl,x⟩
  have HSV:=aQ hsv;have HK3:=aQ (HK.out.on HB3.out);have HJ3:=aQ (HJ.out.on HB3.out);clear k1 k2 k3 K3 hsv HA HN2 hg0;cases is with
  | false=>
   have K4:=aQ (zc6 n0 w3 J hs cur nxt A1 c1 fn lb (fun a=>delM a key) HJ3.out HR.out HN3.out.1 HN3.out.2.1 HN3.out.2.2 HA3.out (znz key) (HU.out (by first|rfl|trivial)) hl)
   go_wp2_with fail
   (with_reducible refine K4.out.mono ?_)
   rintro e w4⟨rfl,hc⟩;have HC:=aQ (hc.from HJ.out HB3.out);clear hc;go_wp2;go_ret;exact⟨rfl,fun _=>HC.out,fun h=>absurd rfl h⟩
  | true=>
   have K4:=aQ (zhh n0 Ak key ck Av' gv cv' w3 HK3.out (by omega) HSV.out)
   go_wp2_with fail
   (with_reducible refine K4.out.mono ?_)
   rintro e w4⟨fn',lb',rfl,ha,hb⟩;have HB4:=aQ (HB3.out.trans (hb.mono HB3.out.size));have K5:=aQ (zc6 n0 w4 J hs cur nxt A1 c1 fn' lb' (fun a=>putR a key gv) (HJ3.out.on hb) HR.out HN3.out.1 HN3.out.2.1 (HN3.out.2.2.on hb) ha (zgr key gv) (HU2.out (by first|rfl|trivial)) hl);clear ha hb K4
   go_wp2_with fail
   (with_reducible refine K5.out.mono ?_)
   rintro e w5⟨rfl,hc⟩;have HC:=aQ (hc.from HJ.out HB4.out);clear hc;go_wp2;go_ret;exact⟨rfl,fun _=>HC.out,fun h=>absurd rfl h⟩
 ·have hb0:(putE cur key val==0)=false:=by simpa using hE
  have HEE:=aQ hE
  generalize putR cur key val=r at *
  generalize putE cur key val=E at *
  clear hE;go_enter func194,ntmps194
  go_wp2_with fail
  (with_reducible refine K1.out.mono ?_)
  rintro e w1⟨A1,c1,rfl,k1,k2,k3,k4,k5⟩;have HB1:=aQ k5;clear k1 k2 k3 k4 k5;go_wp2;go_ret;exact⟨rfl,fun h=>absurd h HEE.out,fun _=>HB1.out⟩
def zvz(n0:Nat)(w:World)(J:Nat)(hs:List (List PR))(cur:List PR)(h:Jr n0 w J hs cur)(hl:hs.length<50000)(Ak:Option Addr)(key:List Int)(ck:Nat)
  (hk:SB w w.heap.size (.slice Ak key.length ck) key) :
  Calls prog 195 #[.pointer (some ⟨J,0,none⟩),.slice Ak key.length ck] w fun e w'=>e=.returned (.tuple #[])/\Chd n0 J w (hs++[cur]) (delM cur key) w':=by
 obtain⟨A,c,R,cr,g0,g1,g2,g3,g4,g5⟩:=h.at;have hsm:=jo h.cur;have K1:=aQ (getC A cur c Ak key ck w g4.1 g2 g3 hk hsm.1);have hJlt:=h.sp.lt;have HJ:=aQ h;have HK:=aQ hk;have HM:=aQ g3;have HP:=aQ g4;have HR:Hid (qJ (delM cur key)):=zby h.cur key;have HU:Hid (hasM cur key=false->delM cur key=cur):=zmw;have HU2:Hid (hasM cur key=true->putR (delM cur key) key (getM cur key)=cur):=zng h.cur;have HKL:Hid (hasM cur key=true->key.length<=64):=fun h'=>((HJ.out.cur.1 _ (zf5 h')).1);have HD:Hid (∀w',Below w.heap.size w w'->Calls prog 238 #[.slice A cur.length c,.slice Ak key.length ck] w' (NewF w' (delM cur key))):=fun w' hb=>delC A cur c Ak key ck w' (HP.out.1.on hb) g2 g3 (HK.out.on hb) hsm.1;clear h g4 hk hsm g1;unfold maxLen at g3
 generalize delM cur key=nxt at *
 generalize getM cur key=gv at *
 generalize hasM cur key=is at *
 go_enter func195,ntmps195
 go_wp2_with fail
 (with_reducible refine K1.out.mono ?_)
 rintro e w2⟨V,rfl,k1,k2,k3⟩;have HB2:=aQ k3;obtain⟨Av',cv',rfl,hsv⟩:∃A c,V=.slice A gv.length c/\SB w2 w2.heap.size (.slice A gv.length c) gv:=by
  obtain⟨A,c,rfl,x⟩:=zd4 k1 k2;exact⟨A,c,rfl,A,c,rfl,x⟩
 have HSV:=aQ hsv;have hg0:w2.cell? ⟨J,0,none⟩=some (.slice A cur.length c):=by rw[HB2.out.cell (p:=⟨J,0,none⟩) hJlt];exact g0
 clear k1 k2 k3 K1 hsv;cases is with
 | false=>
  obtain rfl:nxt=cur:=HU.out (by first|rfl|trivial);have HB2d:Hid (Below w.heap.size w w2.drew):=HB2.out.drew;have hg1:w2.drew.cell? ⟨J,0,none⟩=some (.slice A nxt.length c):=hg0;have K4:=aQ (zc6 n0 w2.drew J hs nxt nxt A c 272 #[] (fun a=>a) (HJ.out.on HB2d.out) HR.out g2 HM.out (HP.out.on HB2d.out) (yl n0 _) zky rfl hl)
  (go_wp2_with fail);refine wp_region_held_drew (S:=fun w'=>True) (by kernel_rfl) trivial (fun hHeld=>?_);refine aO 0 ?_
  try simp only[Act.put,zzs]
  refine aO 1 ?_
  try simp only[Act.put,zzs]
  refine aO 2 ?_
  try simp only[Act.put,zzs]
  refine aO 3 ?_
  try simp only[Act.put,zzs]
  refine ab 4 5 rfl rfl (fun K hK=>?_) fun K hK=>?_
  ·skip
   go_simp;refine hK.out _ _ trivial (fun hHeld=>?_);clear hK K;refine aa 5 rfl fun K hK=>?_;go_simp
   (with_reducible refine(zph n0 _).mono ?_)
   rintro e w4⟨rfl,rfl⟩
   (go_wp2_with fail);refine hK.out _ _ trivial (fun hHeld=>?_);clear hK K;refine aa 6 rfl fun K hK=>?_
   go_simp
   (with_reducible refine K4.out.mono ?_)
   rintro e w5⟨rfl,hc⟩;have HC:=aQ (hc.from HJ.out HB2d.out);clear hc
   (go_wp2_with fail);refine hK.out _ _ trivial (fun hHeld=>?_);clear hK K;refine aJ (by kernel_rfl) ?_ _
   go_wp2;refine vS (results_none rfl _ _ _) rfl ?_;exact⟨rfl,HC.out⟩
  ·skip
   go_simp
   (with_reducible refine(zph n0 _).mono ?_)
   rintro e w4⟨rfl,rfl⟩
   (go_wp2_with fail);refine hK.out _ _ trivial (fun hHeld=>?_);clear hK K;refine aa 4 rfl fun K hK=>?_
   go_simp;refine hK.out _ _ trivial (fun hHeld=>?_);clear hK K;refine aa 6 rfl fun K hK=>?_;go_simp
   (with_reducible refine K4.out.mono ?_)
   rintro e w5⟨rfl,hc⟩;have HC:=aQ (hc.from HJ.out HB2d.out);clear hc
   (go_wp2_with fail);refine hK.out _ _ trivial (fun hHeld=>?_);clear hK K;refine aJ (by kernel_rfl) ?_ _
   go_wp2;refine vS (results_none rfl _ _ _) rfl ?_;exact⟨rfl,HC.out⟩
 | true=>
  have K2:=aQ (HD.out w2 HB2.out)
  go_wp2_with fail
  (with_reducible refine K2.out.mono ?_)
  rintro e w3⟨A1,c1,rfl,k1,k2,k3,k4,k5⟩;have HN:Hid (nxt.length<=c1/\c1<=maxLen/\PrsX n0 w3 A1 c1 nxt):=⟨k1,k2,k3.here,k4.off⟩;have HB3:=aQ (HB2.out.trans (k5.mono HB2.out.size));have K3:=aQ (zhh n0 Ak key ck Av' gv cv' w3 (HK.out.on HB3.out) (by have:=HKL.out (by first|rfl|trivial);omega) (HSV.out.on k5));clear k1 k2 k3 k4 k5 K2
  go_wp2_with fail
  (with_reducible refine K3.out.mono ?_)
  rintro e w4⟨fn',lb',rfl,ha,hb⟩;have HB4:=aQ (HB3.out.trans (hb.mono HB3.out.size));have K5:=aQ (zc6 n0 w4 J hs cur nxt A1 c1 fn' lb' (fun a=>putR a key gv) (HJ.out.on HB4.out) HR.out HN.out.1 HN.out.2.1 (HN.out.2.2.on hb) ha (zgr key gv) (HU2.out (by first|rfl|trivial)) hl);clear ha hb K3
  go_wp2_with fail
  (with_reducible refine K5.out.mono ?_)
  rintro e w5⟨rfl,hc⟩;have HC:=aQ (hc.from HJ.out HB4.out);clear hc;go_wp2
  go_end0
  exact⟨rfl,HC.out⟩
def zqb{base:Nat}{size:Nat}(h:w.ownsRow base e size (.slice A n c) n xs)(hi:i<=n):w.ownsRow base e size (.slice A i c) i (xs.take (i*size)):=by
 have hl:=h.1;have hle:i*size<=n*size:=Nat.mul_le_mul_right _ hi;refine⟨by rw[aI];omega,?_⟩;rcases h.2 with⟨h1,h2⟩|⟨g,cap,cur,h1,hb,hg,hn,hm,hs,ht⟩
 ·injection h1 with e1 e2 e3
  subst e1 e3;obtain rfl:i=0:=by omega
  exact .inl ⟨rfl,rfl⟩
 ·injection h1 with e1 e2 e3
  subst e1 e3;refine .inr ⟨g,_,cur,rfl,hb,hg,by omega,hm,hs,?_⟩;rw[<- ht,List.take_take,Nat.min_eq_left hle]
def vw{T:TypeId}:∀(vs:List Value) (o:Nat) (w:World) (cur:Array Value),w.heap[g]? =some (.cells cur T (0,0)) ->
  ∃cur',(w.setCells g o vs).heap[g]? =some (.cells cur' T (0,0))/\cur'.size=cur.size/\(∀j,j<o->cur'[j]? =cur[j]?)/\(NoI cur->(∀v∈vs,∀(_:Unit) y,v≠Value.int .u8 y)->NoI cur')
 | [],o,w,cur,h=>⟨cur,h,rfl,fun _ _=>rfl,fun h _=>h⟩
 | v::vs,o,w,cur,h=>by
  obtain⟨cur',h1,h2,h3,h4⟩:=vw vs (o+1) (w.setCell ⟨g,o,none⟩ v) (cur.setIfInBounds o v) (heap_setCell_same w g o cur T v h);refine⟨cur',h1,by rw[h2];simp,fun j hj=>?_,fun hn hv=>h4 (fun x hx q y=>?_) fun u hu=>hv u (List.mem_cons_of_mem _ hu)⟩
  ·rw[h3 j (by omega),Array.getElem?_setIfInBounds_ne (by omega)]
  ·rcases Array.mem_or_eq_of_mem_setIfInBounds hx with e|e
   ·exact hn x e q y
   ·subst e;exact hv _ (List.mem_cons_self ..) q y
def Rws.cut{T:TypeId}(h:Rws n0 w T (.slice A n c) n xs)(hm:m<=n):Rws n0 w T (.slice A m c) m (xs.take m):=
 ⟨by have:=zqb h.1 hm;rwa [Nat.mul_one]at this,fun g hg=>h.2 g (by cases A<;>exact hg)⟩
def Rws.cleared{T:TypeId}(h:Rws n0 w T (.slice (some ⟨g,0,none⟩) n c) n xs)(hm:m<=n)(vs:List Value)(hv:∀v∈vs,∀(_:Unit) y,v≠Value.int .u8 y):Rws n0 (w.setCells g m vs) T (.slice (some ⟨g,0,none⟩) m c) m (xs.take m):=by
 have hc:=h.cut hm;rcases hc.1.2 with⟨h',_⟩|⟨g',cap,cur,h1,h2,h3,h4,h5,h6,h7⟩
 ·cases h'
 ·injection h1 with h1 _ h1'
  injection h1 with h1
  injection h1 with h1 _
  subst h1 h1';obtain⟨cur',k1,k2,k3,k4⟩:=vw vs m w cur h3;refine⟨⟨hc.1.1,.inr ⟨g,c,cur',rfl,h2,k1,h4,h5,by omega,?_⟩⟩,fun g' hg' cs T' z h'=>?_⟩
  ·rw[<- h7,Nat.mul_one];refine List.ext_getElem? fun j=>?_;rw[List.getElem?_take,List.getElem?_take]
   split
   ·rw[Array.getElem?_toList,Array.getElem?_toList];exact k3 j (by assumption)
   ·rfl
  ·obtain rfl:g=g':=by injection hg'
   rw[k1]at h';injection h' with h'
   injection h' with h' _ _
   subst h';exact k4 (h.2 g rfl _ _ _ h3) hv
def zaz(g o:Nat)(vs:List Value)(w:World):w.grownBy (w.setCells g o vs) (some g):=by
 obtain⟨h1,h2,h3⟩:=xl g o vs w;exact⟨h1.os,h1.tape,h1.output,h1.size,fun k _ hk=>h2 k fun e=>hk (by rw[e])⟩
def Deld(n0:Nat)(R:Option Addr)(m cr:Nat)(fs:List Value)(w:World)(e:Ending)(w':World):Prop:=
 e=.returned (.slice R m cr)/\Rws n0 w' 154 (.slice R m cr) m (fs.take m)/\Off n0 w w'/\w.grownBy w' (Value.slice R m cr).ownBlock
def jR{o:Oper}{a:Act}{K:Act->World->Prop}{Q:Exit->Act->World->Prop}(s x:Operand)(ho:o.op=.call { callee:=.builtin .append,args:=#[s,x],argTypes:=#[90,90] })(i:TypeInfo)(hi:prog.info? 154=some i)
  {A M:Option Addr} {n cap cm:Nat} (hs:a.eval s=.slice A n cap) (hx:a.eval x=.slice M 0 cm) (hn:n<=cap) (hA:A=none->n=0) (hK:K (a.put o.dst (.slice A n cap)) w):o.wp prog a w K Q:=by
 have hr:=jz (P:=prog) w 90 o.type 154 i underlying90 hi A M n cap cm hn hA;unfold Oper.wp execOp;simp only[ho,resolve,invoke,builtin,Sem.run_bind,Sem.run_pure,Result.andThen_ok,List.map_toArray,List.map_cons,List.map_nil,hs,hx,hr];exact hK
def zt1(w:World):(zeroValue 154).run prog w=.ok Value.nilFunc w:=by kernel_rfl
def zlw(n0:Nat)(w:World)(R:Option Addr)(n m cr:Nat)(fs:List Value)(h:Rws n0 w 154 (.slice R n cr) n fs)(hm:m<=n)(hn:n<=50000):Calls prog 81 #[.slice R n cr,.int .i64 m,.int .i64 n] w (Deld n0 R m cr fs w):=by
 obtain⟨A',c',e,q1,q2,q3⟩:=xG h.1;injection e with e _ e'
 subst e e';obtain⟨i0,hi,hz0,hz1,hz2⟩:=info_parts zo4;unfold Deld;have HH:=aQ h;unfold maxLen at q2;by_cases hmn:m=n
 ·subst hmn;have hfl:fs.length=m:=by have:=h.1.1;omega
  have HF:Hid (Rws n0 w 154 (.slice R m cr) m (fs.take m)):=by rw[<- hfl,List.take_length,hfl];exact h
  clear h q3;go_enter func81,ntmps81;go_wp2;go_ret;exact⟨rfl,HF.out,.refl _ _,⟨rfl,rfl,rfl,aR _,fun _ _ _=>rfl⟩⟩
 ·have hlt:m<n:=by omega
  cases R with
  | none=>
   have:=q3.none_nil.2;omega
  | some ad=>
   obtain⟨g,rfl⟩:∃g,ad=⟨g,0,none⟩:=by
    rcases h.1.2 with⟨h',_⟩|⟨g,cap,cur,h',_⟩
    ·cases h'
    ·injection h' with h' _ _
     injection h' with h'
     exact⟨g,h'⟩
   have hb:((m:Int)==(n:Int))=false:=by simp;omega
   clear h q3;go_enter func81,ntmps81;go_wp2;have HF:Hid (Rws n0 (w.drew.setCells g m (List.replicate (n-m) Value.nilFunc)) 154 (.slice (some ⟨g,0,none⟩) m cr) m (fs.take m)/\Off n0 w (w.drew.setCells g m (List.replicate (n-m) Value.nilFunc))/\w.grownBy (w.drew.setCells g m (List.replicate (n-m) Value.nilFunc)) (some g)):=by
    have hd:Rws n0 w.drew 154 (.slice (some ⟨g,0,none⟩) n cr) n fs:=HH.out.on ((Below.refl _ _).drew);have hc:=hd.cleared hm (List.replicate (n-m) Value.nilFunc) (fun v hv q y=>by rw[List.eq_of_mem_replicate hv];simp);have hg:=zaz g m (List.replicate (n-m) Value.nilFunc) w.drew;have ho:Off n0 w.drew _:=.grown hg (hd.spb (.inr (.inr (.inl rfl))) rfl) (hc.spb (.inr (.inr (.inl rfl))) rfl);exact⟨hc,(Off.of (Below.refl _ _).drew).trans ho,⟨hg.os,hg.tape,hg.output,hg.size,hg.block⟩⟩
   have hcl:∀ty,(Builtin.clear_ #[90] ty #[.slice (some ⟨g,m,none⟩) (n-m) (cr-m)]).run prog w.drew=.ok (.tuple #[]) (w.drew.setCells g m (List.replicate (n-m) Value.nilFunc)):=fun ty=>by
    have hd:Rws n0 w.drew 154 (.slice (some ⟨g,0,none⟩) n cr) n fs:=HH.out.on ((Below.refl _ _).drew);refine Lib.run_clear_slice w.drew 90 154 ty Value.nilFunc underlying90 zt1 rfl rfl g m (n-m) (cr-m) (by omega) (fun j hj=>?_) fun j hj=>hd.1.frozenAt _;have:=hd.1.1;rw[hd.1.cellAt (m+j) (by omega),vp (by omega)];rfl
   by_cases hcr:cr=n
   ·subst hcr;refine wp_region_held_drew (S:=fun w'=>True) (by kernel_rfl) trivial (fun hHeld=>?_);refine aO 0 ?_
    try simp only[Act.put,zzs]
    refine aO 1 ?_
    try simp only[Act.put,zzs]
    refine aO 2 ?_
    try simp only[Act.put,zzs]
    refine aO 3 ?_
    try simp only[Act.put,zzs]
    refine aO 4 ?_
    try simp only[Act.put,zzs]
    refine aO 5 ?_
    try simp only[Act.put,zzs]
    refine aa 6 rfl fun K hK=>?_;rw[if_pos (by rfl)];refine jR (.tmp 22) (.tmp 25) rfl i0 hi (A:=some ⟨g,0,none⟩) (M:=some ⟨g,0,none⟩) (n:=m) (cap:=cr) (cm:=0) rfl (by first|rfl|simp) (by omega) (fun e=>by cases e) ?_;refine hK.out _ _ trivial (fun hHeld=>?_);clear hK K;refine aO 7 ?_
    try simp only[Act.put,zzs]
    refine aJ (by kernel_rfl) ?_ _
    go_wp2_with(simp only[hcl])
    go_ret;exact⟨rfl,HF.out⟩
   ·have f1:m<=cr:=by omega
    refine wp_region_held_drew (S:=fun w'=>True) (by kernel_rfl) trivial (fun hHeld=>?_);refine aO 0 ?_
    try simp only[Act.put,zzs]
    refine aO 1 ?_
    try simp only[Act.put,zzs]
    refine aO 2 ?_
    try simp only[Act.put,zzs]
    refine aO 3 ?_
    try simp only[Act.put,zzs]
    refine aO 4 ?_
    try simp only[Act.put,zzs]
    refine aO 5 ?_
    try simp only[Act.put,zzs]
    refine aa 6 rfl fun K hK=>?_;rw[if_pos (by rfl)];refine jR (.tmp 22) (.tmp 25) rfl i0 hi (A:=some ⟨g,0,none⟩) (M:=some ⟨g,n,none⟩) (n:=m) (cap:=cr) (cm:=cr-n) rfl (by first|rfl|simp) (by omega) (fun e=>by cases e) ?_;refine hK.out _ _ trivial (fun hHeld=>?_);clear hK K;refine aO 7 ?_
    try simp only[Act.put,zzs]
    refine aJ (by kernel_rfl) ?_ _
    go_wp2_with(simp only[hcl])
    go_ret;exact⟨rfl,HF.out⟩
def zk4(w:World)(J:Nat)(R:Option Addr)(n cr:Nat)(h:w.cell? ⟨J,1,none⟩=some (.slice R n cr)):Calls prog 27 #[.pointer (some ⟨J,0,none⟩)] w fun e w'=>e=.returned (.int .i64 n)/\w=w':=by
 go_enter func27,ntmps27;go_wp2;go_ret;exact⟨rfl,rfl⟩
end
end
section
section
open Go.RowKit
def zdt(g o:Nat):∀(cs:List Value) (w:World),Below g w (w.setCells g o cs)/\(∀k,k≠g->(w.setCells g o cs).heap[k]? =w.heap[k]?)/\(w.setCells g o cs).heap.size=w.heap.size:=by
 intro cs
 induction cs generalizing o with
 | nil=>exact fun w=>⟨Below.refl _ _,fun _ _=>rfl,rfl⟩
 | cons c cs ih=>
  intro w;have h:=ih (o+1) (w.setCell ⟨g,o,none⟩ c);refine⟨((Below.refl g w).setCell (p:=⟨g,o,none⟩) (aR _) c).trans h.1,fun k hk=>?_,h.2.2.trans (by simp[World.setCell])⟩;have h2:=h.2.1 k hk;rw[Below.heap_setCell _ _ _ _ hk]at h2;exact h2
def za8{ops:Array Oper}{rest:List Oper}{o:Oper}{a:Act}{Q:Exit->Act->World->Prop}{T n:Nat}(hi:(prog.info? T).map (·.size)=some n)(hgd:o.guard=none)(x y:Operand)(ho:o.op=.store T x y)(hd:o.dst=none)
  (g:Nat) (hx:a.eval x=.pointer (some ⟨g,0,none⟩)) (cs:List Value) (hl:cs.length=n) (hy:a.eval y=.agg cs.toArray) (ht:w.there g 0 n) (h1:∀u∈cs,u.oneCell'=true)
  (h:∀w',w'.rangeAt g 0 cs->w'.there g 0 n->Below g w w'->(∀k,k≠g->w'.heap[k]? =w.heap[k]?)->w'.heap.size=w.heap.size->wpList prog ops Q rest a w'):wpList prog ops Q (o::rest) a w:=by
 subst hl;refine wpList_store_mid hgd T x y ho g 0 cs.toArray hx hy (by simpa using ht) (by simpa using hi) (by simpa using h1) ?_;have hb:=zdt g 0 cs w;have:=h (w.setCells g 0 cs) (World.rangeAt_setCells_same w g 0 _ (by simpa using ht)) (World.there_setCells ht _ _ _) hb.1 hb.2.1 hb.2.2;rw[hd];exact this
def zl1{fn:Func}{s T:Nat}{d:TypeDesc}{cs:List Value}(h:fn.results=#[.cell s T])(hu:prog.underlying T=some d)(hd:d.isRow=true)(hi:(prog.info? T).map (·.size)=some cs.length)(tmps:Array Value)(w:World)(g:Nat)(hp:tmps.getD s undef=.pointer (some ⟨g,0,none⟩))(hr:w.rangeAt g 0 cs):(results fn tmps).run prog w=.ok (.agg cs.toArray) w:=by
 have hp':tmps[s]?.getD undef=.pointer (some ⟨g,0,none⟩):=by simpa using hp
 have h1:=run_loadVar_mid (P:=prog) w g 0 T cs _ hr hu hd hi;simp[results,h,hp',asAddr,h1]
def zio{fn:Func}{s T u:Nat}{d:TypeDesc}{cs:List Value}(h:fn.results=#[.cell s T,.tmp u])(hu:prog.underlying T=some d)(hd:d.isRow=true)(hi:(prog.info? T).map (·.size)=some cs.length)(tmps:Array Value)(w:World)(g:Nat)(hp:tmps.getD s undef=.pointer (some ⟨g,0,none⟩))(hr:w.rangeAt g 0 cs):(results fn tmps).run prog w=.ok (.tuple #[.agg cs.toArray,tmps.getD u undef]) w:=by
 have hp':tmps[s]?.getD undef=.pointer (some ⟨g,0,none⟩):=by simpa using hp
 have h1:=run_loadVar_mid (P:=prog) w g 0 T cs _ hr hu hd hi;simp[results,h,hp',asAddr,h1]
def zeb{cs:List Value}{T:TypeId}(h:w.heap[g]? =some (.cells cs.toArray T (0,0))):w.rangeAt g 0 cs:=by
 intro j v hv;rw[wy _ _ _ _ _ _ h];simpa using hv
def ze9{cs:List Value}{T:TypeId}(h:w.heap[g]? =some (.cells cs.toArray T (0,0)))(hn:cs.length=n):w.there g 0 n:=by
 intro j hj;constructor
 ·rw[wy _ _ _ _ _ _ h];simp;omega
 ·simp[World.frozen?,h]
def zdf(h:w.there g 0 n)(hb:Below B w w')(hg:g<B):w'.there g 0 n:=by
 intro j hj;have e:=hb.block g hg;refine⟨?_,?_⟩
 ·rw[hb.cell (by exact hg)];exact(h j hj).1
 ·have:=(h j hj).2;unfold World.frozen? at this⊢;rw[e];exact this
def zGc:(prog.info? 102).map (·.size)=some 2:=by kernel_rfl
abbrev GV(l u:Int):Value:=.agg #[.int .i64 l,.int .i64 u]
abbrev gO(l u:Int):Obj:=.cells #[.int .i64 l,.int .i64 u] 102
def At9(w:World)(b:Nat)(l u:Int):Prop:=w.rangeAt b 0 [.int .i64 l,.int .i64 u]/\w.there b 0 2
def zrj(w:World)(l u:Int):At9 (w.alloc (gO l u)) w.heap.size l u:=
 ⟨zeb (cs:=[.int .i64 l,.int .i64 u]) (ye w _),ze9 (cs:=[.int .i64 l,.int .i64 u]) (ye w _) rfl⟩
def xt(x:Int):Prop:=-9223372036854775808<=x/\x<=9223372036854775807
instance (x:Int):Decidable (xt x):=by unfold xt;infer_instance
def zum(h:Below B w w1)(h2:Below w1.heap.size w1 w2)(hB:B<=w1.heap.size):Below B w w2:=h.trans (h2.mono hB)
def up(m n:Int):Int:=min (max n 0) m
def cost(n:Int):Int:=n.tdiv 16
def zh7{n:Int}(hn:xt n):-576460752303423488<=cost n/\cost n<=576460752303423488:=by
 have h:=Int.natAbs_tdiv n 16;rw[show n.natAbs.div (Int.natAbs 16)=n.natAbs / 16 from rfl]at h
 unfold cost xt at *
 omega
def zck{n:Int}(hn:0<=n):cost n=n / 16:=Int.tdiv_eq_ediv_of_nonneg hn
def zcw{x:Int}(h:xt x):wrap64 x=x:=by unfold xt at h;unfold wrap64;omega
def upC(m n:Int)(B:Nat)(w:World)(hc:w.cell? ⟨B,0,none⟩=some (.int .i64 m)):Calls prog 128 #[.int .i64 n,.pointer (some ⟨B,0,none⟩)] w fun e w'=>e=.returned (.int .i64 (up m n))/\w'=w:=by
 go_enter func128,ntmps128;go_wp2
 all_goals go_ret
 all_goals exact⟨congrArg (fun x=>Ending.returned (Value.int .i64 x)) (by unfold up;omega),rfl⟩
def zqc(m:Int)(w:World):Calls prog 79 #[.int .i64 m] w fun e w'=>e=.returned (.func (.func 128) #[] #[.pointer (some ⟨w.heap.size,0,none⟩)])/\Below w.heap.size w w'/\w'.cell? ⟨w.heap.size,0,none⟩=some (.int .i64 m)/\w'.heap.size=w.heap.size+1:=by
 have hmf:∀(fn:Fn) (first cap:Array Value) (w:World),(Instr.makeFunc fn first cap).run prog w=.ok (.func fn first cap) w:=fun _ _ _ _=>rfl;go_enter func79,ntmps79;go_wp2;go_ret;exact⟨rfl,za _ _,by rw[wy _ _ _ _ _ _ (ye w _)];rfl,by simp⟩
def zml(n:Int)(w:World)(hn:xt n):Calls prog 231 #[.int .i64 n] w fun e w'=>e=.returned (.int .i64 (cost n))/\w'=w:=by
 have hw:wrap64 (n.tdiv 16)=cost n:=zcw (by have:=zh7 hn;unfold cost at this;unfold xt;omega);have HW:=aQ hw;clear hn hw;go_enter func231,ntmps231;go_wp2;go_ret;exact⟨congrArg (fun x=>Ending.returned (Value.int .i64 x)) HW.out,rfl⟩
def newL(n:Int):Int:=up 100000 n
def ztx(n:Int)(w:World)(hn:xt n):Calls prog 261 #[.int .i64 n] w fun e w'=>e=.returned (.int .i64 (cost (max n 0)))/\Below w.heap.size w w':=by
 have HE:Hid (up 9223372036854775807 n=max n 0):=by show _=_;unfold up xt at *;omega
 have HF:Hid (xt (max n 0)):=by show xt _;unfold xt at *;omega
 clear hn;go_enter func261,ntmps261
 go_wp2_with fail
 refine(zqc _ _).mono ?_;rintro e w1 ⟨rfl,b1,c1,s1⟩;have B1:=aQ b1;have K:=aQ (upC 9223372036854775807 n _ _ c1);clear b1 c1 s1
 go_wp2_with fail
 refine K.out.mono ?_;rintro e w2 ⟨rfl,rfl⟩;rw[HE.out]
 go_wp2_with fail
 refine(zml _ _ HF.out).mono ?_;rintro e w3 ⟨rfl,rfl⟩;go_wp2;go_ret;exact⟨rfl,B1.out⟩
def putN(k v:Int):Int:=4+cost (up 2147483648 k+up 2147483648 v)
def zvp(k v:Int)(w:World):Calls prog 193 #[.int .i64 k,.int .i64 v] w fun e w'=>e=.returned (.int .i64 (putN k v))/\Below w.heap.size w w':=by
 have hb:0<=up 2147483648 k+up 2147483648 v/\up 2147483648 k+up 2147483648 v<=4294967296:=by unfold up;omega
 have hw:wrap64 (up 2147483648 k+up 2147483648 v)=up 2147483648 k+up 2147483648 v:=zcw (by unfold xt;omega);have HF:Hid (xt (up 2147483648 k+up 2147483648 v)):=by show xt _;unfold xt;omega
 have hw2:wrap64 (4+cost (up 2147483648 k+up 2147483648 v))=putN k v:=zcw (by rw[zck hb.1];unfold xt;omega);clear hb;have K3:Hid (∀w,Calls prog 231 #[.int .i64 (wrap64 (up 2147483648 k+up 2147483648 v))] w fun e w'=>e=.returned (.int .i64 (cost (up 2147483648 k+up 2147483648 v)))/\w'=w):=fun w=>by rw[hw];exact zml _ _ HF.out
 have HW2:=aQ hw2;clear hw hw2 HF;go_enter func193,ntmps193
 go_wp2_with fail
 refine(zqc _ _).mono ?_;rintro e w1 ⟨rfl,b1,c1,s1⟩;have B1:=aQ b1;have K1:=aQ (upC 2147483648 k _ _ c1);have K2:=aQ (upC 2147483648 v _ _ c1);clear b1 c1 s1
 go_wp2_with fail
 refine K1.out.mono ?_;rintro e w2 ⟨rfl,rfl⟩
 go_wp2_with fail
 refine K2.out.mono ?_;rintro e w2 ⟨rfl,rfl⟩
 go_wp2_with fail
 refine(K3.out _).mono ?_;rintro e w3 ⟨rfl,rfl⟩;go_wp2;go_ret;exact⟨congrArg (fun x=>Ending.returned (Value.int .i64 x)) HW2.out,B1.out⟩
def zv6(n:Int)(w:World):Calls prog 44 #[.int .i64 n] w fun e w'=>e=.returned (GV (newL n) 0)/\Below w.heap.size w w':=by
 have hm:newL n=up 100000 n:=rfl;rw[hm];have HK:=aQ (zqc 100000);have HZ:Hid (∀w1,Below (w.alloc (gO 0 0)).heap.size (w.alloc (gO 0 0)) w1->w1.there w.heap.size 0 2/\Below w.heap.size w w1):=fun w1 h=>⟨zdf (zrj w 0 0).2 h (by simp),zum (za w _) h (by simp)⟩;go_enter func44,ntmps44
 go_wp2_with fail
 with_reducible refine(HK.out _).mono ?_
 rintro e w1⟨rfl,b1,c1,s1⟩;have HT:=aQ (HZ.out w1 b1);have K:=aQ (upC 100000 n _ _ c1);clear b1 c1 s1 HK HZ hm
 generalize(w.alloc (Obj.cells #[Value.int IntKind.i64 0,Value.int IntKind.i64 0] 102)).heap.size=B at *
 go_wp2_with fail
 with_reducible refine K.out.mono ?_
 rintro e w2⟨rfl,rfl⟩
 go_wp2_with(refine za8 zGc rfl (.tmp 2) (.tmp 6) rfl rfl w.heap.size rfl [_,_] rfl rfl HT.out.1 (by simp[Value.oneCell']) ?_;intro w2 g1 g2 g3 g4 g5)
 refine vS (zl1 (cs:=[_,_]) results44 underlying102 rfl zGc _ _ w.heap.size rfl g1) rfl ?_;exact⟨rfl,HT.out.2.trans g3⟩
def useB(l u n:Int):Bool:=decide (0<=u/\u<=l/\0<=n/\n<=l-u)
def useU(l u n:Int):Int:=if 0<=u/\u<=l/\0<=n/\n<=l-u then u+n else l
def zgg{l u n:Int}(h:0<=u/\u<=l/\0<=n/\n<=l-u):useB l u n=true/\useU l u n=u+n:=⟨decide_eq_true h,if_pos h⟩
def zo7{l u n:Int}(h:¬(0<=u/\u<=l/\0<=n/\n<=l-u)):useB l u n=false/\useU l u n=l:=⟨decide_eq_false h,if_neg h⟩
def ztt{l y u n:Int}{b:Bool}(h:useB l u n=b/\useU l u n=y):Ending.returned (.tuple #[GV l y,.bool b])=.returned (.tuple #[GV l (useU l u n),.bool (useB l u n)]):=by rw[h.1,h.2]
def zoq{l y u n:Int}{b:Bool}(hl:xt l)(hu:xt u)(hn:xt n)(h:(b=false/\y=l/\(u<0\/l<u\/n<0\/(0<=u/\u<=l/\wrap64 (l-u)<n)))\/(b=true/\y=wrap64 (u+n)/\0<=u/\u<=l/\0<=n/\n<=wrap64 (l-u))):useB l u n=b/\useU l u n=y:=by
 unfold xt at *
 rcases h with⟨rfl,rfl,h⟩|⟨rfl,rfl,h0,h1,h2,h3⟩
 ·refine zo7 ?_;unfold wrap64 at h;omega
 ·have hs:0<=u/\u<=l/\0<=n/\n<=l-u:=by unfold wrap64 at h3;omega
  exact⟨(zgg hs).1,(zgg hs).2.trans (by unfold wrap64;omega)⟩
def zi5(w:World)(o:Obj)(cs:List Value)(T:TypeId):((w.alloc o).alloc (.cells cs.toArray T)).rangeAt (w.heap.size+1) 0 cs:=by
 have h:=zeb (T:=T) (ye (w.alloc o) (.cells cs.toArray T (0,0)))
 rwa [aE]at h
def zia(w:World)(a b:Obj):Below w.heap.size w ((w.alloc a).alloc b):=(za w a).alloc (by simp) b
def useC(l u n:Int)(w:World)(hl:xt l)(hu:xt u)(hn:xt n):Calls prog 187 #[GV l u,.int .i64 n] w fun e w'=>e=.returned (.tuple #[GV l (useU l u n),.bool (useB l u n)])/\Below w.heap.size w w':=by
 have HL:=aQ hl;have HU:=aQ hu;have HN:=aQ hn;clear hl hu hn;go_enter func187,ntmps187;go_wp2
 all_goals refine vS (zio (cs:=[_,_]) results187 underlying102 rfl zGc _ _ (w.heap.size+1) rfl (zi5 w _ _ _)) rfl ?_
 all_goals exact⟨ztt (zoq HL.out HU.out HN.out (by first|exact .inl ⟨rfl,rfl,by omega⟩|exact .inr ⟨rfl,rfl,by omega,by omega,by omega,by omega⟩)),zia _ _ _⟩
end
end
end Go.Proofs.YtcilgkdnjgmogaaGreatDoor
