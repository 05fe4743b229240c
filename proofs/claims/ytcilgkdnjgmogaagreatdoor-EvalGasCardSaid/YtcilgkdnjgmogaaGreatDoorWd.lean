/- A part of the proof. -/
import Derived.Test.YtcilgkdnjgmogaaGreatDoorWc
import Derived.Deep.RegionHeld3
import Derived.ProofKit
import Derived.LaidMore
import Derived.OpenShut
import Derived.Stop.Joined
import Derived.SizedLaws
import Derived.ChangeOld
import Derived.Below
import Derived.ChangeMaps5
import Derived.Deep.Slices
import Derived.Lib.SmallJoins
import Derived.Deep.SlicePairs
import Derived.Test.YtcilgkdnjgmogaaGreatDoorCards
import Derived.JoinedOf
namespace Go.Proofs.YtcilgkdnjgmogaaGreatDoor
open Go.Proofs.Tryz
set_option maxRecDepth 100000
set_option maxHeartbeats 12800000
set_option linter.all false
variable {B g i j m n:Nat} {W w w':World} {e:TypeId} {l:List Nat}
section
open Go.RowKit Go.MapKept
structure Rs5 where
 v:Va
 t:Int
 u:Int
 hs:List (List PR)
 cur:List PR
def rsR(cur:List PR):Ou Va->Rs5
 | .ok v τ=>⟨v,0,τ.used,τ.hs,τ.cur⟩
 | .trap t τ=>⟨qe,t,τ.used,[],cur⟩
def GasQ(O:Int->Rs5)(l:Int):Prop:=
 ((O l).t=1->(O l).u=newL l)/\∀l',(O l).t≠1->((O l).u<=newL l'->O l'=O l)/\(newL l'<(O l).u->(O l').t=1/\(O l').u=newL l')
def zFa(fs:List Xf)(name:List Nat)(vs:List Va)(cur:List PR)(l:Int)(o:Rs5):Prop:=
 (0<=o.u/\o.u<=newL l)/\∀ [Prt] (n0:Nat) (ks:List Two) (A:Option Addr) (c J:Nat) (w:World) (V:Value),Lw n0 fs ks A c J [] cur w->(∀b,Jb w J b->¬Prt.no b)->(∀b,Prt.no b->b<w.heap.size)->ArgY n0 w V vs ->
    Calls prog 19 #[.agg #[.slice A fs.length c],.string (strN name),V,.pointer (some ⟨J,0,none⟩),.int .i64 l] w (RunQ n0 J w o.v o.t o.u o.hs o.cur)
def zE9{fs:List Xf}(hp:kD fs=none)(hsh:∀f∈fs,shB f.body=true)(name:List Nat)(hy:Byn name)(vs:List Va)(cur:List PR):∃O:Int->Rs5,∀l,zFa fs name vs cur l (O l)/\GasQ O l:=by
 have nlim:=@zb6;have hno:∀ [Prt] (n0:Nat) (J:Nat) (w w':World) (e:Ending),Jr n0 w J [] cur->(∀b,Jb w J b->¬Prt.no b)->e=.returned (.agg #[.int .i64 0,.int .i64 0,.slice none 0 0,.int .i64 7,.int .i64 0])/\Below w.heap.size w w'->RunQ n0 J w qe 7 0 [] cur e w':=by
  intro iP n0 J w w' e hj hpj h;obtain⟨rfl,hb⟩:=h;exact⟨none,0,rfl,.of hb,fun b h=>hpj b (zFm (hb.block J (hj.jb_lt (.inl rfl)).1) h),hj.on hb,SB.nil _ _⟩
 have hg:∀l,GasQ (fun _=>⟨qe,7,0,[],cur⟩) l:=fun l=>⟨fun h=>(by cases h),fun l' _=>⟨fun _=>rfl,fun h=>by
  have:=(nlim l').1;have h:newL l'<0:=h
  omega⟩⟩
 cases hf:xT fs name with
 | none=>
  refine⟨fun _=>⟨qe,7,0,[],cur⟩,fun l=>⟨⟨⟨Int.le_refl _,(nlim l).1⟩,fun n0 ks A c J w V hL hpj hpt ha=>?_⟩,hg l⟩⟩;exact(zCv n0 w J fs ks A c name V vs l hL.hn hp hL.prog hy hf).mono fun e w' h=>hno n0 J w w' e hL.jr hpj h
 | some f=>
  by_cases hfit:fitB f.params vs=true
  ·have hr:∀l,∃r,vg (newL l) (xT fs) f vs { used:=0,hs:=[],cur:=cur } r:=fun l=>by
    obtain⟨r,hr,_⟩:=zBq (lim:=newL l) hp hf (zCl hfit) (σ:={ used:=0,hs:=[],cur:=cur }) (nlim l).1;exact⟨r,hr⟩
   refine⟨fun l=>rsR cur (Classical.choose (hr l)),fun l=>?_⟩;have h1:=Classical.choose_spec (hr l);have h2:∀l',vi (newL l') (some (Classical.choose (hr l))) (some (Classical.choose (hr l'))):=fun l'=>h1.other (Classical.choose_spec (hr l')) (nlim l).1 (nlim l').1;have hG:GasQ (fun l=>rsR cur (Classical.choose (hr l))) l:=by
    unfold GasQ;dsimp only;generalize hx:Classical.choose (hr l)=x at h1 h2;rcases x with⟨v,τ⟩|⟨t,τ⟩
    ·refine⟨fun h=>(by cases h),fun l' _=>⟨fun h=>?_,fun h=>?_⟩⟩
     ·have h3:=(h2 l').1 h;injection h3 with h3
      rw[h3]
     ·obtain⟨ρ,e,er⟩:=(h2 l').2 h;injection e with e
      rw[e];exact⟨rfl,er⟩
    ·refine⟨fun h=>?_,fun l' ht=>⟨fun h=>?_,fun h=>?_⟩⟩
     ·have h:t=1:=h;subst h;exact h1.gas
     ·have h3:=(h2 l' ht).1 h;injection h3 with h3
      rw[h3]
     ·obtain⟨ρ,e,er⟩:=(h2 l' ht).2 h;injection e with e
      rw[e];exact⟨rfl,er⟩
   refine⟨?_,hG⟩;dsimp only;clear h2 hG;generalize Classical.choose (hr l)=x at h1;have he:=h1.ends (nlim l).1;rcases x with⟨v,τ⟩|⟨t,τ⟩
   ·have ha:Adv (newL l) { used:=0,hs:=[],cur:=cur } τ:=he;refine⟨⟨ha.more,ha.most⟩,fun n0 ks A c J w V hL hpj hpt hx=>?_⟩;refine(zmi hL hpj hpt (by simp) hp hsh name hy V vs (hx.x (zGi hfit)) f hf hfit l _ h1).mono fun e w' h=>?_;obtain⟨hm,hnp,x,rfl,⟨A',c',rfl,hv⟩,hj⟩:=h;obtain⟨k,e,hb,_⟩:=hv;injection e with e
    have e:k=.slice A' v.s.length c':=by
     have:=congrArg (fun a=>a[2]?) e;simpa using this.symm
    subst e;exact⟨A',c',rfl,hm,hnp,hj,hb⟩
   ·have ha:Adv (newL l) { used:=0,hs:=[],cur:=cur } τ:=he.1;refine⟨⟨ha.more,ha.most⟩,fun n0 ks A c J w V hL hpj hpt hx=>?_⟩;refine(zmi hL hpj hpt (by simp) hp hsh name hy V vs (hx.x (zGi hfit)) f hf hfit l _ h1).mono fun e w' h=>?_;obtain⟨hm,hnp,x,rfl,⟨A',c',rfl,hv⟩,hj⟩:=h;obtain⟨k,e,hb,_⟩:=hv;injection e with e
    have e:k=.slice A' qe.s.length c':=by
     have:=congrArg (fun a=>a[2]?) e;simpa using this.symm
    subst e;exact⟨A',c',rfl,hm,hnp,hj,hb⟩
  ·refine⟨fun _=>⟨qe,7,0,[],cur⟩,fun l=>⟨⟨⟨Int.le_refl _,(nlim l).1⟩,fun n0 ks A c J w V hL hpj hpt ha=>?_⟩,hg l⟩⟩;exact(zCh n0 w J fs ks A c name V vs l f hL.hn hp hL.prog hy ha hf (by simpa using hfit)).mono fun e w' h=>hno n0 J w w' e hL.jr hpj h
def zE0{l:Int}(h0:0<=l)(h1:l<=100000):newL l=l:=by
 unfold newL up;omega
def zE5{fs:List Xf}(hp:kD fs=none)(hsh:∀f∈fs,shB f.body=true)(name:List Nat)(hy:Byn name)(vs:List Va)(cur:List PR)(l m:Int)(h0:0<=l)(h1:l<=10000)(h2:0<=m)(h3:m<=65535):∃(v:Va) (t u:Int) (hs':List (List PR)) (cur':List PR),(0<=u/\u<=l)/\(t=1->u=l)/\zFa fs name vs cur l ⟨v,t,u,hs',cur'⟩ /\
   (t≠1->zFa fs name vs cur (l+m) ⟨v,t,u,hs',cur'⟩/\(u≠0->∃v3 hs3 cur3,zFa fs name vs cur (u-1) ⟨v3,1,u-1,hs3,cur3⟩)):=by
 obtain⟨O,hO⟩:=zE9 hp hsh name hy vs cur;obtain⟨hR,hg1,hg2⟩:=hO l;have hu:=hR.1;rw[zE0 h0 (by omega)]at hg1 hu;refine⟨(O l).v,(O l).t,(O l).u,(O l).hs,(O l).cur,hu,hg1,hR,fun ht=>⟨?_,fun h=>?_⟩⟩
 ·have e:=(hg2 (l+m) ht).1 (by rw[zE0 (by omega) (by omega)];omega);have:=(hO (l+m)).1;rw[e]at this;exact this
 ·have hn:newL ((O l).u-1)=(O l).u-1:=zE0 (by omega) (by omega);obtain⟨e1,e2⟩:=(hg2 ((O l).u-1) ht).2 (by rw[hn];omega);rw[hn]at e2;refine⟨(O ((O l).u-1)).v,(O ((O l).u-1)).hs,(O ((O l).u-1)).cur,?_⟩;have:=(hO ((O l).u-1)).1
  generalize O ((O l).u-1)=o at *
  obtain⟨ov,ot,ou,oh,oc⟩:=o;dsimp only at e1 e2;subst e1 e2;exact this
abbrev zO44:Obj:=.cells #[.int .i64 0,.int .i64 0,.slice none 0 0,.int .i64 0,.int .i64 0] 44
def zos{g b:Nat}(h:b≠g)(v0 v1 v2 v3 v4:Value):(((((w.setCell ⟨g,0,none⟩ v0).setCell ⟨g,1,none⟩ v1).setCell ⟨g,2,none⟩ v2).setCell ⟨g,3,none⟩ v3).setCell ⟨g,4,none⟩ v4).heap[b]? =w.heap[b]?:=by
 rw[zf _ _ _ _ _ h,zf _ _ _ _ _ h,zf _ _ _ _ _ h,zf _ _ _ _ _ h,zf _ _ _ _ _ h]
def OSt.below{o:Obj}(h:OSt g o w w')(hB:B<=g):Below B w w':=⟨h.os,h.tape,h.output,by rw[h.size];exact aQ _,fun b hb=>h.far b (by omega)⟩
def zEr{g b o:Nat}{v:Value}(hc:w.cell? ⟨b,o,none⟩=some v)(h:b≠g){v0 v1 v2 v3 v4:Value}:(((((w.setCell ⟨g,0,none⟩ v0).setCell ⟨g,1,none⟩ v1).setCell ⟨g,2,none⟩ v2).setCell ⟨g,3,none⟩ v3).setCell ⟨g,4,none⟩ v4).cell? ⟨b,o,none⟩=some v:=by
 rw[yp (a:=⟨b,o,none⟩) (w:=w) (zos h _ _ _ _ _)];exact hc
def zE8(A0:Option Addr)(T:List Nat)(n0 c0:Nat)(hn0:T.length=n0)(hc0:n0<=c0)(hm0:c0<=maxLen)(hyT:Byn T)(name:List Nat)(hy:Byn name)(V:Value)(vs:List Va)(AL:Option Addr)(cL:Nat)(ls:List PR)(hcL:ls.length<=cL)(hmL:cL<=maxLen)(hlL:ls.length<=2932031007402)(limit:Int)(hlim:fits limit)(more:Nat)(hmore:more<65536)
  (w:World) (ht:Tab w) (hT:Lies w w.heap.size A0 c0 (bts T)) (hA:RawA w V vs) (hL:Prs w w.heap.size AL cL ls) :
  Calls prog 6 #[.slice A0 n0 c0,.string (strN name),V,.slice AL ls.length cL,.int .i64 limit,.int .u16 more] w fun e w'=>e=.returned (.bool true)/\Below w.heap.size w w':=by
 have HTab:=aP ht;have HT:=aP hT;have HA:=aP hA;have HL:=aP hL;have HP:=aP (And.intro hn0 (And.intro hc0 (And.intro hm0 (And.intro hyT (And.intro hy (And.intro hcL (And.intro hmL (And.intro hlL (And.intro hlim hmore)))))))));have K:=aP (wP w ht);have hpos:=ht.1;clear ht hT hA hL hn0 hc0 hm0 hyT hy hcL hmL hlL hlim hmore;go_enter func6,ntmps6
 go_wp2_with fail
 with_reducible refine K.out.mono ?_
 clear K;rintro e wa ⟨rfl,ba⟩;have HBa:=aP ba;clear ba;have K:=aP (zCs T A0 n0 c0 wa HP.out.1 HP.out.2.1 HP.out.2.2.1 (HT.out.below HBa.out |>.more HBa.out.size) HP.out.2.2.2.1 (HTab.out.below HBa.out hpos))
 go_wp2_with fail
 with_reducible refine K.out.mono ?_
 clear K;rintro e w1 (⟨A1,c1,err,aU,rfl,he,b1⟩|⟨fs,ks,A,c,hp,hsh,rfl,hX,b1⟩)
 ·have HB1:=aP (zd HBa.out b1 HBa.out.size);have q0:(err != 0)=true:=by simpa using he
  have hc1:=za w1 (.cells #[.slice A1 0 c1] 26);have HB2:=aP (zd HB1.out hc1 HB1.out.size);clear b1 he hc1 HB1 HBa;go_upto_region 3 with fail
  generalize w1.alloc (.cells #[.slice A1 0 c1] 26)=w2 at *
  have K:Hid (∀w',Below w.heap.size w w'->Calls prog 17 #[.slice AL ls.length cL] w' (NewQ w.heap.size ls w')):=fun w' hb=>zCg w.heap.size AL ls cL w' hb.size (HL.out.on hb) HP.out.2.2.2.2.2.1 HP.out.2.2.2.2.2.2.1 HP.out.2.2.2.2.2.2.2.1
  (go_wp2_with fail);refine(K.out w2 HB2.out).mono ?_;rintro e w3 ⟨b3,h⟩;have HB3:=aP (zd HB2.out b3 HB2.out.size);obtain⟨x,rfl⟩:∃x,e=.returned x:=by rcases h with⟨_,rfl⟩|⟨_,J,rfl,_⟩<;>exact⟨_,rfl⟩
  clear h b3 HB2
  (go_wp2_with fail);refine(K.out w3 HB3.out).mono ?_;rintro e w4 ⟨b4,h⟩;have HB4:=aP (zd HB3.out b4 HB3.out.size);obtain⟨y,rfl⟩:∃y,e=.returned y:=by rcases h with⟨_,rfl⟩|⟨_,J,rfl,_⟩<;>exact⟨_,rfl⟩
  clear h b4 HB3
  go_wp2_with fail
  all_goals
   go_ret;exact⟨rfl,HB4.out⟩
 ·have HB1:=aP (zd HBa.out b1 HBa.out.size);have HF:=aP (And.intro hp hsh);have hc1:=za w1 (.cells #[.slice A fs.length c] 26);have X0:Hid ((w1.alloc (.cells #[.slice A fs.length c] 26)).cell? ⟨w1.heap.size,0,none⟩=some (.slice A fs.length c)):=by show _=_;rw[wv _ _ _ _ _ _ (ye w1 _)];rfl
  have HB2:=aP (zd HB1.out hc1 HB1.out.size);have HX2:Hid (XfsC (w1.alloc (.cells #[.slice A fs.length c] 26)) (Lo (w1.alloc (.cells #[.slice A fs.length c] 26)).heap.size) fs ks (.slice A fs.length c)):=(hX.same (xj hc1 (aQ _))).more fun k hk=>aR hk hc1.size;clear b1 hc1 HB1 HBa hX hp hsh;go_upto_region 3 with fail
  generalize w1.alloc (.cells #[.slice A fs.length c] 26)=w2 at *
  generalize w1.heap.size=gp at *
  have hgp:gp<w2.heap.size:=wW w2 _ X0.out;have K:Hid (∀w',Below w2.heap.size w2 w'->Calls prog 17 #[.slice AL ls.length cL] w' (NewQ w2.heap.size ls w')):=fun w' hb=>zCg w2.heap.size AL ls cL w' hb.size (HL.out.on (zd HB2.out hb HB2.out.size)) HP.out.2.2.2.2.2.1 HP.out.2.2.2.2.2.2.1 HP.out.2.2.2.2.2.2.2.1
  (go_wp2_with fail);refine(K.out w2 (Below.refl _ _)).mono ?_;rintro e w3 ⟨b3,h3⟩;have HB3:=aP b3;rcases h3 with⟨hr,rfl⟩|⟨hr,J,rfl,hJ,hj,hjb⟩
  ·have HR:=aP hr;clear b3 hr
   (go_wp2_with fail);refine(K.out w3 HB3.out).mono ?_;rintro e w4 ⟨b4,h4⟩;have HB4:=aP (zd HB2.out (zd HB3.out b4 HB3.out.size) HB2.out.size);obtain⟨y,rfl⟩:∃y,e=.returned y:=by rcases h4 with⟨_,rfl⟩|⟨_,J,rfl,_⟩<;>exact⟨_,rfl⟩
   clear h4 b4
   go_wp2_with fail
   all_goals
    go_ret;exact⟨rfl,HB4.out⟩
  have HR:=aP hr;have HJ3:=aP (And.intro hJ (And.intro hj hjb));clear b3 hr hJ hj hjb
  (go_wp2_with fail);refine(K.out w3 HB3.out).mono ?_;rintro e w4 ⟨b4,h4⟩;rcases h4 with⟨hr,rfl⟩|⟨hr,L,rfl,hL,hl,hlb⟩
  ·exact absurd HR.out hr
  have HB4:=aP (zd HB3.out b4 HB3.out.size);have HJ4:Hid (Jr w2.heap.size w4 J [] ls/\J<L/\∀b,Jb w4 J b->b=J):=⟨HJ3.out.2.1.on b4,by have:=(HJ3.out.2.1.jb_lt (.inl rfl)).1;omega,fun b hb=>HJ3.out.2.2 b (zFm (b4.block J (HJ3.out.2.1.jb_lt (.inl rfl)).1) hb)⟩;have HL4:=aP (And.intro hl hlb);have X4:=aP (zb X0.out HB4.out);have HXw4:=aP (HX2.out.same (xj HB4.out (aQ _)));clear b4 hr hL hl hlb HJ3 K HB3 X0;have HBw:=aP (zd HB2.out HB4.out HB2.out.size);have x4:=X4.out;by_cases hneg:limit<0
  ·have q0:decide (limit<0)=true:=by simpa using hneg
   clear hneg
   go_wp2_with fail
   all_goals
    go_ret;exact⟨rfl,HBw.out⟩
  have q0:decide (limit<0)=false:=by simpa using hneg
  by_cases hlt:10000<limit
  ·have q1:decide (limit > 10000)=true:=by simpa using hlt
   clear hneg hlt
   go_wp2_with fail
   all_goals
    go_ret;exact⟨rfl,HBw.out⟩
  have q1:decide (limit > 10000)=false:=by simpa using hlt
  obtain⟨v,t,u,hs',cur',hu,hg,RUN,hr2⟩:=zE5 HF.out.1 HF.out.2 name HP.out.2.2.2.2.1 vs ls limit more (by omega) (by omega) (by omega) (by have:=HP.out.2.2.2.2.2.2.2.2.2;omega);have HLM:Hid (0<=limit/\limit<=10000/\more<65536):=⟨by omega,by omega,HP.out.2.2.2.2.2.2.2.2.2⟩;obtain⟨_,RUN⟩:=RUN;have HRUN:=aP (fun(iP:Prt)=>@RUN iP);have HU:=aP (And.intro hu (And.intro hg hr2));clear RUN hu hg hr2 hneg hlt
  (go_wp2_with fail);clear x4 q0 q1;have HBw4:=aP (zd HB2.out HB4.out HB2.out.size);have K19:=aP (HRUN.out ⟨fun b=>b=L⟩ w2.heap.size ks A c J w4 V ⟨HB4.out.size,HJ4.out.1,HXw4.out⟩ (fun b hb e=>by have:=HJ4.out.2.2 b hb;have:=HJ4.out.2.1;subst e;omega) (fun b e=>by subst e;exact(HL4.out.1.jb_lt (.inl rfl)).1) (@RawA.argx ⟨fun b=>b=L⟩ _ _ _ _ _ HA.out HBw4.out HB2.out.size));refine K19.out.mono ?_;rintro e w6 ⟨A1,c1,rfl,hm,hnp,hj,hsb⟩;obtain⟨hl6,hlb6⟩:=@Jr.prt ⟨fun b=>b=L⟩ _ _ _ _ _ _ HL4.out.1 hm (fun b hb=>HL4.out.2 b hb);have low6:=@Mv.low ⟨fun b=>b=L⟩ _ _ _ _ hm HB4.out.size;have b7:=za w6 (oC v.t v.n (.slice A1 v.s.length c1) t u);have h7:=ye w6 (oC v.t v.n (.slice A1 v.s.length c1) t u);have HSB6:=aP (hsb.on b7);have hn6:w2.heap.size<=w6.heap.size:=aS HB4.out.size (@Mv.size ⟨fun b=>b=L⟩ _ _ _ _ hm);have LOW7:=aP (low6.trans (b7.mono hn6));have HJ7:=aP (hj.on b7);have HL7:=aP (hl6.on b7);have HNP7:Hid (∀b,Jb (w6.alloc (oC v.t v.n (.slice A1 v.s.length c1) t u)) L b->¬Jb (w6.alloc (oC v.t v.n (.slice A1 v.s.length c1) t u)) J b):=fun b hb hb'=>by
   have e1:b=L:=HL4.out.2 b (hlb6 b (zFm (b7.block L (hl6.jb_lt (.inl rfl)).1) hb));exact hnp b (zFm (b7.block J (hj.jb_lt (.inl rfl)).1) hb') e1
  have H7:=aP h7;have HX7:Hid ((w6.alloc (oC v.t v.n (.slice A1 v.s.length c1) t u)).cell? ⟨gp,0,none⟩=some (.slice A fs.length c)):=by show _=_;rw[LOW7.out.cell (p:=⟨gp,0,none⟩) hgp];exact X4.out
  have HN7:Hid (w2.heap.size<=w6.heap.size/\w6.heap.size<(w6.alloc (oC v.t v.n (.slice A1 v.s.length c1) t u)).heap.size):=⟨hn6,by simp⟩;clear K19 hm hnp hj hsb hl6 hlb6 low6 b7 h7 hn6;unfold oC at HSB6 LOW7 HJ7 HL7 HNP7 H7 HX7 HN7;go_upto_region 8 with fail
  generalize w6.alloc (.cells #[.int .i64 v.t,.int .i64 v.n,.slice A1 v.s.length c1,.int .i64 t,.int .i64 u] 44)=w7 at *
  generalize w6.heap.size=d7 at *
  have HBw7:=aP (HBw4.out.trans (LOW7.out.mono HB2.out.size));obtain⟨⟨x1,x2,x3,x4,x5⟩,_⟩:=xi H7.out;by_cases h1:t=1
  ·have q0:(t==1)=true:=by simpa using h1
   have q1:(u==limit)=true:=by simpa using HU.out.2.1 h1
   clear h1
   go_wp2_with fail
   all_goals
    go_ret;exact⟨by simp,HBw7.out⟩
  have q0:(t==1)=false:=by simpa using h1
  obtain⟨⟨_,RUN2⟩,hz⟩:=HU.out.2.2 h1;have HRUN2:=aP (fun(iP:Prt)=>@RUN2 iP);have HZ:=aP hz;clear RUN2 hz;have x7:=HX7.out;have qw:IntKind.i64.wrap (more:Int)=(more:Int):=(zjt _).trans (xQ (by have:=HLM.out;unfold fits;omega));have qw2:IntKind.i64.wrap (limit+(more:Int))=limit+(more:Int):=(zjt _).trans (xQ (by have:=HLM.out;unfold fits;omega));have qw3:wrap64 (limit+(more:Int))=limit+(more:Int):=xQ (by have:=HLM.out;unfold fits;omega);clear h1
  (go_wp2_with fail);clear x7 q0 qw qw2 qw3;have K19:=aP (HRUN2.out ⟨fun b=>Jb w7 J b⟩ w2.heap.size ks A c L w7 V ⟨aS HN7.out.1 (Nat.le_of_lt HN7.out.2),HL7.out,HXw4.out.same (vL LOW7.out)⟩ HNP7.out (fun b e=>(HJ7.out.jb_lt e).1) (@RawA.argx ⟨fun b=>Jb w7 J b⟩ _ _ _ _ _ HA.out HBw7.out HB2.out.size));refine K19.out.mono ?_;rintro e w8 ⟨A2,c2,rfl,hm,hnp,hl8,hsb⟩;obtain⟨hj8,_⟩:=@Jr.prt ⟨fun b=>Jb w7 J b⟩ _ _ _ _ _ _ HJ7.out hm (fun b hb=>hb);have low8:=@Mv.low ⟨fun b=>Jb w7 J b⟩ _ _ _ _ hm (aS HN7.out.1 (Nat.le_of_lt HN7.out.2));have h8:=@Mv.kept ⟨fun b=>Jb w7 J b⟩ _ _ _ _ _ _ _ _ hm H7.out (by decide);have sb8:=HSB6.out.off (@Mv.off ⟨fun b=>Jb w7 J b⟩ _ _ _ _ hm);have b9:=za w8 (oC v.t v.n (.slice A2 v.s.length c2) t u);have h9:=ye w8 (oC v.t v.n (.slice A2 v.s.length c2) t u);have hn8:w2.heap.size<=w8.heap.size:=aS (aS HN7.out.1 (Nat.le_of_lt HN7.out.2)) (@Mv.size ⟨fun b=>Jb w7 J b⟩ _ _ _ _ hm);have LOW9:=aP (LOW7.out.trans (low8.trans (b9.mono hn8)));have HO9:=aP (And.intro (zg b9 h8 (aT.1 h8).1) h9);have HS9:=aP (And.intro (sb8.on b9) (hsb.on b9));have HJ9:=aP (And.intro (hj8.on b9) (hl8.on b9));have HX9:Hid ((w8.alloc (oC v.t v.n (.slice A2 v.s.length c2) t u)).cell? ⟨gp,0,none⟩=some (.slice A fs.length c)):=by show _=_;rw[LOW9.out.cell (p:=⟨gp,0,none⟩) hgp];exact X4.out
  have HN9:Hid (w2.heap.size<=(w8.alloc (oC v.t v.n (.slice A2 v.s.length c2) t u)).heap.size):=aS hn8 b9.size;clear K19 hm hnp hl8 hsb hj8 low8 h8 sb8 b9 h9 hn8 HNP7 HL7 HJ7 HSB6 H7 x1 x2 x3 x4 x5 HX7;unfold oC at LOW9 HO9 HS9 HJ9 HX9 HN9;go_upto_region 11 with fail
  generalize w8.alloc (.cells #[.int .i64 v.t,.int .i64 v.n,.slice A2 v.s.length c2,.int .i64 t,.int .i64 u] 44)=w9 at *
  generalize w8.heap.size=d9 at *
  obtain⟨⟨x1,x2,x3,x4,x5⟩,_⟩:=xi HO9.out.1;obtain⟨⟨y1,y2,y3,y4,y5⟩,_⟩:=xi HO9.out.2;have HBw9:=aP (HBw4.out.trans (LOW9.out.mono HB2.out.size))
  (go_wp2_with fail);refine(zDh v.t v.n t u A1 A2 v.s v.s.length c1 c2 rfl w9 HS9.out.1 HS9.out.2).mono ?_;rintro e wb ⟨rfl,bb⟩;have HBb:=aP bb;have KP:Hid (∀W,Below w9.heap.size w9 W->(Calls prog 23 #[.pointer (some ⟨J,0,none⟩)] W (NewR W cur'))/\Calls prog 23 #[.pointer (some ⟨L,0,none⟩)] W (NewR W cur')):=fun W hb=>⟨(zyt w2.heap.size W J hs' cur' (HJ9.out.1.on hb)).mono fun e w' h=>h.f.r,(zyt w2.heap.size W L hs' cur' (HJ9.out.2.on hb)).mono fun e w' h=>h.f.r⟩;clear bb
  (go_wp2_with fail);refine(KP.out _ HBb.out).1.mono ?_;rintro e wc ⟨A3,c3,rfl,hc3,hm3,hp3,_,bc⟩;have HP3:=aP (And.intro hc3 (And.intro hm3 hp3));have HBc:=aP (zd HBb.out bc HBb.out.size);clear bc hc3 hm3 hp3
  (go_wp2_with fail);refine(KP.out _ HBc.out).2.mono ?_;rintro e wd ⟨A4,c4,rfl,hc4,hm4,hp4,_,bd⟩;have HP4:=aP (And.intro hc4 (And.intro hm4 (And.intro hp4 (HP3.out.2.2.on bd))));have HBd:=aP (zd HBc.out bd HBc.out.size);clear bd hc4 hm4 hp4 HBc;have K22:Hid (Calls prog 22 #[.slice A3 cur'.length c3,.slice A4 cur'.length c4] wd fun e w'=>e=.returned (.bool true)/\Below wd.heap.size wd w'):=(zD4 A3 cur' c3 A4 cur' c4 wd HP4.out.2.2.2 HP3.out.1 HP3.out.2.1 HP4.out.2.2.1).mono fun e w' h=>⟨h.1.trans (by simp),h.2⟩
  (go_wp2_with fail);refine K22.out.mono ?_;rintro e we ⟨rfl,be⟩;have HBe:=aP (zd HBd.out be HBd.out.size);clear be K22 HP3 HP4 HBd x1 x2 x3 x4 x5 y1 y2 y3 y4 y5
  (go_upto_region 13 with fail);obtain⟨⟨x1,x2,x3,x4,x5⟩,_⟩:=xi (zg HBe.out HO9.out.1 (aT.1 HO9.out.1).1);have HBwe:=aP (zd HBw9.out HBe.out HBw9.out.size);by_cases h0:u=0
  ·have q0:(u==0)=true:=by simpa using h0
   clear h0
   go_wp2_with fail
   all_goals
    go_ret;exact⟨rfl,HBwe.out⟩
  have q0:(u==0)=false:=by simpa using h0
  obtain⟨v3,hs3,cur3,_,RUN3⟩:=HZ.out h0;have HUP:Hid (0<u/\u<=limit/\limit<=10000):=⟨by have:=HU.out.1;omega,HU.out.1.2,HLM.out.2.1⟩;have hn9e:w2.heap.size<=we.heap.size:=aS HN9.out HBe.out.size;have HXe:Hid (we.cell? ⟨gp,0,none⟩=some (.slice A fs.length c)):=zb HX9.out HBe.out;have HOe:=aP (zg HBe.out HO9.out.1 (aT.1 HO9.out.1).1);have HLe:=aP (LOW9.out.trans (HBe.out.mono HN9.out));have KN:Hid (∀w',Below we.heap.size we w'->Calls prog 17 #[.slice AL ls.length cL] w' fun e w''=>∃J3,e=.returned (.pointer (some ⟨J3,0,none⟩))/\Below w'.heap.size w' w''/\Jr w2.heap.size w'' J3 [] ls):=fun w' hb=>(zCg w2.heap.size AL ls cL w' (aS hn9e hb.size) (HL.out.on (zd HBwe.out hb HBwe.out.size)) HP.out.2.2.2.2.2.1 HP.out.2.2.2.2.2.2.1 HP.out.2.2.2.2.2.2.2.1).mono fun e w'' h=>by
   obtain⟨b,⟨hr,_⟩|⟨_,J3,rfl,_,hj,_⟩⟩:=h
   ·exact absurd HR.out hr
   ·exact⟨J3,rfl,b,hj⟩
  have KR:Hid (∀w5 J3,Below we.heap.size we w5->Jr w2.heap.size w5 J3 [] ls->∀w',Below w5.heap.size w5 w'->Calls prog 19 #[.agg #[.slice A fs.length c],.string (strN name),V,.pointer (some ⟨J3,0,none⟩),.int .i64 (u-1)] w' fun e w''=>∃A6 c6,e=.returned (.agg #[.int .i64 v3.t,.int .i64 v3.n,.slice A6 v3.s.length c6,.int .i64 1,.int .i64 (u-1)])/\Mv w2.heap.size NoM w' w''/\Below w.heap.size w w''/\w''.cell? ⟨gp,0,none⟩=some (.slice A fs.length c)/\w''.cell? ⟨d7,4,none⟩=some (.int .i64 u)):=fun w5 J3 hb hj w' hb'=>by
   have hbe:=zd hb hb' hb.size;have hlow:=HLe.out.trans (hbe.mono hn9e);have hbw:=zd HBwe.out hbe HBwe.out.size;refine(@RUN3 noPrt w2.heap.size ks A c J3 w' V ⟨aS hn9e hbe.size,hj.on hb',HXw4.out.same (vL hlow)⟩ wF wo (HA.out.argx hbw HB2.out.size)).mono fun e w'' h=>?_;obtain⟨A6,c6,rfl,hm,_,_,_⟩:=h;have hl:=hlow.trans (hm.low (aS hn9e hbe.size));refine⟨A6,c6,rfl,hm,HBw4.out.trans (hl.mono HB2.out.size),?_,?_⟩
   ·rw[hl.cell (p:=⟨gp,0,none⟩) hgp];exact X4.out
   ·exact(xi (hm.kept (zg hbe HOe.out (aT.1 HOe.out).1) (by decide))).1.2.2.2.2
  have hw1:IntKind.i64.wrap (u-1)=u-1:=(zjt _).trans (xQ (by have:=HUP.out;unfold fits;omega));have HWI:=aP hw1;have HD7:Hid (gp<we.heap.size/\d7<we.heap.size/\w.heap.size<=we.heap.size):=⟨by omega,(aT.1 HOe.out).1,HBwe.out.size⟩;have HCC:Hid (∀w',Below we.heap.size we w'->w'.cell? ⟨gp,0,none⟩=some (.slice A fs.length c)/\w'.cell? ⟨d7,4,none⟩=some (.int .i64 u)):=fun w' hb=>⟨zb HXe.out hb,(xi (zg hb HOe.out (aT.1 HOe.out).1)).1.2.2.2.2⟩;have hbl:=Below.refl we.heap.size we;clear h0 RUN3 hn9e HZ;(go_upto_region 15 with fail);clear x1 x2 x3 x4 x5 q0
  go_region_held3(fun w'=>w'.cell? ⟨gp,0,none⟩=some (.slice A fs.length c)/\w'.cell? ⟨d7,4,none⟩=some (.int .i64 u))
   (first
    | (with_reducible exact HXR.out)
    | (with_reducible exact⟨zb HXR.out.1 (za _ _),zb HXR.out.2 (za _ _)⟩)
    | (with_reducible exact⟨zEr HXR.out.1 HG6.out.1,zEr HXR.out.2 HG6.out.2.1⟩)
    | (with_reducible exact HCC.out _ hbl)
    | (with_reducible exact HCC.out _ hbl.drew)
    | (with_reducible exact HCC.out _ (hbl.alloc hbl.size _))
    | (with_reducible exact HCC.out _ (hbl.alloc hbl.size _).drew))
   (first
    | (go_at_call 17;refine(KN.out _ (by first|exact hbl|exact hbl.drew|exact hbl.alloc hbl.size _|exact(hbl.alloc hbl.size _).drew)).mono ?_;rintro e w5 ⟨J3,rfl,b5,hj5⟩;(first|(replace hbl:=zd hbl.drew b5 hbl.size)|(have HZ5:Hid (w5.heap[we.heap.size]? =some zO44):=zg b5 (ye we zO44) (by simp);replace hbl:=zd (hbl.alloc hbl.size zO44).drew b5 (hbl.alloc hbl.size zO44).size));have HJ5:=aP hj5;clear b5 hj5)
    | (go_at_call 19;refine(KR.out w5 J3 hbl HJ5.out _ (by first|exact Below.refl _ _|exact(Below.refl _ _).drew|exact za _ _|exact(za _ _).drew)).mono ?_;rintro e w6 ⟨A6,c6,rfl,hm6,hb6,hc6⟩;have HXR:=aP hc6;have HB6:=aP hb6;(first|(have HZ6:=hm6.kept HZ5.out (by decide);have HG6:Hid (gp≠we.heap.size/\d7≠we.heap.size/\w.heap.size<=we.heap.size):=⟨by have:=HD7.out;omega,by have:=HD7.out;omega,HD7.out.2.2⟩;obtain⟨⟨d0,d1,d2,d3,d4⟩,f0,f1,f2,f3,f4⟩:=xi HZ6)|(have HZ6:=hm6.kept (ye w5 zO44) (by decide);have HG6:Hid (gp≠w5.heap.size/\d7≠w5.heap.size/\w.heap.size<=w5.heap.size):=⟨by have:=HD7.out;have:=hbl.size;omega,by have:=HD7.out;have:=hbl.size;omega,aS HD7.out.2.2 hbl.size⟩;obtain⟨⟨d0,d1,d2,d3,d4⟩,f0,f1,f2,f3,f4⟩:=xi HZ6)|skip);(try replace HZ6:=aP HZ6);clear hm6 hb6 hc6))
  all_goals
   first
    | (have hS:=zha HZ6.out v3.t v3.n (.slice A6 v3.s.length c6) 1 (u-1)
       have XB:=aP hS.here;have XU:=aP (zEr (v0:=.int .i64 v3.t) (v1:=.int .i64 v3.n) (v2:=.slice A6 v3.s.length c6) (v3:=.int .i64 1) (v4:=.int .i64 (u-1)) HXR.out.2 HG6.out.2.1);have HBW:Hid (Below w.heap.size w _):=HB6.out.trans (hS.below HG6.out.2.2)
       clear hS d0 d1 d2 d3 d4 f0 f1 f2 f3 f4)
    | (have XB:=aP (ye w6 (oC v3.t v3.n (.slice A6 v3.s.length c6) 1 (u-1)))
       have XU:=aP (zb HXR.out.2 (za w6 (oC v3.t v3.n (.slice A6 v3.s.length c6) 1 (u-1))))
       have HBW:Hid (Below w.heap.size w _):=zd HB6.out (za w6 (oC v3.t v3.n (.slice A6 v3.s.length c6) 1 (u-1))) HB6.out.size)
   obtain⟨⟨z0,z1,z2,z3,z4⟩,_⟩:=xi XB.out;have zu:=XU.out;have hw2:wrap64 (u-1)=u-1:=xQ (by have:=HUP.out;unfold fits;omega);clear HXR HB6;go_wp2;go_ret;exact⟨by simp,HBW.out⟩
end
section
open Go.ChangeShapes Go.WideShapes Go.ChangeAt Go.RowKit
def own:ownKnob prog.godebug=none:=by kernel_rfl
def zxr:laidOutB prog=true:=by kernel_rfl
def zr0:prog.cellsOf 9=1:=by kernel_rfl
def zxw:prog.bytesOf 5=1:=by kernel_rfl
def ztk:prog.globalNamed "covenant/token.keywords" =some 1:=by kernel_rfl
def zt2:(prog.globals[1]?).map (·.type)=some 247:=by kernel_rfl
def zuk:prog.globalNamed "covenant/token.signs" =some 2:=by kernel_rfl
def zs4:(prog.globals[2]?).map (·.type)=some 248:=by kernel_rfl
abbrev zeu:List (String×DataW Unit):=[("covenant/token.keywords",Rows.laid_covenant_token_keywords),("covenant/token.signs",Rows.laid_covenant_token_signs)]
def litS(s:List Nat):DataW Unit:=.lit (.string (s.map UInt8.ofNat))
def zi7:(Rows.laid_covenant_token_keywords:DataW Unit)=.agg (xV.map litS):=by kernel_rfl
def zh6:(Rows.laid_covenant_token_signs:DataW Unit)=.agg (xU.map litS):=by kernel_rfl
def zg2(os:Os)(args:Array Value):laidMetH prog zeu ((World.doorLaid prog 400 os).forCall (fun _ _=>0) ⟨#[],args,[]⟩).memory:=
 laidMetH_of_parts3 (fuel:=8) (laidMet_of_run' 8 (by kernel_rfl) (by kernel_rfl)) (by kernel_rfl) (by kernel_rfl)
def ziu{s:ByteArray}(h:(DataW.lit (.string s.data.toList):DataW Unit)=litS l):s=strN l:=by
 have h1:s.data.toList=l.map UInt8.ofNat:=by
  simpa[litS]using h
 apply ByteArray.ext;rw[xr,<- h1]
def wE{nm:String}{t:TypeId}{cs:Array Value}{f:Nat}{q:List MemPlace}{L:List (List Nat)}{d:DataW Unit}{b0:Nat}{en:TypeId×Value->Unit}{sp:Nat->Bool}{hl:Bool}
  (hg:prog.globalNamed nm=some g) (hv:W.var? prog nm=some cs) (ht:prog.underlying t=some (.array n 9)) (hd:DataW.trod en prog W b0 sp hl f t cs.toList=some (d,q)) (hL:d=.agg (L.map litS)) (hn:L.length=n) :
  W.rangeAt g 0 (L.map strV):=by
 obtain⟨xs,m1,rfl,hx1,hlen,hxn,hel⟩:=DataW.trod_array ht hd;simp only[Prod.mk.injEq]at hx1;rw[hL]at hx1;have hagg:L.map litS=xs.map (fun x=>x.fst):=by
  have:=hx1.1;injection this
 intro k v hk;rw[Nat.zero_add,World.var?_cell hg hv k];obtain⟨s,hs,rfl⟩:∃s,L[k]? =some s/\strV s=v:=by
  rw[List.getElem?_map]at hk;cases hL:L[k]? with
  | none=>rw[hL]at hk;simp at hk
  | some s=>rw[hL]at hk;exact⟨s,rfl,by simpa using hk⟩
 have hkn:k<n:=by rw[<- hn];exact(vm.1 hs).1
 have h0:=hel k hkn;obtain⟨x,hx⟩:∃x,xs[k]? =some x:=⟨_,vp (by omega)⟩;rw[hx,zr0]at h0;obtain⟨sb,e1,e2,_⟩:=DataW.trod_string underlying9 h0;have h1:(L.map litS)[k]? =some (litS s):=by rw[List.getElem?_map,hs];rfl
 rw[hagg,List.getElem?_map,hx,e2]at h1;have h2:sb=strN s:=ziu (by simpa using h1);have h3:(cs.toList.drop (k*1))[0]? =some (.string sb):=by
  have:=congrArg (fun l:List Value=>l[0]?) e1;simpa using this
 show cs[k]? =some (.string (strN s));rw[<- h2];simpa using h3
def zwe(h:laidMetH prog zeu W):Tab W:=by
 rw[MakeChecks.laidMetH_plain _ _ _ (by kernel_rfl)]at h;obtain⟨ps,⟨g0,t0,cs0,f0,p0,q0,hg0,ht0,hv0,hd0,hrest,_⟩,_,_⟩:=h;obtain⟨g1,t1,cs1,f1,p1,q1,hg1,ht1,hv1,hd1,_,_⟩:=hrest;obtain rfl:=Option.some.inj (ztk.symm.trans hg0);obtain rfl:=Option.some.inj (zt2.symm.trans ht0);obtain rfl:=Option.some.inj (zuk.symm.trans hg1);obtain rfl:=Option.some.inj (zs4.symm.trans ht1);have r0:=wE hg0 hv0 underlying247 hd0 zi7 rfl;have r1:=wE hg1 hv1 underlying248 hd1 zh6 rfl;exact⟨wW W _ (r1 0 _ rfl),r0,r1⟩
def zyx{n:Int}(h:(Lit.int .u8 n).wf=true):0<=n/\n<256:=by
 have:=bounds_u8 h;omega
section
variable {H:Type} {enc:TypeId×Value->H} {P:Program} {w:World} {base:Nat} {held:Bool} {d:DataW H} {ps:List MemPlace} {ts:List TypeId} {ds:List (DataW H)}
def zxe{a:Addr}{len cap:Nat}{zs:List Int}(hl:len<=cap)(hz:zs.length=cap)(hc:∀i,i<cap->w.cell? (a.add i)=some (.int .u8 (zs.getD i 0))):Lies w w.heap.size (some a) cap (zA (zs.take len)):=by
 refine⟨(fun e=>by cases e),fun j u hu=>?_⟩;have hj:j<len:=by
  have:=(vm.1 hu).1;simp at this;omega
 have hcj:=hc j (by omega);refine⟨a,rfl,by have:=wW w _ hcj;rwa [qh]at this,?_⟩;rw[hcj];have:zs[j]? =some zs[j]:=vp (by omega);simp[hj,this]at hu;simp[List.getD,this,hu]
def zxl{t e:TypeId}{a:Option Addr}{len cap:Nat}(ht:P.underlying t=some (.slice e))(he:P.underlying e=some (.int .u8))(hc:P.cellsOf e=1)
  (h:DataW.Trod enc P w base (fun _=>true) held t (.slice a len cap) d ps) :
  ∃s:List Int,s.length=len/\len<=cap/\cap<=maxLen/\Byt s/\Lies w w.heap.size a cap (zA s):=by
 obtain⟨fuel,hf⟩:=h;rcases open_ints ht he hc hf with⟨hcs,_⟩|⟨x,l,c,zs,hcs,_,hl,hm,hz,_,hcell,hwz⟩
 ·simp[Value.cells]at hcs;obtain⟨rfl,rfl,rfl⟩:=hcs;exact⟨[],rfl,aQ _,aJ _,Byt.nil,Lies.nothing _ _⟩
 ·simp[Value.cells]at hcs;obtain⟨rfl,rfl,rfl⟩:=hcs;have hz':zs.length=cap:=by simpa using hz
  refine⟨zs.take len,by simp;omega,hl,hm,fun b hb=>zyx (hwz b (List.mem_of_mem_take hb)),zxe hl hz' fun i hi=>hcell i (by omega)⟩
def zwq{t e:TypeId}{a:Option Addr}{len cap:Nat}(ht:P.underlying t=some (.slice e))(he:P.underlying e=some (.int .u8))(hc:P.cellsOf e=1)(hb:P.bytesOf e=1)
  (h:DataW.Trod enc P w base (fun _=>true) held t (.slice a len cap) d ps) (hsz:(DataW.weightsEach P ts ds).all (·<=reachBytes)=true) (h1:ts[j]? =some t) (h2:ds[j]? =some d):cap<=140737488351232:=by
 obtain⟨fuel,hf⟩:=h;rcases open_ints ht he hc hf with⟨hcs,_⟩|⟨x,l,c,zs,hcs,_,hl,hm,hz,hx,_,_⟩
 ·simp[Value.cells]at hcs;omega
 ·simp[Value.cells]at hcs;obtain⟨rfl,rfl,rfl⟩:=hcs;have hz':zs.length=cap:=by simpa using hz
  have hd:d=.slice (lits .u8 (zs.take len)) (lits .u8 (zs.drop len)):=by injection hx
  subst hd;have:=sized_slice hsz h1 h2 ht;rw[hb]at this;simp only[lits,aC,aH,aG,reachBytes]at this;omega
def zw7{t e:TypeId}{a:Option Addr}{len cap:Nat}(ht:P.underlying t=some (.slice e))(he:P.underlying e=some (.int .u8))(hc:P.cellsOf e=1)
  (h:DataW.Trod enc P w base (fun _=>true) held t (.slice a len cap) d ps) :
  ∃s:List Nat,s.length=len/\len<=cap/\cap<=maxLen/\Byn s/\Lies w w.heap.size a cap (bts s):=by
 obtain⟨s,h1,h2,h3,h4,h5⟩:=zxl ht he hc h;have hs:ints (s.map Int.toNat)=s:=by
  simp only[ints,List.map_map]
  conv=>rhs;rw[<- List.map_id s]
  refine List.map_congr_left fun x hx=>?_;have:=h4 x hx;simp;omega
 refine⟨s.map Int.toNat,by simpa using h1,h2,h3,fun b hb=>?_,?_⟩
 ·obtain⟨x,hx,rfl⟩:=List.mem_map.1 hb;have:=h4 x hx;omega
 ·unfold bts;rw[hs];exact h5
end
end
section
open Go.ChangeShapes Go.WideShapes Go.ChangeAt Go.RowKit
def zBd{α β:Type}:∀(n:Nat) (p:Nat->α->β->Prop),(∀i,i<n->∃a b,p i a b)->∃(l:List α) (ks:List β),l.length=n/\ks.length=n/\∀i a b,l[i]? =some a->ks[i]? =some b->p i a b
 | 0,_,_=>⟨[],[],rfl,rfl,fun i a b h=>by simp at h⟩
 | n+1,p,h=>by
  obtain⟨a,b,hab⟩:=h 0 (by omega);obtain⟨l,ks,h1,h2,h3⟩:=zBd n (fun i=>p (i+1)) fun i hi=>h (i+1) (by omega);refine⟨a::l,b::ks,by simp[h1],by simp[h2],fun i x y hx hy=>?_⟩;cases i with
  | zero=>
   simp at hx hy;subst hx hy;exact hab
  | succ i=>exact h3 i x y (by simpa using hx) (by simpa using hy)
def zFw{H:Type}{wt:Nat}:∀ {ds:List (DataW H)} {i:Nat} {d:DataW H},ds[i]? =some d->wt∈d.weights prog e->wt∈DataW.weightsAll prog e ds
 | [],i,d,h,_=>by simp at h
 | x::r,0,d,h,hw=>by
  simp at h;subst h;unfold DataW.weightsAll;exact List.mem_append_left _ hw
 | x::r,i+1,d,h,hw=>by
  unfold DataW.weightsAll;exact List.mem_append_right _ (zFw (i:=i) (by simpa using h) hw)
def zFk{H:Type}{wt:Nat}:∀ {ts:List TypeId} {ds:List (DataW H)} {i:Nat} {t:TypeId} {d:DataW H},ts[i]? =some t->ds[i]? =some d->wt∈d.weights prog t->wt∈DataW.weightsEach prog ts ds
 | [],_,i,t,d,h,_,_=>by simp at h
 | _::_,[],i,t,d,_,h,_=>by simp at h
 | t0::ts,d0::ds,0,t,d,h,h',hw=>by
  simp at h h';subst h h';unfold DataW.weightsEach;exact List.mem_append_left _ hw
 | t0::ts,d0::ds,i+1,t,d,h,h',hw=>by
  unfold DataW.weightsEach;exact List.mem_append_right _ (zFk (i:=i) (by simpa using h) (by simpa using h') hw)
section
variable {H:Type} {enc:TypeId×Value->H} {w:World} {sp:Nat->Bool} {hd:Bool} {M:Nat}
def zAu{t:TypeId}{fs:Array Field}(ht:prog.underlying t=some (.struct fs)){xs:List (DataW H×List MemPlace)}(hM:∀wt∈(DataW.agg (xs.map (·.1))).weights prog t,wt<=M){i:Nat}{f:Field}{y:DataW H×List MemPlace}(hf:fs[i]? =some f)(hy:xs[i]? =some y):∀wt∈y.1.weights prog f.type,wt<=M:=by
 intro wt hw;refine hM wt ?_;unfold DataW.weights;rw[ht];exact zFk (i:=i) (t:=f.type) (d:=y.1) (by simp[hf]) (by simp[hy]) hw
def zBl{t e m fuel:Nat}{cs:List Value}{x:DataW H×List MemPlace}(ht:prog.underlying t=some (.slice e))(hm:prog.cellsOf e=m)(hpos:0<m)(hM:∀wt∈x.1.weights prog t,wt<=M)(h:DataW.trod enc prog w 0 sp hd fuel t cs=some x):cs=[.slice none 0 0]\/∃(a:Addr) (len cap n:Nat),fuel=n+1/\cs=[.slice (some a) len cap]/\len<=cap/\cap<=maxLen/\len*prog.bytesOf e<=M/\∀i,i<len->∃(cs':List Value) (y:DataW H×List MemPlace),cs'.length=m/\(∀wt∈y.1.weights prog e,wt<=M)/\DataW.trod enc prog w 0 sp hd n e cs'=some y/\∀r,r<m->a.block<w.heap.size/\∃v,cs'[r]? =some v/\w.cell? (a.add (i*m+r))=some v:=by
 subst hm;rcases DataW.trod_slice ht h with⟨h0,_⟩|⟨a,len,cap,elems,rest,n,hf,hcs,hx,_,hl,hc,hlen,hel,_,_⟩
 ·exact .inl h0
 ·have hM1:∀wt∈(elems.length+rest.length)*prog.bytesOf e::(DataW.weightsAll prog e (elems.map (·.1))++DataW.weightsAll prog e (rest.map (·.1))),wt<=M:=by
   intro wt hw;refine hM wt ?_;rw[hx];unfold DataW.weights;rw[ht];simpa using hw
  refine .inr ⟨a,len,cap,n,hf,hcs,hl,hc,aS (Nat.mul_le_mul_right _ (by omega)) (hM1 _ (List.mem_cons_self ..)),fun i hi=>?_⟩;have h1:=hel i hi;have h2:elems[i]? =some (elems[i]'(by omega)):=vp (by omega);rw[h2]at h1;cases hcc:w.cells? 0 (a.add (i*prog.cellsOf e)) (prog.cellsOf e)with
  | none=>rw[hcc]at h1;cases h1
  | some cs'=>
   rw[hcc]at h1;obtain⟨_,g2,g3⟩:=World.cells?_some hcc;refine⟨cs',_,g2,fun wt hw=>hM1 wt (List.mem_cons_of_mem _ (List.mem_append_left _ (zFw (i:=i) (by rw[List.getElem?_map,h2];rfl) hw))),h1,fun r hr=>?_⟩;have g4:=g3 r hr;have g5:cs'[r]? =some (cs'[r]'(by omega)):=vp (by omega);rw[g5,Go.Deep.add_add]at g4;exact⟨by have:=wW w _ g4;rwa [qh]at this,_,g5,g4⟩
def zCy{α β:Type}{f:α->β->List Value}(hpos:0<m)(hf:∀a b,(f a b).length=m){a:Addr}{len cap:Nat}(hl:len<=cap)(hc:cap<=maxLen)(l:List α)(ks:List β)(h1:l.length=len)(h2:ks.length=len)
  (hp:∀i x k,l[i]? =some x->ks[i]? =some k->∀r v,(f x k)[r]? =some v->a.block<w.heap.size/\w.cell? (a.add (i*m+r))=some v):RowF w (Lo w.heap.size) len (List.zipWith f l ks).flatten (.slice (some a) len cap):=by
 refine⟨_,_,rfl,hl,hc,(fun e=>by cases e),fun j u hu=>⟨a,rfl,?_⟩⟩;have hlen:(List.zipWith f l ks).flatten.length=len*m:=by
  rw[List.length_flatten,List.map_zipWith];have:(List.zipWith (fun a b=>(f a b).length) l ks)=List.replicate len m:=by
   apply List.ext_getElem?;intro i;rw[List.getElem?_zipWith,List.getElem?_replicate];by_cases hi:i<len
   ·rw[if_pos hi,vp (by omega),vp (by omega)];simp[hf]
   ·rw[if_neg hi,List.getElem?_eq_none (by omega)]
  rw[this];simp
 have hj:j<len*m:=by
  have:=(vm.1 hu).1;omega
 have hi:j / m<len:=Nat.div_lt_of_lt_mul (by rw[Nat.mul_comm];exact hj);have hr:j % m<m:=Nat.mod_lt _ hpos;have he:j=j / m*m+j % m:=by rw[Nat.mul_comm];exact(Nat.div_add_mod j m).symm
 obtain⟨x,hx⟩:∃x,l[j / m]? =some x:=⟨_,vp (by omega)⟩;obtain⟨k,hk⟩:∃k,ks[j / m]? =some k:=⟨_,vp (by omega)⟩;have hz:=zCa hf l ks (j / m) (j % m) x k hx hk hr;rw[<- he,hu]at hz;have:=hp _ x k hx hk _ u hz.symm;rw[<- he]at this;exact this
def zCx{t n:Nat}{v:Value}{y:DataW H×List MemPlace}(ht:prog.underlying t=some (.int .i64))(h:DataW.trod enc prog w 0 sp hd n t [v]=some y):∃k,v=.int .i64 k:=by
 obtain⟨k,e,_,_⟩:=DataW.trod_int ht h;simp at e;exact⟨k,e⟩
def zA4{α:Type}{l:List α}(h:l.length=n)(hi:i<n):∃a,l[i]? =some a:=⟨_,vp (by omega)⟩
end
end
section
open Go.ChangeShapes Go.WideShapes Go.ChangeAt Go.RowKit Go.Deep
def zCz:prog.bytesOf 119=48:=by kernel_rfl
def zGh:prog.cellsOf 22=1:=by kernel_rfl
def zBk:prog.cellsOf 119=2:=by kernel_rfl
def zDm:prog.cellsOf 41=3:=by kernel_rfl
def xc2:prog.cellsOf 2=1:=by kernel_rfl
def xc39:prog.cellsOf 39=1:=by kernel_rfl
section
variable {H:Type} {enc:TypeId×Value->H} {w:World} {base:Nat} {held:Bool} {d:DataW H} {ps:List MemPlace} {ts:List TypeId} {ds:List (DataW H)}
def zEd{v:Value}{x:DataW H×List MemPlace}(h:DataW.trod enc prog w base (fun _=>true) held n 22 [v]=some x):∃s,SB w w.heap.size v s:=by
 rcases open_ints underlying22 underlying5 zxj h with⟨hcs,_⟩|⟨x,l,c,zs,hcs,_,hl,hm,hz,_,hcell,hwz⟩
 ·injection hcs with hcs _
  subst hcs;exact⟨[],SB.nil _ _⟩
 ·injection hcs with hcs _
  subst hcs;have hz':zs.length=c:=by simpa using hz
  have hlen:(zs.take l).length=l:=by rw[aH];omega
  exact⟨zs.take l,some x,c,by rw[hlen],by omega,hm,zxe hl hz' fun i hi=>hcell i (by omega),fun b hb=>zyx (hwz b (List.mem_of_mem_take hb))⟩
def zDd{a:Addr}(cap:Nat)(V0 V1:Nat->Value)(q:Nat->PR)(hB:a.block<B):∀len,
  (∀i,i<len->w.cell? (a.add (i*2))=some (V0 i)/\w.cell? (a.add (i*2+1))=some (V1 i)/\SB w B (V0 i) (q i).1/\SB w B (V1 i) (q i).2)->Prs w B (some a) cap ((List.range len).map q)
 | 0,_=>⟨[],⟨(fun e=>by cases e),fun j u hu=>by simp at hu⟩,.nil⟩
 | len+1,h=>by
  obtain⟨vs,h1,h2⟩:=zDd cap V0 V1 q hB len fun i hi=>h i (by omega);obtain⟨g1,g2,g3,g4⟩:=h len (by omega);have hl:=h2.len;simp at hl;rw[List.range_succ,List.map_append];refine⟨vs++[V0 len,V1 len],⟨(fun e=>by cases e),fun j u hu=>?_⟩,h2.append (.cons g3 g4 .nil)⟩;rcases Nat.lt_or_ge j vs.length with hj|hj
  ·rw[aE hj]at hu;exact h1.2 j u hu
  ·rw[aF hj]at hu;refine⟨a,rfl,hB,?_⟩
   match hk:j-vs.length,hu with
   | 0,hu=>
    simp at hu;rw[show j=len*2 by omega,g1,hu]
   | 1,hu=>
    simp at hu;rw[show j=len*2+1 by omega,g2,hu]
def zBo{a:Option Addr}{len cap:Nat}(h:DataW.Trod enc prog w base (fun _=>true) held 33 (.slice a len cap) d ps):∃ls:List PR,ls.length=len/\len<=cap/\cap<=maxLen/\Prs w w.heap.size a cap ls:=by
 obtain⟨fuel,hf⟩:=h;rcases open_slice_pairs underlying33 underlying119 zBk rfl rfl zGh zGh hf with⟨hcs,_⟩|⟨x,l,c,m,n,V0,V1,D0,D1,P0,P1,hcs,_,hl,hm,hmm,_,hrow⟩
 ·simp[Value.cells]at hcs;obtain⟨rfl,rfl,rfl⟩:=hcs;exact⟨[],rfl,aQ _,aJ _,Prs.nothing _ _⟩
 ·simp[Value.cells]at hcs;obtain⟨rfl,rfl,rfl⟩:=hcs;have hmc:m=cap:=by simpa using hmm
  subst hmc;have each:∀i,i<len->∃q:PR,SB w w.heap.size (V0 i) q.1/\SB w w.heap.size (V1 i) q.2:=fun i hi=>by
   obtain⟨_,_,t0,t1⟩:=hrow i (by omega);obtain⟨s0,g0⟩:=zEd t0;obtain⟨s1,g1⟩:=zEd t1;exact⟨(s0,s1),g0,g1⟩
  obtain⟨q,hq⟩:=choose_lt each;refine⟨(List.range len).map q,by simp,hl,hm,?_⟩;by_cases h0:len=0
  ·subst h0;exact⟨[],⟨(fun e=>by cases e),fun j u hu=>by simp at hu⟩,.nil⟩
  ·have hb:x.block<w.heap.size:=by
    have:=wW w _ (hrow 0 (by omega)).1
    rwa [qh]at this
   exact zDd _ V0 V1 q hb len fun i hi=>⟨(hrow i (by omega)).1,(hrow i (by omega)).2.1,(hq i hi).1,(hq i hi).2⟩
def zA1{a:Option Addr}{len cap:Nat}(h:DataW.Trod enc prog w base (fun _=>true) held 33 (.slice a len cap) d ps)(hsz:(DataW.weightsEach prog ts ds).all (·<=reachBytes)=true)(h1:ts[j]? =some 33)(h2:ds[j]? =some d):len<=2932031007402:=by
 obtain⟨fuel,hf⟩:=h;rcases open_slice_pairs underlying33 underlying119 zBk rfl rfl zGh zGh hf with⟨hcs,_⟩|⟨x,l,c,m,n,V0,V1,D0,D1,P0,P1,hcs,_,hl,hm,hmm,hx,hrow⟩
 ·simp[Value.cells]at hcs;omega
 ·simp[Value.cells]at hcs;obtain⟨rfl,rfl,rfl⟩:=hcs;injection hx with hd _
  subst hd;have:=sized_slice hsz h1 h2 underlying33;rw[zCz]at this;simp only[aC,List.length_range,reachBytes]at this;omega
end
section
variable {H:Type} {enc:TypeId×Value->H} {w:World} {hd:Bool} {M:Nat}
def zCd{v:Value}{y:DataW H×List MemPlace}(hM:∀wt∈y.1.weights prog 22,wt<=M)(h:DataW.trod enc prog w 0 (fun _=>true) hd n 22 [v]=some y):∃s,SB w w.heap.size v s/\s.length<=M:=by
 have hr:=zBl underlying22 zxj (by omega) hM h;rcases open_ints underlying22 underlying5 zxj h with⟨hcs,_⟩|⟨x,l,c,zs,hcs,_,hl,hm,hz,_,hcell,hwz⟩
 ·injection hcs with hcs _
  subst hcs;exact⟨[],SB.nil _ _,aJ _⟩
 ·injection hcs with hcs _
  subst hcs;have hz':zs.length=c:=by simpa using hz
  have hlen:(zs.take l).length=l:=by rw[aH];omega
  refine⟨zs.take l,⟨some x,c,by rw[hlen],by omega,hm,zxe hl hz' fun i hi=>hcell i (by omega),fun b hb=>zyx (hwz b (List.mem_of_mem_take hb))⟩,?_⟩;rcases hr with h0|⟨a,len,cap,n',_,h1,_,_,h2,_⟩
  ·simp at h0
  ·simp at h1;obtain⟨_,h3,_⟩:=h1;rw[zxw]at h2;omega
def zC8{v:Value}{y:DataW H×List MemPlace}(h:DataW.trod enc prog w 0 (fun _=>true) hd n 2 [v]=some y):∃k,v=.int .i64 k/\fits k:=by
 obtain⟨k,e,_,wk⟩:=DataW.trod_int underlying2 h;simp at e;exact⟨k,e,bounds_i64 wk⟩
def zEh{cs:List Value}(h:cs.length=3):∃a b c,cs=[a,b,c]:=by
 match cs,h with
 | [a,b,c],_=>exact⟨a,b,c,rfl⟩
def zCo{fuel:Nat}{cs:List Value}{x:DataW H×List MemPlace}(hM:∀wt∈x.1.weights prog 32,wt<=M)(h:DataW.trod enc prog w 0 (fun _=>true) hd fuel 32 cs=some x):∃(vs:List Va) (ks:List Value) (V:Value),cs=[V]/\ks.length=vs.length/\RowF w (Lo w.heap.size) vs.length (vasC vs ks) V/\∀(i:Nat) (v:Va) (k:Value),vs[i]? =some v->ks[i]? =some k->SB w w.heap.size k v.s/\fits v.n/\v.s.length<=M:=by
 rcases zBl underlying32 zDm (by omega) hM h with rfl|⟨a,len,cap,n,rfl,rfl,hl,hc,hby,hel⟩
 ·exact⟨[],[],_,rfl,rfl,⟨none,0,rfl,aQ _,aJ _,fun _=>rfl,fun j u h=>by simp[vasC]at h⟩,fun i v k h=>by simp at h⟩
 ·obtain⟨l,ks,h1,h2,h3⟩:=zBd len (fun i (v:Va) (k:Value)=>(SB w w.heap.size k v.s/\fits v.n/\v.s.length<=M)/\∀r u,(vaC v k)[r]? =some u->a.block<w.heap.size/\w.cell? (a.add (i*3+r))=some u) (by
   intro i hi;obtain⟨cs',y,g1,gM,g2,g3⟩:=hel i hi;obtain⟨c0,c1,c2,rfl⟩:=zEh g1;obtain⟨ys,n',hn',hyx,_,hys,hfs⟩:=DataW.trod_struct underlying41 g2;rw[hyx]at gM;obtain⟨y0,e0⟩:=zA4 hys (i:=0) (by decide);obtain⟨y1,e1⟩:=zA4 hys (i:=1) (by decide);obtain⟨y2,e2⟩:=zA4 hys (i:=2) (by decide);have f0:=hfs 0 _ rfl;have f1:=hfs 1 _ rfl;have f2:=hfs 2 _ rfl;simp[xc2,xc39,zGh,e0,e1,e2]at f0 f1 f2;obtain⟨tt,rfl⟩:=zCx underlying39 f0;obtain⟨num,rfl,hn⟩:=zC8 f1;obtain⟨s,hs,hsM⟩:=zCd (zAu underlying41 gM (i:=2) rfl e2) f2;refine⟨⟨tt,num,s⟩,c2,⟨hs,hn,hsM⟩,fun r v hv=>?_⟩;have hr:r<3:=by have:=(vm.1 hv).1;simpa[vaC]using this
   obtain⟨q1,v',q2,q3⟩:=g3 r hr;have:v'=v:=Option.some.inj (q2.symm.trans hv);subst this
   exact⟨q1,q3⟩)
  subst h1;exact⟨l,ks,_,rfl,h2,zCy (f:=vaC) (m:=3) (by omega) (fun _ _=>rfl) hl hc l ks rfl h2 fun i x k hx hk r v hv=>(h3 i x k hx hk).2 r v hv,fun i v k hv hk=>(h3 i v k hv hk).1⟩
end
end
section
open Go.ChangeShapes Go.WideShapes Go.ChangeAt Go.RowKit
def zCb{H:Type}{enc:TypeId×Value->H}{hd:Bool}{M:Nat}{a:Option Addr}{len cap:Nat}{d:DataW H}{ps:List MemPlace}(hM:∀wt∈d.weights prog 32,wt<=M)(h:DataW.Trod enc prog w 0 (fun _=>true) hd 32 (.slice a len cap) d ps):∃vs,RawA w (.slice a len cap) vs:=by
 obtain⟨fuel,hf⟩:=h;obtain⟨vs,ks,V,e,k1,k2,k3⟩:=zCo (x:=(d,ps)) hM hf;have e:V=.slice a len cap:=by
  simp[Value.cells]at e;exact e.symm
 subst e;exact⟨vs,ks,k1,k2,fun i v k a b=>⟨(k3 i v k a b).1,(k3 i v k a b).2.1⟩⟩
end
section
open Go Go.ChangeShapes Go.WideShapes
def zEq:(Rows.evalGasRow.inPlace==prog.inPlace 6)=true:=by kernel_rfl
def zEo:(Rows.evalGasRow.unfollowed==prog.unfollowed 6)=true:=by kernel_rfl
def zEp:(Rows.evalGasRow.recurses==prog.recurses 6)=true:=by kernel_rfl
def zEw:(Rows.evalGasRow.named==prog.varsNamed 6)=true:=by kernel_rfl
def zEy:laidOutB prog=true:=by kernel_rfl
def zEu:mapsRowed prog=true:=by kernel_rfl
def zEv:joinedFacts prog 6 Tryz.f6 Rows.evalGasSpec Rows.evalGasRow=true:=by
 unfold joinedFacts;rw[zEq,zEo,zEp,zEw,zEy,zEu]
 kernel_rfl
def zE2:OpenClaim.wfByText (OpenSpec.ofChange Rows.evalGasSpec) Rows.evalGasRow=true:=by kernel_rfl
def zE3:prog.funcNamed "covenant/covenantlaw10.EvalGas" =some 6:=by kernel_rfl
def zEt:([22,9,32,33,2,55].all fun u=>!prog.wantsStandIn u)=true:=by kernel_rfl
def zEx:false=Rows.evalGasRow.goesBy Tryz.pinned.checked.prog:=by kernel_rfl
end
section
open Go
def zdw:Tryz.pinned.checked.prog.mainIs=some (true,"20a4b8f10f3facb4eddfb4da623dd329809a1f4fa6d99b0aa5301608ddedb87d".toList):=by kernel_rfl
def zbs:true=Tryz.pinned.checked.prog.looks []:=by kernel_rfl
end
end Go.Proofs.YtcilgkdnjgmogaaGreatDoor
