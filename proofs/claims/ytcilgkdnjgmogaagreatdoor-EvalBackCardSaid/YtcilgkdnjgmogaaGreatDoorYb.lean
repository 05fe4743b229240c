/- A part of the proof. -/
import Derived.Test.YtcilgkdnjgmogaaGreatDoorYa
import Derived.Deep.RegionHeld2
import Derived.Test.YtcilgkdnjgmogaaGreatDoorYV
namespace Go.Proofs.YtcilgkdnjgmogaaGreatDoor
open Go.Proofs.Tryz
set_option maxRecDepth 100000
set_option maxHeartbeats 12800000
set_option linter.all false
variable {d:Nat} {s:List Nat} {w:World}
section
section
open Go.RowKit Go.Shelf
attribute [local go_sem] Oper.semAt_some
def znf(n0:Nat)(w:World)(J:Nat)(hs:List (List PR))(cur:List PR)(h:Jr n0 w J hs cur)(m:Nat)(hm:m<=hs.length)(res:List PR)(hres:(hs++[cur])[m]? =some res)(hcond:∀R cr,w.cell? ⟨J,1,none⟩=some (.slice R hs.length cr)->cr=m):Calls prog 46 #[.pointer (some ⟨J,0,none⟩),.int .i64 m] w fun e w'=>e=.returned (.int .i64 0)/\Chd n0 J w (hs.take m) res w':=by
 have H:=aQ h;obtain⟨A,c,R,cr,fs,Fs,h1,h2,h3,h4,h5,h7,h8,h9,h10⟩:=h.ex;obtain⟨g0,g1,g2,g3⟩:=kO h1;obtain⟨_,_,e,q1,q2,q3⟩:=xG h5.1;injection e with e _ e'
 subst e e';have hcm:=hcond R cr g1;clear hcond;have hlen:=h.len;have hm':(m:Int)<=(hs.length:Int):=by omega
 have HM:Hid (∀W,Below w.heap.size w W->Calls prog 27 #[.pointer (some ⟨J,0,none⟩)] W fun e w'=>e=.returned (.int .i64 hs.length)/\W=w'):=fun W hb=>zpu n0 W J hs cur (H.out.on hb);have HB0:=aQ (za w (.cells #[.pointer (some ⟨J,0,none⟩)] 35));have hjl:=h.sp.lt;have hfl:fs.length=hs.length:=by have:=h5.1.1;omega
 unfold maxLen at q2;have f1:m<=cr:=by omega
 have hn0:¬((m:Int)<0):=by omega
 have HD:Hid (w.heap[J]? =some (.cells #[.slice A cur.length c,.slice R hs.length cr] 92 (0,0))/\cur.length<=c/\c<=maxLen/\PrsX n0 w A c cur/\Rws n0 w 154 (.slice R hs.length cr) hs.length fs/\Fs.length=hs.length/\(∀(i:Nat) (f:Value) (F:List PR->List PR),fs[i]? =some f->Fs[i]? =some F->Acts n0 w f F)/\(∀F∈Fs,Mild F)/\zas (hs++[cur]) Fs):=⟨h1,h2,h3,h4,h5,h7,h8,h9,h10⟩;have HRES:Hid (m<=hs.length/\(hs++[cur])[m]? =some res):=⟨hm,hres⟩;clear h h1 h2 h3 h4 h5 h7 h8 h9 h10 q3 hres;refine(callsIn_wide (n:=5)).1 ?_;refine callsIn_of_wp_marks func46 rfl trivial ?_ rfl;simp only[ntmps46,List.size_toArray,aB,List.length_nil,Nat.reduceAdd,Nat.reduceSub,Array.replicate_succ,Array.replicate_zero,List.push_toArray,List.append_toArray,List.nil_append,List.cons_append];refine wpIn_wide.2 ?_;obtain rfl:m=hs.length:=by omega
 subst hcm
 go_wp2_with(first|(go_at_call 27;refine(HM.out _ HB0.out).mono ?_;rintro e w' ⟨rfl,rfl⟩)|(go_at_call 80;refine(zed _ _ _ _).mono ?_;rintro e w' ⟨rfl,rfl⟩))
 have hb2:=za (w.alloc (.cells #[.pointer (some ⟨J,0,none⟩)] 35)) (.cells #[.slice R 0 0] 90);obtain⟨w1,hw1⟩:∃w1,w1=(w.alloc (.cells #[.pointer (some ⟨J,0,none⟩)] 35)).alloc (.cells #[.slice R 0 0] 90):=⟨_,rfl⟩;have hbox:w1.heap[w.heap.size]? =some (.cells #[.pointer (some ⟨J,0,none⟩)] 35 (0,0)):=by
  rw[hw1,hb2.block _ (by simp)];exact ye w _
 have hbs:w1.heap[w.heap.size+1]? =some (.cells #[.slice R 0 0] 90 (0,0)):=by
  have:=ye (w.alloc (.cells #[.pointer (some ⟨J,0,none⟩)] 35)) (.cells #[.slice R 0 0] 90);rw[aE]at this;rw[hw1];exact this
 have hsz1:w1.heap.size=w.heap.size+2:=by rw[hw1];simp
 have hB1:Below w.heap.size w w1:=by rw[hw1];exact HB0.out.trans (hb2.mono HB0.out.size)
 rw[<- hw1];clear hb2 hw1;have HB1:Hid (Below w.heap.size w w1/\w1.heap.size=w.heap.size+2/\w1.heap[w.heap.size]? =some (.cells #[.pointer (some ⟨J,0,none⟩)] 35 (0,0))/\w1.heap[w.heap.size+1]? =some (.cells #[.slice R 0 0] 90 (0,0))):=⟨hB1,hsz1,hbox,hbs⟩;have hgl:(fs.drop hs.length).length=0:=by rw[aH,hfl];omega
 have hgb:w1.cell? ⟨w.heap.size+1,0,none⟩=some (.slice R (fs.drop hs.length).length 0):=by rw[hgl];simp[World.cell?,hbs]
 have HC:Hid (∀j,j<(fs.drop hs.length).length->∃g o,R=some ⟨g,o,none⟩/\(g=w.heap.size+1\/(Value.slice R hs.length hs.length).ownBlock=some g)/\w1.cell? ⟨g,o+j,none⟩=some ((fs.drop hs.length).getD j lv)):=by
  intro j hj;rw[hgl]at hj;omega
 have HDl:Hid (∀b,(b=w.heap.size+1\/(Value.slice R hs.length hs.length).ownBlock=some b)->b<w1.heap.size/\b≠J):=by
  rintro b (rfl|hb)
  ·exact⟨by omega,by omega⟩
  ·have:=(HD.out.2.2.2.2.1.1.lt b hb).2;refine⟨by omega,?_⟩;obtain⟨cs,ht⟩:=HD.out.2.2.2.2.1.tag hb;exact jV ht HD.out.1 (by decide)
 have HSM:Hid (∀pre:List Nat,pre.length<=50000->Sm8 100000 (back (Fs.drop hs.length) cur pre)):=fun pre hp=>by
  have:=zfi (Fs:=Fs.drop hs.length) (fun F hF=>HD.out.2.2.2.2.2.2.2.1 F (List.mem_of_mem_drop hF)) (r:=256) (is:=pre) (cur:=cur) (zgq H.out.cur);exact this.more (by omega)
 have HACT:Hid (∀x W,Off n0 w1 W->Acts n0 W ((fs.drop hs.length).getD x lv) ((Fs.drop hs.length).getD x id)):=fun x W ho=>by
  rw[List.getD,List.getD,List.getElem?_drop,List.getElem?_drop];rcases Nat.lt_or_ge (hs.length+x) fs.length with hlt|hge
  ·rw[vp hlt,vp (by have:=HD.out.2.2.2.2.2.1;omega)];exact(HD.out.2.2.2.2.2.2.1 _ _ _ (vp hlt) (vp (by have:=HD.out.2.2.2.2.2.1;omega))).off ((Off.of HB1.out.1).trans ho)
  ·rw[List.getElem?_eq_none hge,List.getElem?_eq_none (by have:=HD.out.2.2.2.2.2.1;omega)];exact yl n0 W
 have hst:=zbh (5-1) (by omega) (w.heap.size+1) (fun b=>b=w.heap.size+1\/(Value.slice R hs.length hs.length).ownBlock=some b) R 0 (fs.drop hs.length) (by omega) w1 hgb (.inl rfl) (fun b hb=>(HDl.out b hb).1) HC.out;refine(wpIn_wide (n:=5)).1 ?_;refine wpIn_rangeFunc_ownG rfl (by omega) (gf:=129) (lb:=#[.pointer (some ⟨w.heap.size+1,0,none⟩)]) rfl trivial (enters_of func129 (by kernel_rfl) rfl) hst
  (fun h k=>KpD.t h k) (KpD.b fun b hb=>(HDl.out b hb).1) (Below.refl _ _) (fun _=>rfl)
  (za2 n0 J w1 cur (Fs.drop hs.length) (.slice R hs.length hs.length)) (fun _ _ _=>False) (za2.own (by have:=H.out.hJ;omega) (by omega)) (fun _ _ _ _ _ hs _ _=>hs)
  ⟨.refl _ _,fun _ _ _=>rfl,A,c,by rw[HB1.out.1.block J hjl];exact HD.out.1,HD.out.2.1,HD.out.2.2.1,HD.out.2.2.2.1.on HB1.out.1⟩
  (fun x=>{ tmps:=#[.pointer (some ⟨J,0,none⟩),.int .i64 (hs.length:Nat),.pointer (some ⟨w.heap.size,0,none⟩),undef,.int .i64 0,undef,(fs.drop hs.length).getD x lv,.int .i64 (hs.length:Nat),.bool false,.bool false,.int .i64 (hs.length:Nat),.pointer (some ⟨J,0,none⟩),.int .i64 hs.length,.bool false,.bool false,.pointer (some ⟨J,0,none⟩),.pointer (some ⟨J,0,none⟩),.pointer (some ⟨J,1,none⟩),.slice R hs.length hs.length,.int .i64 (hs.length:Nat),.slice R 0 0,.func (.func 129) #[] #[.pointer (some ⟨w.heap.size+1,0,none⟩)],.int .i64 (x:Int),(fs.drop hs.length).getD x lv,undef,undef,undef,undef,undef,undef,undef,undef,undef,undef,undef,undef,undef,undef,undef,undef,undef,undef,undef,undef],defers:=[] }) ?assign ?body ?done ?stop
 case assign=>
  intro l x W K hK;clear hst;dsimp only[encB]at hK⊢;generalize(fs.drop hs.length).getD x lv=v at hK⊢
  gi_wp2
  exact hK
 case stop=>
  rintro D c pre W _ _ h _;exact h.elim
 case body=>
  clear hst;rintro l pre x W hI hlen;obtain⟨o1,o2,A',c',k1,k2,k3,k4⟩:=hI;obtain⟨fn,lb,ef,hent,hact⟩:=HACT.out x W o1;have hsm:=HSM.out pre (by omega);have hnx:back (Fs.drop hs.length) cur (pre++[x])=((Fs.drop hs.length).getD x id) (back (Fs.drop hs.length) cur pre):=jp _ _ _ _
  have HPOST:Hid (∀a w2 A2 c2,Below W.heap.size W w2->(((Fs.drop hs.length).getD x id) (back (Fs.drop hs.length) cur pre)).length<=c2->c2<=maxLen->PrsX n0 w2 A2 c2 (((Fs.drop hs.length).getD x id) (back (Fs.drop hs.length) cur pre)) ->
    ownPostG w1.heap.size (KpD fun b=>b=w.heap.size+1\/(Value.slice R hs.length hs.length).ownBlock=some b) (za2 n0 J w1 cur (Fs.drop hs.length) (.slice R hs.length hs.length)) (fun _ _ _=>False) (pre++[x]) W .normal a (w2.setCell ⟨J,0,none⟩ (.slice A2 (((Fs.drop hs.length).getD x id) (back (Fs.drop hs.length) cur pre)).length c2))):=by
   intro a w2 A2 c2 hb j1 j2 j3;have hJ1:J<w1.heap.size:=by omega
   have hsz:w1.heap.size<=W.heap.size:=o1.size;have hk2:w2.heap[J]? =some (.cells #[.slice A' (back (Fs.drop hs.length) cur pre).length c',.slice R hs.length hs.length] 92 (0,0)):=by rw[hb.block J (by omega)];exact k1
   have hk3:=(kL hk2 (.slice A2 (((Fs.drop hs.length).getD x id) (back (Fs.drop hs.length) cur pre)).length c2)).1;have hs2:Off n0 w2 (w2.setCell ⟨J,0,none⟩ (.slice A2 (((Fs.drop hs.length).getD x id) (back (Fs.drop hs.length) cur pre)).length c2)):=Off.set2 ⟨H.out.hJ,_,92,_,hk2,.inl rfl,xR⟩ ⟨H.out.hJ,_,92,_,hk3,.inl rfl,xR⟩;refine⟨⟨by rw[qi];exact hb.size,fun k o hk1 ho hno=>?_⟩,fun b hb'=>?_,(o1.then hb).trans hs2,fun b hb' hne=>?_,A2,c2,?_,?_,j2,?_⟩
   ·rw[zf _ _ _ _ _ (by omega),hb.block k (aU.1 ho).1];exact ho
   ·obtain⟨g1,g2⟩:=HDl.out b hb';rw[zf _ _ _ _ _ g2];exact hb.block b (by omega)
   ·rw[zf _ _ _ _ _ hne,hb.block b (by omega)];exact o2 b hb' hne
   ·rw[hnx];exact hk3
   ·rw[hnx];exact j1
   ·rw[hnx];exact j3.off hs2
  have HK:Hid (Calls prog fn (#[.slice A' (back (Fs.drop hs.length) cur pre).length c']++lb) W.drew (NewX n0 W.drew (((Fs.drop hs.length).getD x id) (back (Fs.drop hs.length) cur pre)))):=
   hact W.drew (.of (Below.refl _ _).drew) A' c' _ hsm k2 k3 (k4.on (Below.refl _ _).drew)
  generalize ownPostG w1.heap.size (KpD fun b=>b=w.heap.size+1\/(Value.slice R hs.length hs.length).ownBlock=some b) (za2 n0 J w1 cur (Fs.drop hs.length) (.slice R hs.length hs.length)) (fun _ _ _=>False) (pre++[x]) W=Q at *
  have hk3:c'<=9223372036854775807:=by unfold maxLen at k3;omega
  have hcb:W.cell? ⟨w.heap.size,0,none⟩=some (.pointer (some ⟨J,0,none⟩)):=by
   rw[yp (a:=⟨w.heap.size,0,none⟩) (w:=w1) (o2 _ (by show w.heap.size<_;omega) (by show w.heap.size≠J;omega))];simp[World.cell?,HB1.out.2.2.1]
  have hsmall:=HSM;clear hnx HSM hsmall hact hsm k3 k4 o1 hlen
  generalize((Fs.drop hs.length).getD x id) (back (Fs.drop hs.length) cur pre)=nx at *
  generalize back (Fs.drop hs.length) cur pre=cu at *
  generalize(fs.drop hs.length).getD x lv=f at *
  subst ef;obtain⟨j0,j1,j2,j3⟩:=kO k1
  have HJC:Hid (∀w2,Below W.drew.heap.size W.drew w2->w2.cell? ⟨w.heap.size,0,none⟩=some (.pointer (some ⟨J,0,none⟩))/\w2.cell? ⟨J,0,none⟩=some (.slice A' cu.length c')/\w2.frozen? ⟨J,0,none⟩=false):=fun w2 hb=>
   ⟨by rw[hb.cell (p:=⟨w.heap.size,0,none⟩) (wW W _ hcb)];exact hcb,by rw[hb.cell (p:=⟨J,0,none⟩) (wW W _ j0)];exact j0,by rw[hb.frozen (p:=⟨J,0,none⟩) (wW W _ j0)];exact j2⟩
  unfold Ent at hent;have hmx:prog.follows .mixedOrders=true:=by kernel_rfl
  dsimp only;clear k1 o2 hgb hgl hbox hbs HC HDl HACT hB1 hsz1 HD HRES HM HB0 HB1 H g0 g1 g2 g3 f1 q1 q2 hfl hn0
  gi_wp2
  gi_region_with_o (refine⟨trivial,?_⟩;refine(CallsIn.inRound l (callsIn_wide.2 HK.out)).mono ?_;rintro e w2 ⟨A2,c2,rfl,p1,p2,p3,p4⟩;have HP:=aQ (HPOST.out · w2 A2 c2 ((Below.refl _ _).drew.trans p4) p1 p2 p3);obtain⟨y0,y1,y2⟩:=HJC.out w2 p4;clear p1 p2 p3 p4)
  all_goals gi_wp2
  all_goals exact HP.out _
 case done=>
  clear hst;rintro D ys W hDs rfl hI hKD;obtain⟨o1,o2,A',c',k1,k2,k3,k4⟩:=hI;have hbk:back (Fs.drop hs.length) cur (vl (fs.drop hs.length).length (fs.drop hs.length).length)=res:=by
   rw[hgl];simpa only[Nat.sub_self]using zg8 HD.out.2.2.2.2.2.2.2.2 HD.out.2.2.2.2.2.1 HRES.out.1 HRES.out.2
  rw[hbk]at k1 k2 k4;clear hbk;have hJd:J<D:=by omega
  have hDc:W.heap[D]? =some (.deferred (some [])):=hKD;have HK0:=aQ hKD;have HO1:Hid (Off n0 w1 W/\(∀b,b<w1.heap.size->b≠J->W.heap[b]? =w1.heap[b]?)/\W.heap[J]? =some (.cells #[.slice A' res.length c',.slice R hs.length hs.length] 92 (0,0))/\res.length<=c'/\c'<=maxLen/\PrsX n0 W A' c' res):=⟨o1,o2,k1,k2,k3,k4⟩;obtain⟨j0,j1,j2,j3⟩:=kO k1;have hcb:W.drew.cell? ⟨w.heap.size,0,none⟩=some (.pointer (some ⟨J,0,none⟩)):=by
   show W.cell? _=_;rw[yp (a:=⟨w.heap.size,0,none⟩) (w:=w1) (o2 _ (by show w.heap.size<_;omega) (by show w.heap.size≠J;omega))];simp[World.cell?,HB1.out.2.2.1]
  have hRW:Rws n0 W 154 (.slice R hs.length hs.length) hs.length fs:=(HD.out.2.2.2.2.1.on HB1.out.1).keep fun g hg=>o2 g (HDl.out g (.inr hg)).1 (HDl.out g (.inr hg)).2;have HRW:=aQ hRW;have KM:Hid (Calls prog 27 #[.pointer (some ⟨J,0,none⟩)] W.drew fun e w'=>e=.returned (.int .i64 hs.length)/\W.drew=w'):=zk4 W.drew J R hs.length hs.length j1;have KD:Hid (Calls prog 81 #[.slice R hs.length hs.length,.int .i64 (hs.length:Nat),.int .i64 hs.length] W.drew (Deld n0 R hs.length hs.length fs W.drew)):=zlw n0 W.drew R hs.length hs.length hs.length fs (hRW.on (Below.refl _ _).drew) HRES.out.1 hlen;have hobk:∀b,(Value.slice R hs.length hs.length).ownBlock=some b->b<w.heap.size/\b≠J/\b≠w.heap.size/\Jb w J b:=fun b hb=>by
   have hb':(Value.slice R hs.length hs.length).ownBlock=some b:=by cases R<;>exact hb
   have h1:=(HD.out.2.2.2.2.1.1.lt b hb').2;exact⟨h1,(HDl.out b (.inr hb')).2,by omega,.inr ⟨_,b,g1,hb',rfl⟩⟩
  have HS5:Hid (∀w5,W.drew.grownBy w5 (Value.slice R hs.length hs.length).ownBlock->w5.cell? ⟨J,1,none⟩=some (.slice R hs.length hs.length)/\w5.frozen? ⟨J,1,none⟩=false/\w5.cell? ⟨w.heap.size,0,none⟩=some (.pointer (some ⟨J,0,none⟩))):=fun w5 hg=>by
   have hJ5:w5.heap[J]? =W.heap[J]?:=hg.block J (by have:=o1.size;show J<W.heap.size;omega) fun e=>(hobk J e.symm).2.1 rfl;have hJ6:=kO (hJ5.trans k1);refine⟨hJ6.2.1,hJ6.2.2.2,?_⟩;exact hg.cell hcb fun e=>(hobk _ e.symm).2.2.1 rfl
  have HFIN:Hid (∀w5,Rws n0 w5 154 (.slice R hs.length hs.length) hs.length (fs.take hs.length)->Off n0 W.drew w5->W.drew.grownBy w5 (Value.slice R hs.length hs.length).ownBlock ->
    (w5.setCell ⟨J,1,none⟩ (.slice R hs.length hs.length)).cell? ⟨w.heap.size,0,none⟩=some (.pointer (some ⟨J,0,none⟩))/\(w5.setCell ⟨J,1,none⟩ (.slice R hs.length hs.length)).heap[D]? =some (.deferred (some []))/\Chd n0 J w (hs.take hs.length) res ((w5.setCell ⟨J,1,none⟩ (.slice R hs.length hs.length)).putObj D (.deferred none))):=fun w5 d1 d2 d3=>by
   have hJ5:w5.heap[J]? =some (.cells #[.slice A' res.length c',.slice R hs.length hs.length] 92 (0,0)):=(d3.block J (by have:=o1.size;show J<W.heap.size;omega) fun e=>(hobk J e.symm).2.1 rfl).trans k1;have hJ6:=(kL hJ5 (.slice R hs.length hs.length)).2;have hs2:Off n0 w5 (w5.setCell ⟨J,1,none⟩ (.slice R hs.length hs.length)):=Off.set2 ⟨H.out.hJ,_,92,_,hJ5,.inl rfl,xR⟩ ⟨H.out.hJ,_,92,_,hJ6,.inl rfl,xR⟩;have hDW:D<W.heap.size:=(aU.1 HK0.out).1;have hD5:w5.heap[D]? =some (.deferred (some [])):=(d3.block D hDW fun e=>by have:=(hobk D e.symm).1;omega).trans HK0.out;have hD6:(w5.setCell ⟨J,1,none⟩ (.slice R hs.length hs.length)).heap[D]? =some (.deferred (some [])):=(zf _ _ _ _ _ (by omega)).trans hD5;have hD7:Off n0 (w5.setCell ⟨J,1,none⟩ (.slice R hs.length hs.length)) ((w5.setCell ⟨J,1,none⟩ (.slice R hs.length hs.length)).putObj D (.deferred none)):=.other (grownBy_putObj' _ D _) (zgc hD6 rfl) (by have:=H.out.hJ;omega);have hoW:Off n0 W ((w5.setCell ⟨J,1,none⟩ (.slice R hs.length hs.length)).putObj D (.deferred none)):=(((Off.of (Below.refl _ _).drew).trans d2).trans hs2).trans hD7;have how:Off n0 w ((w5.setCell ⟨J,1,none⟩ (.slice R hs.length hs.length)).putObj D (.deferred none)):=((Off.of HB1.out.1).trans o1).trans hoW;have hput:∀b,b≠D->((w5.setCell ⟨J,1,none⟩ (.slice R hs.length hs.length)).putObj D (.deferred none)).heap[b]? =(w5.setCell ⟨J,1,none⟩ (.slice R hs.length hs.length)).heap[b]?:=fun b hb=>World.putObj_heap_other hb;have hlt:(hs.take hs.length).length=hs.length:=by rw[aI];omega
   refine⟨?_,hD6,how,⟨fun b hb hnb=>?_,fun b hb=>?_⟩,H.out.hJ,by rw[hlt];omega,fun s hs'=>?_,A',c',R,hs.length,fs.take hs.length,Fs.take hs.length,?_,k2,k3,k4.off hoW,?_,by rw[hlt,aI,HD.out.2.2.2.2.2.1];omega,fun i f F g1 g2=>?_,fun F hF=>HD.out.2.2.2.2.2.2.2.1 F (List.mem_of_mem_take hF),zbp HD.out.2.2.2.2.2.2.2.2 HRES.out.1 HRES.out.2⟩
   ·rw[yp (a:=⟨w.heap.size,0,none⟩) (w:=w5) (zf _ _ _ _ _ (by show w.heap.size≠J;omega))];exact d3.cell hcb fun e=>(hobk _ e.symm).2.2.1 rfl
   ·have hbJ:b≠J:=fun e=>hnb (.inl e);rw[hput b (by omega),zf _ _ _ _ _ hbJ,d3.block b (by have:=o1.size;show b<W.heap.size;omega) fun e=>hnb (hobk b e.symm).2.2.2];exact(o2 b (by omega) hbJ).trans (HB1.out.1.block b hb)
   ·rcases hb with rfl|⟨v,g,e1,e2,rfl⟩
    ·exact .inl (.inl rfl)
    ·have e3:((w5.setCell ⟨J,1,none⟩ (.slice R hs.length hs.length)).putObj D (.deferred none)).cell? ⟨J,1,none⟩=some (.slice R hs.length hs.length):=by
      rw[yp (a:=⟨J,1,none⟩) (w:=w5.setCell ⟨J,1,none⟩ (.slice R hs.length hs.length)) (hput J (by omega))];simp[World.cell?,hJ6]
     rw[e3]at e1;injection e1 with e1
     subst e1;exact .inl (hobk b e2).2.2.2
   ·rcases List.mem_append.1 hs' with e|e
    ·exact H.out.right s (List.mem_append_left _ (List.mem_of_mem_take e))
    ·obtain rfl:s=res:=by simpa using e
     exact H.out.right s (wM HRES.out.2)
   ·rw[hput J (by omega),hJ6,hlt]
   ·rw[hlt];exact d1.keep fun g hg=>by
     have:=hobk g hg;rw[hput g (by omega),zf _ _ _ _ _ this.2.1]
   ·rw[List.getElem?_take]at g1 g2
    split at g1
    ·rw[if_pos (by assumption)]at g2;exact(HD.out.2.2.2.2.2.2.1 i f F g1 g2).off how
    ·cases g1
  clear k1 k2 k3 k4 o1 o2 hRW hobk hKD hDc HC HDl HSM HACT hgb hgl hbox hbs hB1 hsz1 HD HB1 HO1 HRW H HRES HM HB0 HK0 g0 g1 g2 g3 hjl hfl hn0 hJd hDs
  (go_wp2_with fail);refine zeh ?_;refine wp_region_held_drew (S:=fun w'=>w'.cell? ⟨w.heap.size,0,none⟩=some (.pointer (some ⟨J,0,none⟩))) (by kernel_rfl) hcb (fun hHeld=>?_);refine aO 0 ?_
  try simp only[Act.put,zzs]
  refine aO 1 ?_
  try simp only[Act.put,zzs]
  refine aO 2 ?_
  try simp only[Act.put,zzs]
  refine aO 3 ?_
  try simp only[Act.put,zzs]
  refine aO 5 ?_
  try simp only[Act.put,zzs]
  refine aO 6 ?_
  try simp only[Act.put,zzs]
  refine ab 4 7 rfl rfl (fun K hK=>?_) fun K hK=>?_
  ·skip
   go_simp;refine hK.out _ _ hHeld (fun hHeld=>?_);clear hK K;refine aa 7 rfl fun K hK=>?_;go_simp
   (with_reducible refine KM.out.mono ?_)
   rintro e w4⟨rfl,rfl⟩
   (go_wp2_with fail);refine hK.out _ _ hHeld (fun hHeld=>?_);clear hK K;refine aa 8 rfl fun K hK=>?_
   go_simp
   (with_reducible refine KD.out.mono ?_)
   rintro e w5⟨rfl,hd1,hd2,hd3⟩;have HF:=aQ (HFIN.out w5 hd1 hd2 hd3);obtain⟨y1,y2,y3⟩:=HS5.out w5 hd3;clear hd1 hd2 hd3
   (go_wp2_with fail);refine hK.out _ _ y3 (fun hHeld=>?_);clear hK K;refine aO 9 ?_
   try simp only[Act.put,zzs]
   refine aO 10 ?_
   try simp only[Act.put,zzs]
   refine aa 11 rfl fun K hK=>?_;go_simp;refine hK.out _ _ HF.out.1 (fun hHeld=>?_);clear hK K;refine aJ (by kernel_rfl) ?_ _;refine⟨rfl,?_⟩;have hKD:=HF.out.2.1;have HFF:=aQ HF.out.2.2;clear HF hHeld y1 y2 y3;go_wp2;refine⟨by simp,.inl ⟨_,_,rfl,run_takeDeferred hKD,?_⟩⟩;exact⟨_,results_tmp rfl _ _ _,rfl,HFF.out⟩
  ·skip
   go_simp
   (with_reducible refine KM.out.mono ?_)
   rintro e w4⟨rfl,rfl⟩
   (go_wp2_with fail);refine hK.out _ _ hHeld (fun hHeld=>?_);clear hK K;refine aa 4 rfl fun K hK=>?_
   go_simp;refine hK.out _ _ hHeld (fun hHeld=>?_);clear hK K;refine aa 8 rfl fun K hK=>?_;go_simp
   (with_reducible refine KD.out.mono ?_)
   rintro e w5⟨rfl,hd1,hd2,hd3⟩;have HF:=aQ (HFIN.out w5 hd1 hd2 hd3);obtain⟨y1,y2,y3⟩:=HS5.out w5 hd3;clear hd1 hd2 hd3
   (go_wp2_with fail);refine hK.out _ _ y3 (fun hHeld=>?_);clear hK K;refine aO 9 ?_
   try simp only[Act.put,zzs]
   refine aO 10 ?_
   try simp only[Act.put,zzs]
   refine aa 11 rfl fun K hK=>?_;go_simp;refine hK.out _ _ HF.out.1 (fun hHeld=>?_);clear hK K;refine aJ (by kernel_rfl) ?_ _;refine⟨rfl,?_⟩;have hKD:=HF.out.2.1;have HFF:=aQ HF.out.2.2;clear HF hHeld y1 y2 y3;go_wp2;refine⟨by simp,.inl ⟨_,_,rfl,run_takeDeferred hKD,?_⟩⟩;exact⟨_,results_tmp rfl _ _ _,rfl,HFF.out⟩
end
end
section
section
open Go.RowKit
def zv4(n0:Nat)(w:World)(J:Nat)(hs:List (List PR))(cur:List PR)(h:Jr n0 w J hs cur)(m:Nat)(hm:m<=hs.length)(res:List PR)(hres:(hs++[cur])[m]? =some res):Calls prog 46 #[.pointer (some ⟨J,0,none⟩),.int .i64 m] w fun e w'=>e=.returned (.int .i64 0)/\Chd n0 J w (hs.take m) res w':=by
 obtain⟨A,c,R,cr,g0,g1,g2,g3,g4,g5⟩:=h.at;have one:∀R' cr',w.cell? ⟨J,1,none⟩=some (.slice R' hs.length cr')->cr'=cr:=fun R' cr' e=>by
  rw[g1]at e;injection e with e
  injection e with _ _ e
  exact e.symm
 by_cases hc:cr=m
 ·exact znf n0 w J hs cur h m hm res hres fun R' cr' e=>(one R' cr' e).trans hc
 ·exact zm0 n0 w J hs cur h m hm res hres fun R' cr' e=>by rw[one R' cr' e];exact hc
end
end
section
open Go.RowKit Go.MapKept
variable [Prt]
def zof(w:World)(v:Value):(Instr.typeAssert (.iface 42 v) 20 42 true).run prog w=.ok (.tuple #[v,.bool true]) w:=by
 simp[Instr.typeAssert,run_underlying underlying42]
def zkt(a b c d v:Value):#[a,b,c,d]++((Array.replicate 24 undef).setIfInBounds 3 v).setIfInBounds 0 v=#[a,b,c,d,v,undef,undef,v,undef,undef,undef,undef,undef,undef,undef,undef,undef,undef,undef,undef,undef,undef,undef,undef,undef,undef,undef,undef]:=by kernel_rfl
def zfv(a b c d:Addr)(w:World):CallsD prog 45 #[.pointer (some a),.pointer (some b),.pointer (some c),.pointer (some d)] .returning w fun e u' w'=>e=.returned (.tuple #[])/\u'=.returning/\w'=w:=by
 have hen:=zlt;refine callsD_of_wpS func45 rfl fun c₀ cs hu=>?_;apply wpS_seq;apply wpS_region;generalize hQ:Exit.thenS _ _=Q';simp only[ntmps45];simp[wpOpsS,go_sem,recoverD,hu];rw[<- hQ];simp only[Exit.thenS];clear hQ;refine wpS_of_wp ?_;rw[zkt];go_wp2;refine zgy (v:=.tuple #[]) rfl ?_ rfl ?_
 ·simp[results,results45]
 ·exact⟨rfl,hu,rfl⟩
abbrev oC(t n:Int)(k:Value)(trap used:Int):Obj:=.cells #[.int .i64 t,.int .i64 n,k,.int .i64 trap,.int .i64 used] 44
structure OSt(g:Nat)(o:Obj)(w w':World):Prop where
 here:w'.heap[g]? =some o
 far:∀b,b≠g->w'.heap[b]? =w.heap[b]?
 size:w'.heap.size=w.heap.size
 os:w'.os=w.os
 tape:w'.tape=w.tape
 output:w'.output=w.output
def xi{t n trap used:Int}{k:Value}(h:w.heap[d]? =some (.cells #[.int .i64 t,.int .i64 n,k,.int .i64 trap,.int .i64 used] 44 (0,0))):(w.cell? ⟨d,0,none⟩=some (.int .i64 t)/\w.cell? ⟨d,1,none⟩=some (.int .i64 n)/\w.cell? ⟨d,2,none⟩=some k/\w.cell? ⟨d,3,none⟩=some (.int .i64 trap)/\w.cell? ⟨d,4,none⟩=some (.int .i64 used))/\w.frozen? ⟨d,0,none⟩=false/\w.frozen? ⟨d,1,none⟩=false/\w.frozen? ⟨d,2,none⟩=false/\w.frozen? ⟨d,3,none⟩=false/\w.frozen? ⟨d,4,none⟩=false:=by
 refine⟨⟨?_,?_,?_,?_,?_⟩,?_,?_,?_,?_,?_⟩<;>simp[World.cell?,World.frozen?,h]
def zue(w:World)(p:Addr)(v:Value):(w.setCell p v).os=w.os:=rfl
def zoh(w:World)(p:Addr)(v:Value):(w.setCell p v).tape=w.tape:=rfl
def zjb(w:World)(p:Addr)(v:Value):(w.setCell p v).output=w.output:=rfl
def zha{c0 c1 c2 c3 c4:Value}(h:w.heap[d]? =some (.cells #[c0,c1,c2,c3,c4] 44 (0,0)))(t n:Int)(k:Value)(trap used:Int):OSt d (oC t n k trap used) w (((((w.setCell ⟨d,0,none⟩ (.int .i64 t)).setCell ⟨d,1,none⟩ (.int .i64 n)).setCell ⟨d,2,none⟩ k).setCell ⟨d,3,none⟩ (.int .i64 trap)).setCell ⟨d,4,none⟩ (.int .i64 used)):=by
 refine⟨?_,fun b hb=>?_,?_,by simp only[zue],by simp only[zoh],by simp only[zjb]⟩
 ·have h1:(w.setCell ⟨d,0,none⟩ (.int .i64 t)).heap[d]? =some (.cells #[.int .i64 t,c1,c2,c3,c4] 44 (0,0)):=heap_setCell_same w d 0 _ _ _ h
  generalize w.setCell ⟨d,0,none⟩ (.int .i64 t)=wa at *
  have h2:(wa.setCell ⟨d,1,none⟩ (.int .i64 n)).heap[d]? =some (.cells #[.int .i64 t,.int .i64 n,c2,c3,c4] 44 (0,0)):=heap_setCell_same wa d 1 _ _ _ h1
  generalize wa.setCell ⟨d,1,none⟩ (.int .i64 n)=wb at *
  have h3:(wb.setCell ⟨d,2,none⟩ k).heap[d]? =some (.cells #[.int .i64 t,.int .i64 n,k,c3,c4] 44 (0,0)):=heap_setCell_same wb d 2 _ _ _ h2
  generalize wb.setCell ⟨d,2,none⟩ k=wc at *
  have h4:(wc.setCell ⟨d,3,none⟩ (.int .i64 trap)).heap[d]? =some (.cells #[.int .i64 t,.int .i64 n,k,.int .i64 trap,c4] 44 (0,0)):=heap_setCell_same wc d 3 _ _ _ h3
  generalize wc.setCell ⟨d,3,none⟩ (.int .i64 trap)=we at *
  exact heap_setCell_same we d 4 _ _ _ h4
 ·rw[zf _ _ _ _ _ hb,zf _ _ _ _ _ hb,zf _ _ _ _ _ hb,zf _ _ _ _ _ hb,zf _ _ _ _ _ hb]
 ·rw[qi,qi,qi,qi,qi]
def zfc(X:Cx10)(c':Nat)(τ:Stt)(w:World)(a b c d:Nat)(t:Int)(m:Nat)(res:List PR)(older:List PanicEntry)(hr:RunS X c' τ w)(hm:m<=τ.hs.length)(hres:(τ.hs++[τ.cur])[m]? =some res)
  (ha:w.heap[a]? =some (.cells #[.pointer (some ⟨X.J,0,none⟩)] 35 (0,0))) (hb:w.heap[b]? =some (.cells #[.int .i64 m] 3 (0,0))) (hc:w.heap[c]? =some (.cells #[.pointer (some ⟨X.R,0,none⟩)] 100 (0,0))) (hd:w.heap[d]? =some (oC 0 0 (.slice none 0 0) 0 0)) :
  CallsD prog 45 #[.pointer (some ⟨a,0,none⟩),.pointer (some ⟨b,0,none⟩),.pointer (some ⟨c,0,none⟩),.pointer (some ⟨d,0,none⟩)] (.panicking ({ v:=.iface 42 (.int .i64 t),recovered:=false }::older)) w fun e u' w'=>
   e=.returned (.tuple #[])/\u'=.panicking ({ v:=.iface 42 (.int .i64 t),recovered:=true }::older)/\∃w1,Chd X.n0 X.J w (τ.hs.take m) res w1/\OSt d (oC 0 0 (.slice none 0 0) t τ.used) w1 w':=by
 have hes:=zgl;have has:=zof;have K:=aQ (zv4 X.n0 w X.J τ.hs τ.cur hr.jr m hm res hres);have HR:=aQ hr;have HA:=aQ (And.intro ha (And.intro hb (And.intro hc hd)));have a0:w.cell? ⟨a,0,none⟩=some (.pointer (some ⟨X.J,0,none⟩)):=by simp[World.cell?,ha]
 have b0:w.cell? ⟨b,0,none⟩=some (.int .i64 m):=by simp[World.cell?,hb]
 clear hr hm hres ha hb hc hd;refine callsD_of_wpS func45 rfl fun c₀ cs hu=>?_;apply wpS_seq;apply wpS_region;generalize hQ:Exit.thenS _ _=Q';simp only[ntmps45];simp[wpOpsS,go_sem,recoverD,hu];rw[<- hQ];simp only[Exit.thenS];clear hQ;refine wpS_of_wp ?_;rw[zkt]
 go_wp2_with fail
 (with_reducible refine K.out.mono ?_)
 rintro e w1⟨rfl,hch⟩;have hrun:=HR.out.chd hch (by have:=HR.out.cnt;have:(τ.hs.take m).length<=τ.hs.length:=(by rw[aI];omega);omega);have hmv:Mv X.n0 NoM w w1:=Mv.chd HR.out hch;obtain⟨r0,r1,r2,r3,r4⟩:=xq hrun;have c0:=hmv.kept HA.out.2.2.1 (by decide);have d0:=hmv.kept HA.out.2.2.2 (by decide);have cc:w1.cell? ⟨c,0,none⟩=some (.pointer (some ⟨X.R,0,none⟩)):=by simp[World.cell?,c0]
 obtain⟨⟨d1,d2,d3,d4,d5⟩,f1,f2,f3,f4,f5⟩:=xi d0;have HCH:=aQ (And.intro hch (zha d0 0 0 (.slice none 0 0) t τ.used));dsimp only at r3;clear hrun hmv c0 d0 hch K HR HA a0 b0
 go_wp2_with fail
 refine zek (v:=.tuple #[]) (c:={ c₀ with mode:=.panicking ({ v:=.iface 42 (.int .i64 t),recovered:=true }::older) }) rfl ?_ rfl ?_
 ·simp[results,results45]
 ·exact⟨rfl,rfl,w1,HCH.out.1,HCH.out.2⟩
def zAx(aW:Int):∀(ps:List (List Nat×Int)) (vs:List Va) (f:List (List Nat×Va)) (sc sc':zX),runL (xm aW) sc ps=(none,sc')->TVs (ps.map (·.2)) vs->Fit [f] sc->∃fr,jd ps vs f=some fr/\Fit [fr] sc'
 | [],[],f,sc,sc',h,_,hf=>by
  simp[runL]at h;subst h;exact⟨f,rfl,hf⟩
 | [],v::vs,f,sc,sc',h,hv,hf=>by cases hv
 | p::ps,[],f,sc,sc',h,hv,hf=>by cases hv
 | p::ps,v::vs,f,sc,sc',h,hv,hf=>by
  have hv':TV p.2 v/\TVs (ps.map (·.2)) vs:=hv;unfold runL at h;unfold xm zY at h;cases hs:seek sc p.1 with
  | some d=>rw[hs]at h;simp at h
  | none=>
   rw[hs]at h;dsimp only at h;by_cases hk:p.2=0\/kF p.2=false
   ·rw[if_pos hk]at h;simp at h
   ·rw[if_neg hk]at h;dsimp only at h;have h13:1<=p.2/\p.2<=3:=by
     unfold kF at hk;simp at hk;omega
    exact zAx aW ps vs (updF f p.1 v) _ sc' h hv'.2 (hf.decl (d:=(p.2,false)) hs hv'.1 h13)
def zC4:Fit [[]] []:=⟨by simp,(by intro f hf p hp;simp at hf;subst hf;cases hp),(by intro s d h;cases h),(by intro s d h;cases h)⟩
def zBf{lim:Int}{F:List Nat->Option Xf}{T:Tab5}(hF:zAt T F):∀d c,c+d=16->zFs lim F c
 | 0,c,h=>by
  intro s f vs σ hf hv hu;exact vx (h:=fun _=>some (.trap 4 σ)) (fun n=>by unfold xo;rw[if_pos (by omega)]) (zy8 _ rfl fun a τ e=>by cases e)
 | d+1,c,h=>by
  have ih:zFs lim F (c+1):=zBf hF d (c+1) (by omega);intro s f vs σ hf hv hu;obtain⟨⟨sc,hp,hb⟩,hend,h0,h3⟩:=hF.ok s f hf;obtain⟨fr,hfr,hfit⟩:=zAx f.aW f.params vs [] [] sc hp hv zC4;refine vx (h:=fun n=>(qS lim F n (c+1) [fr] f.body σ).bind fun r σ=>qv (r.1.getD qe) σ) (fun n=>by(conv=>lhs;unfold xo);rw[if_neg (by omega),hfr]) ?_;rcases hq:z7 T f.result f.body sc with⟨e,sc1⟩
  rw[hq]at hb;dsimp only at hb;subst hb;refine((zF2 f.body (zBi hF ih f.body)) [fr] sc sc1 σ hq hfit hu).bind (lim:=lim) (fun n=>(zmd lim F n).b _ _ _ _ hu) fun r τ hr hτ _=>wu _ _ ?_;cases h1:r.1 with
  | some v=>exact hr.val v h1
  | none=>
   by_cases hz:f.result=0
   ·rw[hz];exact zB4
   ·have:=hr.must (hend hz);rw[h1]at this;cases this
def zBr{σ α:Type}{step:σ->α->Er×σ}{s:σ}{a:α}{l:List α}{s':σ}(h:runL step s (a::l)=(none,s')):(step s a).1=none/\runL step (step s a).2 l=(none,s'):=by
 unfold runL at h;rcases hq:step s a with⟨_|e,s1⟩
 ·rw[hq]at h;exact⟨rfl,h⟩
 ·rw[hq]at h;cases h
def zAq{g:Xf->Er}:∀ {l:List Xf},(runL (fun(_:Unit) f=>(g f,())) () l).1=none->∀f∈l,g f=none
 | [],_,f,hf=>by cases hf
 | a::l,h,f,hf=>by
  have h':runL (fun(_:Unit) f=>(g f,())) () (a::l)=(none,()):=by rw[<- h]
  obtain⟨h1,h2⟩:=zBr h';rcases aC.1 hf with e|hf
  ·rw[e];exact h1
  ·exact zAq (congrArg Prod.fst h2) f hf
def xT(fs:List Xf):List Nat->Option Xf:=fun s=>fs.find? (fun f=>f.name==s)
def zD6{fs:List Xf}(h:kD fs=none):zAt (zh fs) (xT fs):=by
 unfold kD at h
 split at h
 ·cases h
 ·split at h
  ·cases h
  ·refine⟨fun s d hd=>?_,fun s f hf=>?_⟩
   ·unfold zh at hd;unfold xT;cases hq:fs.find? (fun f=>f.name==s)with
    | none=>rw[hq]at hd;cases hd
    | some f=>rw[hq]at hd;injection hd with hd;exact⟨f,rfl,hd.symm⟩
   ·have hf':=zAq h f (List.mem_of_find?_eq_some hf);unfold funM k6 at hf';rcases hq:runL (xm f.aW) [] f.params with⟨_|e,sc⟩
    ·rw[hq]at hf';dsimp only at hf'
     split at hf'
     ·cases hf'
     ·rename_i hk
      split at hf'
      ·cases hf'
      ·split at hf'
       ·cases hf'
       ·rename_i hb
        split at hf'
        ·cases hf'
        ·rename_i he
         have hk':kF f.result=true:=by simpa using hk
         have h3:0<=f.result/\f.result<=3:=by
          unfold kF at hk';simp at hk';omega
         refine⟨⟨sc,rfl,hb⟩,fun hne=>?_,h3.1,h3.2⟩;cases hee:ki f.body with
         | true=>rfl
         | false=>exact absurd ⟨hne,hee⟩ he
    ·rw[hq]at hf';cases hf'
def G1{α:Type}(lim:Int)(m:Ev α):Prop:=
 match m with
 | some (.trap t τ)=>t=1->τ.used=lim
 | _=>True
def vg(lim:Int)(F:List Nat->Option Xf)(f:Xf)(vs:List Va)(σ:Stt)(r:Ou Va):Prop:=∃N,∀n,N<=n->xo lim F n 0 f vs σ=some r
def zBq{lim:Int}{fs:List Xf}(h:kD fs=none){f:Xf}(hf:xT fs s=some f){vs:List Va}(hv:TVs (f.params.map (·.2)) vs){σ:Stt}(hu:σ.used<=lim):∃r,vg lim (xT fs) f vs σ r/\∀v τ,r=.ok v τ->TV f.result v:=by
 obtain⟨N,r,h1,h2⟩:=zBf (lim:=lim) (zD6 h) 16 0 rfl s f vs σ hf hv hu;exact⟨r,⟨N,h1⟩,h2⟩
def vg.at{lim:Int}{F:List Nat->Option Xf}{f:Xf}{vs:List Va}{σ:Stt}{r:Ou Va}(h:vg lim F f vs σ r):∃n,xo lim F n 0 f vs σ=some r:=by
 obtain⟨N,h⟩:=h;exact⟨N,h N (aR _)⟩
def vg.ends{lim:Int}{F:List Nat->Option Xf}{f:Xf}{vs:List Va}{σ:Stt}{r:Ou Va}(h:vg lim F f vs σ r)(hu:σ.used<=lim):Ends lim σ (some r):=by
 obtain⟨n,h⟩:=h.at;rw[<- h];exact(zmd lim F n).c _ _ _ _ hu
end
end Go.Proofs.YtcilgkdnjgmogaaGreatDoor
