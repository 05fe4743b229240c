/- A part of the proof. -/
import Derived.Test.YtcilgkdnjgmogaaGreatDoorKc
import Derived.Deep.RegionHeld3
import Derived.JoinedOf
namespace Go.Proofs.YtcilgkdnjgmogaaGreatDoor
set_option maxRecDepth 100000
set_option maxHeartbeats 12800000
set_option linter.all false
variable {A:Option Addr} {B c n n0:Nat} {S:List Nat} {w w':World}
section
open Go.RowKit Go.MapKept
def TwoP (S:List Nat) (a b:Int) (w:World) (e:Ending) (w':World):Prop:=∃ v t,twoE S (intV a) (intV b) =some (v,t)/\v.s =[]/\e =.returned (TupV v.t v.n t)/\Below w.heap.size w w'
theorem zx0 {a b x:Int} (h:twoE S (intV a) (intV b) =some (fitI x)) (hf:fits x) (hb:Below w.heap.size w w'):TwoP S a b w (.returned (TupV 1 x 0)) w':=
 ⟨intV x,0,by rw [h,zhg hf],rfl,rfl,hb⟩
theorem zx1 {a b x:Int} (h:twoE S (intV a) (intV b) =some (fitI x)) (hf:¬ fits x) (hb:Below w.heap.size w w'):TwoP S a b w (.returned (TupV 0 0 3)) w':=
 ⟨qe,3,by rw [h];unfold fitI;unfold fits at hf;rw [if_neg hf],rfl,rfl,hb⟩
def NumP (x:Int) (w:World) (e:Ending) (w':World):Prop:=∃ t m z,e =.returned (TupV t m z)/\(fits x/\t =1/\m =x/\z =0\/¬ fits x/\t =0/\m =0/\z =3)/\Below w.heap.size w w'
theorem nrC (n:Int) (is:Bool) (x:Int) (h:is =true ↔ fits x) (hn:is =true->n =x) (w:World):Calls Tryz.prog 94 #[.int .i64 n,.bool is] w (NumP x w):=by
 cases is with
 | true=>exact (nrT n w).mono fun e w' ⟨h1,h2⟩=>⟨1,n,0,h1,.inl ⟨h.1 rfl,rfl,hn rfl,rfl⟩,h2⟩
 | false=>exact (nrF n w).mono fun e w' ⟨h1,h2⟩=>⟨0,0,3,h1,.inr ⟨(fun hf=>by cases h.2 hf),rfl,rfl,rfl⟩,h2⟩
theorem nrW (x:Int) (is:Bool) (h:is =true ↔ fits x) (w:World):Calls Tryz.prog 94 #[.int .i64 (wrap64 x),.bool is] w (NumP x w):=nrC _ is x h (fun hq=>xQ (h.1 hq)) w
theorem NumP.two {a b x t m z:Int} (h:twoE S (intV a) (intV b) =some (fitI x)) (hq:fits x/\t =1/\m =x/\z =0\/¬ fits x/\t =0/\m =0/\z =3) (hb:Below w.heap.size w w'):TwoP S a b w (.returned (TupV t m z)) w':=by
 rcases hq with ⟨hf,rfl,rfl,rfl⟩|⟨hf,rfl,rfl,rfl⟩
 ·exact zx0 h hf hb
 ·exact zx1 h hf hb
abbrev zO41:Obj:=.cells #[.int .i64 0,.int .i64 0,.slice none 0 0] 41
theorem zyz (a b:Int) (ha:fits a) (hb:fits b) (w:World):Calls Tryz.prog 58 #[.string ⟨#[43]⟩,.int .i64 a,.int .i64 b] w (TwoP [43] a b w):=by
 have H2:Hid (twoE [43] (intV a) (intV b) =some (fitI (a+b))):=rfl;have HZ:=zz9 (heap_alloc_new w zO41);have B0:=zz9 (za w zO41);have HS:Hid (w.heap.size < (w.alloc zO41).heap.size):=by show _ < _;simp
 unfold fits at ha hb;go_enter Tryz.func58,Tryz.ntmps58
 go_wp2_with fail
 all_goals
  refine (nrW (a+b) _ (by simp only [Bool.not_eq_true',decide_eq_false_iff_not,Bool.and_eq_true,decide_eq_true_eq,Bool.true_eq_false,Bool.false_eq_true,Bool.not_false,Bool.not_true,true_iff,false_iff];unfold fits;omega) _).mono ?_;rintro e w1 ⟨t,m,z,rfl,hq,b1⟩;have hz:=zg b1 HZ.out HS.out;have hbb:=zd B0.out b1 B0.out.size;have HQ:=zz9 hq;clear b1 hq ha hb
  go_wp2_with (refine zm rfl (.tmp 6) (.tmp 37) rfl rfl w.heap.size rfl t m none 0 0 rfl hz ?_;intro w7 g1)
  refine bodyPost_ret (qW Tryz.results58 _ _ w.heap.size rfl g1.here) rfl ?_;exact NumP.two H2.out HQ.out (zwd hbb g1)
theorem zy1 (a b:Int) (ha:fits a) (hb:fits b) (w:World):Calls Tryz.prog 58 #[.string ⟨#[45]⟩,.int .i64 a,.int .i64 b] w (TwoP [45] a b w):=by
 have H2:Hid (twoE [45] (intV a) (intV b) =some (fitI (a-b))):=rfl;have HZ:=zz9 (heap_alloc_new w zO41);have B0:=zz9 (za w zO41);have HS:Hid (w.heap.size < (w.alloc zO41).heap.size):=by show _ < _;simp
 unfold fits at ha hb;go_enter Tryz.func58,Tryz.ntmps58
 go_wp2_with fail
 all_goals
  refine (nrW (a-b) _ (by simp only [Bool.not_eq_true',decide_eq_false_iff_not,Bool.and_eq_true,decide_eq_true_eq,Bool.true_eq_false,Bool.false_eq_true,Bool.not_false,Bool.not_true,true_iff,false_iff];unfold fits;omega) _).mono ?_;rintro e w1 ⟨t,m,z,rfl,hq,b1⟩;have hz:=zg b1 HZ.out HS.out;have hbb:=zd B0.out b1 B0.out.size;have HQ:=zz9 hq;clear b1 hq ha hb
  go_wp2_with (refine zm rfl (.tmp 6) (.tmp 65) rfl rfl w.heap.size rfl t m none 0 0 rfl hz ?_;intro w7 g1)
  refine bodyPost_ret (qW Tryz.results58 _ _ w.heap.size rfl g1.here) rfl ?_;exact NumP.two H2.out HQ.out (zwd hbb g1)
theorem zy2 (a b:Int) (ha:fits a) (hb:fits b) (w:World):Calls Tryz.prog 58 #[.string ⟨#[42]⟩,.int .i64 a,.int .i64 b] w (TwoP [42] a b w):=by
 have H2:Hid (twoE [42] (intV a) (intV b) =some (fitI (a*b))):=rfl;have HZ:=zz9 (heap_alloc_new w zO41);have B0:=zz9 (za w zO41);have HS:Hid (w.heap.size < (w.alloc zO41).heap.size):=by show _ < _;simp
 have KT:=zz9 (zyr a b ha hb (w.alloc zO41));clear ha hb;go_enter Tryz.func58,Tryz.ntmps58
 go_wp2_with fail
 refine KT.out.mono ?_;rintro e w1 ⟨⟨n,is,rfl,h1,h2⟩,b1⟩;have KN:=zz9 (nrC n is (a*b) h1 h2 w1);have HZ1:=zz9 (zg b1 HZ.out HS.out);have HB1:=zz9 (zd B0.out b1 B0.out.size);clear b1 h1 h2 KT
 go_wp2_with fail
 refine KN.out.mono ?_;rintro e w2 ⟨t,m,z,rfl,hq,b2⟩;have hz:=zg b2 HZ1.out (zz7.1 HZ1.out).1;have hbb:=zd HB1.out b2 HB1.out.size;have HQ:=zz9 hq;clear b2 hq KN
 go_wp2_with (refine zm rfl (.tmp 6) (.tmp 78) rfl rfl w.heap.size rfl t m none 0 0 rfl hz ?_;intro w7 g1)
 refine bodyPost_ret (qW Tryz.results58 _ _ w.heap.size rfl g1.here) rfl ?_;exact NumP.two H2.out HQ.out (zwd hbb g1)
theorem zy0 (a b:Int) (ha:fits a) (hb:fits b) (w:World):Calls Tryz.prog 58 #[.string ⟨#[47]⟩,.int .i64 a,.int .i64 b] w (TwoP [47] a b w):=by
 have H2:Hid (twoE [47] (intV a) (intV b) =some (divI Int.tdiv a b)):=rfl;have HZ:=zz9 (heap_alloc_new w zO41);have B0:=zz9 (za w zO41);have HS:Hid (w.heap.size < (w.alloc zO41).heap.size):=by show _ < _;simp
 by_cases b0:b =0
 ·subst b0
  have HE:Hid (twoE [47] (intV a) (intV 0) =some (qe,2)):=H2.out.trans (by unfold divI;rw [if_pos rfl]);clear H2 ha hb;go_enter Tryz.func58,Tryz.ntmps58
  go_wp2
  refine bodyPost_ret (qW Tryz.results58 _ _ w.heap.size rfl HZ.out) rfl ?_;exact ⟨qe,2,HE.out,rfl,rfl,B0.out⟩
 by_cases s1:a = -9223372036854775808/\b = -1
 ·obtain ⟨rfl,rfl⟩:=s1
  have HE:Hid (twoE [47] (intV (-9223372036854775808)) (intV (-1)) =some (qe,3)):=H2.out.trans (by unfold divI;rw [if_neg (by decide),if_pos (by decide)]);clear H2 ha hb b0;go_enter Tryz.func58,Tryz.ntmps58
  go_wp2
  refine bodyPost_ret (qW Tryz.results58 _ _ w.heap.size rfl HZ.out) rfl ?_;exact ⟨qe,3,HE.out,rfl,rfl,B0.out⟩
 have HE:Hid (twoE [47] (intV a) (intV b) =some (intV (Int.tdiv a b),0)):=H2.out.trans (by unfold divI;rw [if_neg b0,if_neg s1]);have HW:=zz9 (xQ (show fits (Int.tdiv a b) from tdiv_fits' ha b0 s1));clear H2 ha hb;rcases Bool.eq_false_or_eq_true (a == -9223372036854775808) with c1|c1 <;> rcases Bool.eq_false_or_eq_true (b == -1) with c2|c2
 all_goals
  first
   | exact absurd (And.intro (beq_iff_eq.1 c1) (beq_iff_eq.1 c2)) s1
   | skip
 all_goals
  clear s1;go_enter Tryz.func58,Tryz.ntmps58
  go_wp2_with fail
  (try rw [HW.out])
  refine (numR _ _).mono ?_;rintro e w1 ⟨rfl,b1⟩;have hz:=zg b1 HZ.out HS.out;have hbb:=zd B0.out b1 B0.out.size;clear b1
  go_wp2_with (refine zm rfl (.tmp 6) (.tmp 98) rfl rfl w.heap.size rfl 1 (Int.tdiv a b) none 0 0 rfl hz ?_;intro w7 g1)
  refine bodyPost_ret (qW Tryz.results58 _ _ w.heap.size rfl g1.here) rfl ?_;exact ⟨intV (Int.tdiv a b),0,HE.out,rfl,rfl,zwd hbb g1⟩
theorem zyy (a b:Int) (ha:fits a) (hb:fits b) (w:World):Calls Tryz.prog 58 #[.string ⟨#[37]⟩,.int .i64 a,.int .i64 b] w (TwoP [37] a b w):=by
 have H2:Hid (twoE [37] (intV a) (intV b) =some (divI Int.tmod a b)):=rfl;have HZ:=zz9 (heap_alloc_new w zO41);have B0:=zz9 (za w zO41);have HS:Hid (w.heap.size < (w.alloc zO41).heap.size):=by show _ < _;simp
 by_cases b0:b =0
 ·subst b0
  have HE:Hid (twoE [37] (intV a) (intV 0) =some (qe,2)):=H2.out.trans (by unfold divI;rw [if_pos rfl]);clear H2 ha hb;go_enter Tryz.func58,Tryz.ntmps58
  go_wp2
  refine bodyPost_ret (qW Tryz.results58 _ _ w.heap.size rfl HZ.out) rfl ?_;exact ⟨qe,2,HE.out,rfl,rfl,B0.out⟩
 by_cases s1:a = -9223372036854775808/\b = -1
 ·obtain ⟨rfl,rfl⟩:=s1
  have HE:Hid (twoE [37] (intV (-9223372036854775808)) (intV (-1)) =some (qe,3)):=H2.out.trans (by unfold divI;rw [if_neg (by decide),if_pos (by decide)]);clear H2 ha hb b0;go_enter Tryz.func58,Tryz.ntmps58
  go_wp2
  refine bodyPost_ret (qW Tryz.results58 _ _ w.heap.size rfl HZ.out) rfl ?_;exact ⟨qe,3,HE.out,rfl,rfl,B0.out⟩
 have HE:Hid (twoE [37] (intV a) (intV b) =some (intV (Int.tmod a b),0)):=H2.out.trans (by unfold divI;rw [if_neg b0,if_neg s1]);have HW:=zz9 (xQ (show fits (Int.tmod a b) from zee ha));clear H2 ha hb;rcases Bool.eq_false_or_eq_true (a == -9223372036854775808) with c1|c1 <;> rcases Bool.eq_false_or_eq_true (b == -1) with c2|c2
 all_goals
  first
   | exact absurd (And.intro (beq_iff_eq.1 c1) (beq_iff_eq.1 c2)) s1
   | skip
 all_goals
  clear s1;go_enter Tryz.func58,Tryz.ntmps58
  go_wp2_with fail
  (try rw [HW.out])
  refine (numR _ _).mono ?_;rintro e w1 ⟨rfl,b1⟩;have hz:=zg b1 HZ.out HS.out;have hbb:=zd B0.out b1 B0.out.size;clear b1
  go_wp2_with (refine zm rfl (.tmp 6) (.tmp 102) rfl rfl w.heap.size rfl 1 (Int.tmod a b) none 0 0 rfl hz ?_;intro w7 g1)
  refine bodyPost_ret (qW Tryz.results58 _ _ w.heap.size rfl g1.here) rfl ?_;exact ⟨intV (Int.tmod a b),0,HE.out,rfl,rfl,zwd hbb g1⟩
end
section
open Go.RowKit Go.MapKept
abbrev iO (a:Int):Obj:=.cells #[.int .i64 1,.int .i64 a,.slice none 0 0] 41
theorem zyp (s:ByteArray) (S:List Nat) (a b:Int) (K:∀ w',Calls Tryz.prog 58 #[.string s,.int .i64 a,.int .i64 b] w' (TwoP S a b w')) (w:World) :
  Calls Tryz.prog 30 #[.string s,.agg #[.int .i64 1,.int .i64 a,.slice none 0 0],.agg #[.int .i64 1,.int .i64 b,.slice none 0 0]] w (TwoP S a b w):=by
 have H3:=zic w (iO a) (iO b) zO41;obtain ⟨x0,x1,x2⟩:=qr H3.a;obtain ⟨y0,y1,y2⟩:=qr H3.b;have q0:∀ w',(convert 22 9 (.slice none 0 0)).run Tryz.prog w' =.ok (.string (strOfNums [])) w':=fun w'=>js (P:=Tryz.prog) w' 22 9 5 Tryz.underlying22 Tryz.underlying5 Tryz.underlying9 0 none 0 0 [] rfl (Lies.nothing _ _);have q1:=q0 (((w.alloc (iO a)).alloc (iO b)).alloc zO41);generalize strOfNums [] =s0 at q1;have HK:=zz9 K;have HH:=zz9 H3;clear H3 K q0;go_enter Tryz.func30,Tryz.ntmps30
 go_wp2_with fail
 refine (HK.out _).mono ?_;rintro e w1 ⟨v,t,h1,h2,rfl,b1⟩;have hz:=zg b1 HH.out.c (by rw [HH.out.z];omega);have hbb:=HH.out.s.trans (b1.mono HH.out.s.size);have HV:=zz9 (And.intro h1 h2);clear b1 h1 h2 q1 x0 x1 x2 y0 y1 y2
 go_wp2_with (refine zm rfl (.tmp 6) (.tmp 40) rfl rfl (w.heap.size+1+1) rfl v.t v.n none 0 0 rfl hz ?_;intro w7 g1)
 refine bodyPost_ret (qW Tryz.results30 _ _ (w.heap.size+1+1) rfl g1.here) rfl ?_;exact ⟨v,t,HV.out.1,HV.out.2,rfl,hbb.trans (g1.below (by omega))⟩
end
section
open Go.RowKit Go.MapKept
theorem zxv {s:List Int} (h:SB w B (.slice A n c) s):A =none->c =0:=by
 obtain ⟨A',c',e,_,_,hl,_⟩:=h;injection e with e1 _ e3
 subst e1 e3;exact hl.1
theorem zx3 (a b:Int) (h:S =[43]\/S =[45]\/S =[42]\/S =[47]\/S =[37]):∃ v t,twoE S (intV a) (intV b) =some (v,t)/\v.s =[]/\(t≠0->v =qe):=by
 have hfit:∀ x,(fitI x).1.s =[]/\((fitI x).2≠0->(fitI x).1 =qe):=by
  intro x;unfold fitI
  split
  ·exact ⟨rfl,fun h=>absurd rfl h⟩
  ·exact ⟨rfl,fun _=>rfl⟩
 have hdiv:∀ f,(divI f a b).1.s =[]/\((divI f a b).2≠0->(divI f a b).1 =qe):=by
  intro f;unfold divI
  split
  ·exact ⟨rfl,fun _=>rfl⟩
  ·split
   ·exact ⟨rfl,fun _=>rfl⟩
   ·exact ⟨rfl,fun h=>absurd rfl h⟩
 rcases h with rfl|rfl|rfl|rfl|rfl
 ·exact ⟨_,_,rfl,hfit (a+b)⟩
 ·exact ⟨_,_,rfl,hfit (a-b)⟩
 ·exact ⟨_,_,rfl,hfit (a*b)⟩
 ·exact ⟨_,_,rfl,hdiv Int.tdiv⟩
 ·exact ⟨_,_,rfl,hdiv Int.tmod⟩
theorem zyo {P:List Fu} {X:List Xf} (hX:P.map toXf =X) {T:List Nat} (hP:LitP T P) (hf:X =[⟨[102],[([97],1),([98],1)],1,[.mk 5 [] [.mk 6 0 S [.mk 4 0 [97] [] 35,.mk 4 0 [98] [] 39] 37] [] [] 28],0⟩]) (h1:S≠[38,38]) (h2:S≠[124,124]) {ks:List Two} {c J:Nat} (a b:Int) (ha:fits a) (hb:fits b) {v:Va} {t:Int} (h:twoE S (intV a) (intV b) =some (v,t)) (hv:v.s =[]) (hz:t≠0->v =qe) :
  ∀ w' g,Lw n0 X ks A c J [] [] w->Below w.heap.size w w'->w'.heap[g]? =some (.cells #[.int .i64 1,.int .i64 a,.slice none 0 0,.int .i64 1,.int .i64 b,.slice none 0 0] 41 (0,0)) ->
  Calls Tryz.prog 19 #[.agg #[.slice A 1 c],.string ⟨#[102]⟩,.slice (some ⟨g,0,none⟩) 2 2,.pointer (some ⟨J,0,none⟩),.int .i64 100] w' fun e w''=>∃ A' c',e =.returned (.agg #[.int .i64 v.t,.int .i64 v.n,.slice A' 0 c',.int .i64 t,.int .i64 4])/\Mv n0 NoM w' w''/\Below n0 w w''/\(A' =none->c' =0):=by
 have hc:=zyu S a b [] [] (xT X) v t h1 h2 h;have hp:kD X =none:=hX ▸ hP.m;have hs:∀ f∈X,shB f.body =true:=hX ▸ hP.s;subst hf;intro w' g hL hbl hg;have K:=zmi (hL.on hbl) wF wo (by simp) hp hs [102] (by unfold Byn;decide) _ [intV a,intV b] (zrb hg (SB.nil _ _) (yr ha) (SB.nil _ _) (yr hb)) _ rfl (by simp [fitB,fitL,jg,intV]) 100 _ hc;refine K.mono fun e w'' hq=>?_;obtain ⟨vt,vn,vs⟩:=v;dsimp only at hv;subst hv;by_cases h0:t =0
 ·subst h0
  rw [if_pos rfl] at hq;obtain ⟨hm,x,rfl,⟨A',c',rfl,k,e,hb,_⟩,hj⟩:=hq;injection e with e
  have e:k =.slice A' 0 c':=by
   have:=congrArg (fun a=>a[2]?) e;simpa [qe] using this.symm
  subst e;exact ⟨A',c',rfl,hm,(hbl.mono hL.hn).trans (hm.low (hL.on hbl).hn),zxv hb⟩
 ·rw [if_neg h0] at hq
  obtain ⟨rfl,rfl⟩:vt =0/\vn =0:=by
   have:=hz h0;injection this with e1 e2
   exact ⟨e1,e2⟩
  obtain ⟨hm,x,rfl,⟨A',c',rfl,k,e,hb,_⟩,hj⟩:=hq;injection e with e
  have e:k =.slice A' 0 c':=by
   have:=congrArg (fun a=>a[2]?) e;simpa [qe] using this.symm
  subst e;exact ⟨A',c',rfl,hm,(hbl.mono hL.hn).trans (hm.low (hL.on hbl).hn),zxv hb⟩
structure SgP (s:ByteArray) (S T:List Nat) (P:List Fu) (X:List Xf):Prop where
 lit:LitP T P
 map:P.map toXf =X
 str:strN T =((⟨#[102,110,32,102,40,97,58,32,105,110,116,44,32,98,58,32,105,110,116,41,58,32,105,110,116,32,123,32,114,101,116,117,114,110,32,97,32]⟩:ByteArray)++s)++(⟨#[32,98,59,32,125]⟩:ByteArray)
 len:T.length =43
 x:X =[⟨[102],[([97],1),([98],1)],1,[.mk 5 [] [.mk 6 0 S [.mk 4 0 [97] [] 35,.mk 4 0 [98] [] 39] 37] [] [] 28],0⟩]
 n1:S≠[38,38]
 n2:S≠[124,124]
 five:S =[43]\/S =[45]\/S =[42]\/S =[47]\/S =[37]
 ints:∀ (a b:Int),fits a->fits b->∀ w,Calls Tryz.prog 58 #[.string s,.int .i64 a,.int .i64 b] w (TwoP S a b w)
theorem SgP.one {s:ByteArray} {S T:List Nat} {P:List Fu} {X:List Xf} (h:SgP s S T P X):X.length =1:=by rw [h.x];rfl
theorem SgP.short {s:ByteArray} {S T:List Nat} {P:List Fu} {X:List Xf} (h:SgP s S T P X):T.length<=maxLen:=by rw [h.len];unfold maxLen;omega
theorem zy3 (s:ByteArray) (hs:s =⟨#[43]⟩\/s =⟨#[45]⟩\/s =⟨#[42]⟩\/s =⟨#[47]⟩\/s =⟨#[37]⟩) (S T:List Nat) (P:List Fu) (X:List Xf) (hg:SgP s S T P X) (a b:Int) (ha:fits a) (hb:fits b) (w:World) (ht:Tab w):Calls Tryz.prog 9 #[.string s,.int .i64 a,.int .i64 b] w fun e w'=>e =.returned (.bool true)/\Below w.heap.size w w':=by
 have HT:=zz9 ht;have HSG:=zz9 hg;rcases hs with rfl|rfl|rfl|rfl|rfl
 all_goals
  have hpos:=ht.1;have K:=zz9 (wP w ht);clear ht;go_enter Tryz.func9,Tryz.ntmps9
  go_wp2_with fail
  with_reducible refine K.out.mono ?_
  clear K;rintro e wa ⟨rfl,ba⟩;have HBa:=zz9 ba;clear ba
  go_upto_region 5 with fail
  obtain ⟨cc,w0,hconv,hc1,hc2,B0,LF⟩:=zfb wa T HSG.out.lit.y HSG.out.short;rw [HSG.out.str,HSG.out.len] at hconv;have HB0:=zz9 (zd HBa.out B0 HBa.out.size);have K:=zz9 (wU HSG.out.lit (some ⟨wa.heap.size,0,none⟩) 43 cc w0 HSG.out.len (HSG.out.len ▸ hc1) hc2 LF (HT.out.below HB0.out hpos));clear LF B0 HBa hc1 hc2
  go_wp2_with fail
  clear hconv
  with_reducible refine K.out.mono ?_
  clear K;rintro e w1 ⟨A,c,ks,rfl,hX,b1⟩;rw [HSG.out.map,HSG.out.one] at hX ⊢;have HB1:=zd HB0.out b1 HB0.out.size;have c1:=za w1 (.cells #[.slice A 1 c] 26);have X0:Hid ((w1.alloc (.cells #[.slice A 1 c] 26)).cell? ⟨w1.heap.size,0,none⟩ =some (.slice A 1 c)):=by show _ =_;rw [cell_of_row _ _ _ _ _ _ (heap_alloc_new w1 _)];rfl
  have HB2:=zz9 (zd HB1 c1 HB1.size);have HX2:Hid (XfsC (w1.alloc (.cells #[.slice A 1 c] 26)) (Lo (w1.alloc (.cells #[.slice A 1 c] 26)).heap.size) X ks (.slice A 1 c)):=(hX.same (xj c1 (Nat.le_refl _))).more fun k hk=>Nat.lt_of_lt_of_le hk c1.size;clear hX b1 c1 HB1 HB0
  go_upto_region 6 with fail
  generalize w1.alloc (.cells #[.slice A 1 c] 26) =w2 at *
  generalize w1.heap.size =gp at *
  have hgp:gp < w2.heap.size:=World.block_lt_of_cell? w2 _ X0.out;have HW:Hid (w.heap.size<=w2.heap.size):=HB2.out.size;have K:=zz9 (zge w2.heap.size w2 (Nat.le_refl _))
  go_wp2_with fail
  with_reducible refine K.out.mono ?_
  clear K;rintro e w4 ⟨J,rfl,hJ,hj,b3⟩;have HL:Hid (Lw w2.heap.size X ks A c J [] [] w4):=⟨b3.size,hj,by rw [HSG.out.one];exact HX2.out.same (xj b3 (Nat.le_refl _))⟩;have HX:Hid (∀ w',Below w2.heap.size w4 w'->w'.cell? ⟨gp,0,none⟩ =some (.slice A 1 c)):=fun w' hb=>by rw [hb.cell (p:=⟨gp,0,none⟩) hgp];exact zb X0.out b3
  have HB4:=zz9 (zd HB2.out b3 HB2.out.size);have HN4:Hid (w2.heap.size<=w4.heap.size):=b3.size;clear hj hJ b3 HX2 X0 HB2;obtain ⟨v,t,hv1,hv2,hv3⟩:=zx3 (S:=S) a b HSG.out.five;have q2:=zyo (n0:=w2.heap.size) (ks:=ks) (A:=A) (c:=c) (J:=J) (w:=w4) HSG.out.map HSG.out.lit HSG.out.x HSG.out.n1 HSG.out.n2 a b ha hb hv1 hv2 hv3;have HQ:=zz9 (And.intro hv1 hv2);have KR:=zz9 (fun w' g hbl hg=>q2 w' g HL.out hbl hg);have KN:Hid (∀ (m:Int) w',Calls Tryz.prog 29 #[.int .i64 m] w' fun e w''=>e =.returned (.agg #[.int .i64 1,.int .i64 m,.slice none 0 0])/\Below w'.heap.size w' w''):=fun m w'=>numR m w';have K2:Hid (∀ w',Calls Tryz.prog 30 #[.string _,.agg #[.int .i64 1,.int .i64 a,.slice none 0 0],.agg #[.int .i64 1,.int .i64 b,.slice none 0 0]] w' (TwoP S a b w')):=zyp _ _ a b fun w'=>HSG.out.ints a b ha hb w';have HX4:Hid (∀ w',Below w4.heap.size w4 w'->w'.cell? ⟨gp,0,none⟩ =some (.slice A 1 c)):=fun w' hb=>HX.out w' (hb.mono HN4.out);have hbl:=Below.refl w4.heap.size w4;clear q2 hv1 hv2 hv3 ha hb
  go_upto_region 9 with fail
  go_cut [13] (fun p wx=>∃ gx A6 c6,p =.pointer (some ⟨gx,0,none⟩)/\wx.heap[gx]? =some (oC v.t v.n (.slice A6 0 c6) t 4)/\Below w.heap.size w wx/\(A6 =none->c6 =0))
  case first=>
   go_region_held3 (fun w'=>w'.cell? ⟨gp,0,none⟩ =some (.slice A 1 c))
    (first
     | (with_reducible exact HXR.out)
     | (with_reducible exact zdx HXR.out HG6.out.2)
     | (with_reducible exact zb HXR.out (za _ _))
     | (with_reducible exact HX4.out _ hbl)
     | (with_reducible exact HX4.out _ hbl.drew)
     | (with_reducible exact HX4.out _ (hbl.alloc hbl.size _))
     | (with_reducible exact HX4.out _ (hbl.alloc hbl.size _).drew)
     | (with_reducible exact HX4.out _ ((hbl.alloc hbl.size _).alloc (hbl.alloc hbl.size _).size _))
     | (with_reducible exact HX4.out _ ((hbl.alloc hbl.size _).alloc (hbl.alloc hbl.size _).size _).drew))
    (first
     | (go_at_call 29;refine (KN.out _ _).mono ?_;rintro e w5 ⟨rfl,b5⟩;(first|(replace hbl:=zd hbl.drew b5 hbl.size;(try replace HZ:=zz9 (zg b5 HZ.out (zz7.1 HZ.out).1)))|(replace hbl:=zd hbl b5 hbl.size;(try replace HZ:=zz9 (zg b5 HZ.out (zz7.1 HZ.out).1)))|(have HZ:Hid (w5.heap[w4.heap.size]? =some zO44):=zg b5 (heap_alloc_new w4 zO44) (by simp);have HZG:=zz9 (And.intro (Nat.le_trans HB4.out.size hbl.size) (Nat.ne_of_lt (Nat.lt_of_lt_of_le hgp (Nat.le_trans HN4.out hbl.size))));replace hbl:=zd (hbl.alloc hbl.size zO44).drew b5 (hbl.alloc hbl.size zO44).size)|(have HZ:=zz9 (zg b5 (heap_alloc_new _ zO44) (by simp));have HZG:=zz9 (And.intro (Nat.le_trans HB4.out.size hbl.size) (Nat.ne_of_lt (Nat.lt_of_lt_of_le hgp (Nat.le_trans HN4.out hbl.size))));replace hbl:=zd (hbl.alloc hbl.size zO44) b5 (hbl.alloc hbl.size zO44).size));clear b5)
     | (go_at_call 19;refine (KR.out _ _ (by first|exact hbl.alloc hbl.size _|exact (hbl.alloc hbl.size _).alloc (hbl.alloc hbl.size _).size _|exact (hbl.drew).alloc hbl.size _|exact ((hbl.alloc hbl.size _).drew).alloc (hbl.alloc hbl.size _).size _|exact ((hbl.drew).alloc hbl.size _).alloc (hbl.alloc hbl.size zO44).size _) (by first|exact heap_alloc_new _ _|exact kN _ _ _|exact zg (za _ _) (heap_alloc_new _ _) (by simp))).mono ?_;rintro e w6 ⟨A6,c6,rfl,hm6,hb6,hc6⟩;have HC6:=zz9 hc6;clear hc6;have HXR:=zz9 (HX.out w6 hb6);have HB6:Hid (Below w.heap.size w w6):=HB4.out.trans (hb6.mono HW.out);(first|(have HZ6:=hm6.kept (zg (za _ _) HZ.out (zz7.1 HZ.out).1) (by decide);have HG6:=zz9 HZG.out;obtain ⟨⟨d0,d1,d2,d3,d4⟩,f0,f1,f2,f3,f4⟩:=xi HZ6)|(have HZ6:=hm6.kept (zg (za _ _) (heap_alloc_new w5 zO44) (by simp)) (by decide);have HG6:Hid (w.heap.size<=w5.heap.size/\gp≠w5.heap.size):=⟨Nat.le_trans HB4.out.size hbl.size,by have:=HN4.out;have:=hbl.size;omega⟩;obtain ⟨⟨d0,d1,d2,d3,d4⟩,f0,f1,f2,f3,f4⟩:=xi HZ6)|(have HZ6:=hm6.kept (kN w5 _ zO44) (by decide);have HG6:Hid (w.heap.size<=w5.heap.size+1/\gp≠w5.heap.size+1):=⟨Nat.le_succ_of_le (Nat.le_trans HB4.out.size hbl.size),by have:=HN4.out;have:=hbl.size;omega⟩;obtain ⟨⟨d0,d1,d2,d3,d4⟩,f0,f1,f2,f3,f4⟩:=xi HZ6)|skip);(try replace HZ6:=zz9 HZ6);clear hm6 hb6))
   all_goals
    first
     | (have hS:=zha HZ6.out v.t v.n (.slice A6 0 c6) t 4
        (try go_wp2_with fail)
        go_meet
        exact ⟨_,A6,c6,rfl,hS.here,HB6.out.trans (hS.below HG6.out.1),HC6.out⟩)
     | ((try go_wp2_with fail)
        go_meet
        exact ⟨_,A6,c6,rfl,heap_alloc_new w6 (oC v.t v.n (.slice A6 0 c6) t 4),zd HB6.out (za w6 (oC v.t v.n (.slice A6 0 c6) t 4)) HB6.out.size,HC6.out⟩)
  case rest=>
   obtain ⟨gx,A6,c6,rfl,XB,hbw,hcap⟩:=hcut;have HCAP:=zz9 hcap;clear hcap;have HXB:=zz9 XB;have HBW:=zz9 hbw;clear XB hbw HX HX4 hbl KR HL
   go_wp2_with fail
   refine (KN.out _ _).mono ?_;rintro e w5 ⟨rfl,b5⟩;have HB5:=zz9 (zd HBW.out b5 HBW.out.size);have HX5:=zz9 (zg b5 HXB.out (zz7.1 HXB.out).1);clear b5
   go_wp2_with fail
   refine (KN.out _ _).mono ?_;rintro e w6 ⟨rfl,b6⟩;have HB6:=zz9 (zd HB5.out b6 HB5.out.size);have HX6:=zz9 (zg b6 HX5.out (zz7.1 HX5.out).1);clear b6
   go_wp2_with fail
   refine (K2.out _).mono ?_;rintro e w7 ⟨v2,t2,g1,g2,rfl,b7⟩;obtain ⟨rfl,rfl⟩:v2 =v/\t2 =t:=by
    rw [HQ.out.1] at g1;injection g1 with g1
    injection g1 with g1 g3
    exact ⟨g1.symm,g3.symm⟩
   have HB7:=zd HB6.out b7 HB6.out.size;have c8:=za w7 (.cells #[.int .i64 v2.t,.int .i64 v2.n,.slice none 0 0] 41);have HB8:=zz9 (zd HB7 c8 HB7.size);have X7:=zg b7 HX6.out (zz7.1 HX6.out).1;have X8:=zg c8 X7 (zz7.1 X7).1;obtain ⟨⟨z0,z1,z2,z3,z4⟩,_⟩:=xi X8;obtain ⟨y0,y1,y2⟩:=qr (heap_alloc_new w7 (.cells #[.int .i64 v2.t,.int .i64 v2.n,.slice none 0 0] 41));have KS:Hid (∀ w',Calls Tryz.prog 28 #[.agg #[.int .i64 v2.t,.int .i64 v2.n,.slice A6 0 c6],.agg #[.int .i64 v2.t,.int .i64 v2.n,.slice none 0 0]] w' fun e w''=>e =.returned (.bool true)/\Below w'.heap.size w' w''):=fun w'=>zx9 v2.t v2.n A6 none [] 0 c6 0 rfl w' ⟨HCAP.out,fun j u hu=>by cases j <;> cases hu⟩ (Lies.nothing _ _);clear HB7 c8 X7 X8 b7 g1 K2 KN
   go_upto_region 11 with fail
   generalize w7.alloc (.cells #[.int .i64 v2.t,.int .i64 v2.n,.slice none 0 0] 41) =w8 at *
   generalize w7.heap.size =g7 at *
   go_wp2_with fail
   refine (KS.out _).mono ?_;rintro e w9 ⟨rfl,b9⟩;have HB9:=zz9 (zd HB8.out b9 HB8.out.size);have z4':=zb z4 b9
   go_wp2
   go_ret;exact ⟨rfl,HB9.out⟩
theorem zyh:strN siAT =((⟨#[102,110,32,102,40,97,58,32,105,110,116,44,32,98,58,32,105,110,116,41,58,32,105,110,116,32,123,32,114,101,116,117,114,110,32,97,32]⟩:ByteArray)++(⟨#[43]⟩:ByteArray))++(⟨#[32,98,59,32,125]⟩:ByteArray):=by kernel_rfl
theorem zym:SgP ⟨#[43]⟩ [43] siAT siAP siAX:=⟨zx7,zya,zyh,rfl,rfl,by decide,by decide,by simp,zyz⟩
theorem zye:strN siBT =((⟨#[102,110,32,102,40,97,58,32,105,110,116,44,32,98,58,32,105,110,116,41,58,32,105,110,116,32,123,32,114,101,116,117,114,110,32,97,32]⟩:ByteArray)++(⟨#[45]⟩:ByteArray))++(⟨#[32,98,59,32,125]⟩:ByteArray):=by kernel_rfl
theorem zyq:SgP ⟨#[45]⟩ [45] siBT siBP siBX:=⟨zyd,zyf,zye,rfl,rfl,by decide,by decide,by simp,zy1⟩
theorem zx8:strN siCT =((⟨#[102,110,32,102,40,97,58,32,105,110,116,44,32,98,58,32,105,110,116,41,58,32,105,110,116,32,123,32,114,101,116,117,114,110,32,97,32]⟩:ByteArray)++(⟨#[42]⟩:ByteArray))++(⟨#[32,98,59,32,125]⟩:ByteArray):=by kernel_rfl
theorem zyl:SgP ⟨#[42]⟩ [42] siCT siCP siCX:=⟨zx2,zx4,zx8,rfl,rfl,by decide,by decide,by simp,zy2⟩
theorem zyb:strN siDT =((⟨#[102,110,32,102,40,97,58,32,105,110,116,44,32,98,58,32,105,110,116,41,58,32,105,110,116,32,123,32,114,101,116,117,114,110,32,97,32]⟩:ByteArray)++(⟨#[47]⟩:ByteArray))++(⟨#[32,98,59,32,125]⟩:ByteArray):=by kernel_rfl
theorem zyn:SgP ⟨#[47]⟩ [47] siDT siDP siDX:=⟨zyg,zyj,zyb,rfl,rfl,by decide,by decide,by simp,zy0⟩
theorem zx6:strN siET =((⟨#[102,110,32,102,40,97,58,32,105,110,116,44,32,98,58,32,105,110,116,41,58,32,105,110,116,32,123,32,114,101,116,117,114,110,32,97,32]⟩:ByteArray)++(⟨#[37]⟩:ByteArray))++(⟨#[32,98,59,32,125]⟩:ByteArray):=by kernel_rfl
theorem zyk:SgP ⟨#[37]⟩ [37] siET siEP siEX:=⟨zxy,zyi,zx6,rfl,rfl,by decide,by decide,by simp,zyy⟩
end
section
open Go.RowKit Go.MapKept
theorem zxo (s:List Nat) (hy:Byn s) (a b:Int) (ha:fits a) (hb:fits b) (w:World) (ht:Tab w):Calls Tryz.prog 9 #[.string (strN s),.int .i64 a,.int .i64 b] w fun e w'=>e =.returned (.bool true)/\Below w.heap.size w w':=by
 by_cases h1:s =[43]
 ·subst h1;exact zy3 ⟨#[43]⟩ (by simp) [43] siAT siAP siAX zym a b ha hb w ht
 by_cases h2:s =[45]
 ·subst h2;exact zy3 ⟨#[45]⟩ (by simp) [45] siBT siBP siBX zyq a b ha hb w ht
 by_cases h3:s =[42]
 ·subst h3;exact zy3 ⟨#[42]⟩ (by simp) [42] siCT siCP siCX zyl a b ha hb w ht
 by_cases h4:s =[47]
 ·subst h4;exact zy3 ⟨#[47]⟩ (by simp) [47] siDT siDP siDX zyn a b ha hb w ht
 by_cases h5:s =[37]
 ·subst h5;exact zy3 ⟨#[37]⟩ (by simp) [37] siET siEP siEX zyk a b ha hb w ht
 have K:=zz9 (wP w ht);have n1:¬ (strN s).toList =[43]:=fun h=>by
  have e:=zac hy (show Byn [43] by unfold Byn;decide);rw [h,show (strN [43]).toList =[43] by kernel_rfl] at e;simp at e;exact h1 e
 have n2:¬ (strN s).toList =[45]:=fun h=>by
  have e:=zac hy (show Byn [45] by unfold Byn;decide);rw [h,show (strN [45]).toList =[45] by kernel_rfl] at e;simp at e;exact h2 e
 have n3:¬ (strN s).toList =[42]:=fun h=>by
  have e:=zac hy (show Byn [42] by unfold Byn;decide);rw [h,show (strN [42]).toList =[42] by kernel_rfl] at e;simp at e;exact h3 e
 have n4:¬ (strN s).toList =[47]:=fun h=>by
  have e:=zac hy (show Byn [47] by unfold Byn;decide);rw [h,show (strN [47]).toList =[47] by kernel_rfl] at e;simp at e;exact h4 e
 have n5:¬ (strN s).toList =[37]:=fun h=>by
  have e:=zac hy (show Byn [37] by unfold Byn;decide);rw [h,show (strN [37]).toList =[37] by kernel_rfl] at e;simp at e;exact h5 e
 have m1:((strN s).toList == [43]) =false:=by simpa using n1
 have m2:((strN s).toList == [45]) =false:=by simpa using n2
 have m3:((strN s).toList == [42]) =false:=by simpa using n3
 have m4:((strN s).toList == [47]) =false:=by simpa using n4
 have m5:((strN s).toList == [37]) =false:=by simpa using n5
 clear ht n1 n2 n3 n4 n5;go_enter Tryz.func9,Tryz.ntmps9
 go_wp2_with fail
 with_reducible refine K.out.mono ?_
 clear K;rintro e wa ⟨rfl,ba⟩;have HBa:=zz9 ba;clear ba
 go_wp2
 go_ret;exact ⟨rfl,HBa.out⟩
end
section
open Go Go.ChangeShapes Go.WideShapes
theorem zwl:(Rows.evalSignsRow.inPlace == Tryz.prog.inPlace 9) =true:=by kernel_rfl
theorem zwg:(Rows.evalSignsRow.unfollowed == Tryz.prog.unfollowed 9) =true:=by kernel_rfl
theorem zwj:(Rows.evalSignsRow.recurses == Tryz.prog.recurses 9) =true:=by kernel_rfl
theorem zws:(Rows.evalSignsRow.named == Tryz.prog.varsNamed 9) =true:=by kernel_rfl
theorem zw1:laidOutB Tryz.prog =true:=by kernel_rfl
theorem zwr:mapsRowed Tryz.prog =true:=by kernel_rfl
theorem zwp:joinedFacts Tryz.prog 9 Tryz.f9 Rows.evalSignsSpec Rows.evalSignsRow =true:=by
 unfold joinedFacts;rw [zwl,zwg,zwj,zws,zw1,zwr]
 kernel_rfl
theorem zxd:OpenClaim.wfByText (OpenSpec.ofChange Rows.evalSignsSpec) Rows.evalSignsRow =true:=by kernel_rfl
theorem zxc:Tryz.prog.funcNamed "covenant/covenantlaw10.EvalSigns" =some 9:=by kernel_rfl
theorem zwt:([9,2,2].all fun u=>!Tryz.prog.wantsStandIn u) =true:=by kernel_rfl
theorem zw0:false =Rows.evalSignsRow.goesBy Tryz.pinned.checked.prog:=by kernel_rfl
end
end Go.Proofs.YtcilgkdnjgmogaaGreatDoor
