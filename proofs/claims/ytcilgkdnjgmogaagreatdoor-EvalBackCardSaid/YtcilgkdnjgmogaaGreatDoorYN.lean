/- A part of the proof. -/
import Derived.Test.YtcilgkdnjgmogaaGreatDoorYD
import Derived.Test.YtcilgkdnjgmogaaGreatDoorYH
namespace Go.Proofs.YtcilgkdnjgmogaaGreatDoor
set_option maxRecDepth 100000
set_option maxHeartbeats 12800000
set_option linter.all false
variable {c:Nat} {s:List Nat}
section
structure Va where
 t:Int
 n:Int
 s:List Int
 deriving DecidableEq
structure Stt where
 used:Int
 hs:List (List PR)
 cur:List PR
 deriving DecidableEq
inductive Ou(α:Type) where
 | ok (a:α) (σ:Stt)
 | trap (t:Int) (σ:Stt)
abbrev Ev(α:Type):=Option (Ou α)
def Ev.bind{α β:Type}(m:Ev α)(f:α->Stt->Ev β):Ev β:=
 match m with
 | none=>none
 | some (.trap t σ)=>some (.trap t σ)
 | some (.ok a σ)=>f a σ
def qv{α:Type}(a:α)(σ:Stt):Ev α:=some (.ok a σ)
def useE(lim n:Int)(σ:Stt):Ev Unit:=
 if n > lim-σ.used then some (.trap 1 { σ with used:=lim })else some (.ok () { σ with used:=σ.used+n })
abbrev Env:=List (List (List Nat×Va))
def updF(f:List (List Nat×Va))(s:List Nat)(v:Va):List (List Nat×Va):=
 match f with
 | []=>[(s,v)]
 | p::l=>if p.1=s then(s,v)::l else p::updF l s v
def kQ:Env->List Nat->Option Va
 | [],_=>none
 | f::r,s=>match seek f s with
  | some v=>some v
  | none=>kQ r s
def setE:Env->List Nat->Va->Option Env
 | [],_,_=>none
 | f::r,s,v=>match seek f s with
  | some _=>some (updF f s v::r)
  | none=>match setE r s v with
   | some r'=>some (f::r')
   | none=>none
def zfr:Env->List Nat->Va->Env
 | [],_,_=>[]
 | f::r,s,v=>updF f s v::r
def zap(e:Env):Env:=match e with
 | []::r=>r
 | e=>e
def jj(e b:Env):Env:=match e with
 | []::_=>[]::b
 | _=>b
def intV(n:Int):Va:=⟨1,n,[]⟩
def xS(b:Bool):Va:=⟨2,if b then 1 else 0,[]⟩
def ya(s:List Int):Va:=⟨3,0,s⟩
def qe:Va:=⟨0,0,[]⟩
def fitI(x:Int):Va×Int:=if -9223372036854775808<=x/\x<=9223372036854775807 then(intV x,0)else(qe,3)
def divI(f:Int->Int->Int)(a b:Int):Va×Int:=if b=0 then(qe,2)else if a=-9223372036854775808/\b=-1 then(qe,3)else(intV (f a b),0)
def truE(b:Bool):Va×Int:=(xS b,0)
def twoE(S:List Nat)(a b:Va):Option (Va×Int):=
 if a.t=1/\b.t=1 then
  if S=[43]then some (fitI (a.n+b.n))else if S=[45]then some (fitI (a.n-b.n))else if S=[42]then some (fitI (a.n*b.n))
  else if S=[47]then some (divI Int.tdiv a.n b.n)else if S=[37]then some (divI Int.tmod a.n b.n)
  else if S=[60]then some (truE (decide (a.n<b.n)))else if S=[60,61]then some (truE (decide (a.n<=b.n)))
  else if S=[62]then some (truE (decide (b.n<a.n)))else if S=[62,61]then some (truE (decide (b.n<=a.n)))
  else if S=[61,61]then some (truE (decide (a.n=b.n)))else if S=[33,61]then some (truE (!decide (a.n=b.n)))
  else none
 else if a.t=2/\b.t=2 then
  if S=[61,61]then some (truE ((a.n==1)==(b.n==1)))else if S=[33,61]then some (truE (!((a.n==1)==(b.n==1))))else none
 else if a.t=3/\b.t=3/\a.n=0/\b.n=0 then
  if S=[43]then some (if 256<a.s.length+b.s.length then(qe,6)else(ya (a.s++b.s),0))
  else if S=[61,61]then some (truE (decide (a.s=b.s)))else if S=[33,61]then some (truE (!decide (a.s=b.s)))else none
 else none
def oneE(S:List Nat)(a:Va):Option (Va×Int):=
 if S=[45]/\a.t=1 then some (fitI (-a.n))else if S=[33]/\a.t=2 then some (truE (!(a.n==1)))else none
def endE(r:Option (Va×Int))(σ:Stt):Ev Va:=
 match r with
 | none=>none
 | some (v,t)=>if t=0 then qv v σ else some (.trap t σ)
def jd:List (List Nat×Int)->List Va->List (List Nat×Va)->Option (List (List Nat×Va))
 | [],[],f=>some f
 | p::ps,v::vs,f=>jd ps vs (updF f p.1 v)
 | _,_,_=>none
def xC(a b:Nat):Int:=4+((a+b:Nat):Int) / 16
def wO(k v:List Int)(σ:Stt):Ev Unit:=
 if putE σ.cur k v=0 then qv () { σ with hs:=σ.hs++[σ.cur],cur:=putM σ.cur k v }
 else some (.trap (if putE σ.cur k v=1 then 6 else 5) σ)
def zpo(k:List Int)(σ:Stt):Ev Unit:=qv () { σ with hs:=σ.hs++[σ.cur],cur:=delM σ.cur k }
def putG(lim:Int)(k v:List Int)(σ:Stt):Ev Unit:=(useE lim (xC k.length v.length) σ).bind fun _ σ=>wO k v σ
def delG(lim:Int)(k:List Int)(σ:Stt):Ev Unit:=(useE lim 4 σ).bind fun _ σ=>zpo k σ
def zay(vs:List Va):Va:=match vs with
 | v::_=>v
 | []=>qe
mutual
def qD(lim:Int)(F:List Nat->Option Xf):Nat->Nat->Env->Xe->Stt->Ev Va
 | 0,_,_,_,_=>none
 | n+1,c,env,.mk op num aZ aX _,σ=>(useE lim 1 σ).bind fun _ σ=>
  if op=1 then qv (intV num) σ
  else if op=2 then qv (xS (num==1)) σ
  else if op=3 then qv (ya (ints aZ)) σ
  else if op=4 then(match kQ env aZ with
   | some v=>qv v σ
   | none=>none)
  else if op=5 then(match F aZ with
   | some f=>(qK lim F n c env aX σ).bind fun vs σ=>xo lim F n c f vs σ
   | none=>none)
  else match aX with
   | [a]=>if op=6 then none else(qD lim F n c env a σ).bind fun v σ=>
    if op=7 then endE (oneE aZ v) σ
    else if v.t≠3 then none
    else if op=8 then(useE lim 2 σ).bind fun _ σ=>qv (ya (getM σ.cur v.s)) σ
    else if op=9 then(useE lim 2 σ).bind fun _ σ=>qv (xS (hasM σ.cur v.s)) σ
    else if op=10 then qv (intV v.s.length) σ
    else none
   | [a,b]=>if op≠6 then none else(qD lim F n c env a σ).bind fun v σ=>
    if aZ=[38,38]then(if v.n=1 then qD lim F n c env b σ else qv (xS false) σ)
    else if aZ=[124,124]then(if v.n=1 then qv (xS true) σ else qD lim F n c env b σ)
    else(qD lim F n c env b σ).bind fun u σ=>
     if aZ=[43]/\v.t=3 then(useE lim (((v.s.length+u.s.length:Nat):Int) / 16) σ).bind fun _ σ=>endE (twoE aZ v u) σ
     else endE (twoE aZ v u) σ
   | _=>none
def qK(lim:Int)(F:List Nat->Option Xf):Nat->Nat->Env->List Xe->Stt->Ev (List Va)
 | 0,_,_,_,_=>none
 | _+1,_,_,[],σ=>qv [] σ
 | n+1,c,env,e::l,σ=>(qD lim F n c env e σ).bind fun v σ=>(qK lim F n c env l σ).bind fun vs σ=>qv (v::vs) σ
def xo(lim:Int)(F:List Nat->Option Xf):Nat->Nat->Xf->List Va->Stt->Ev Va
 | 0,_,_,_,_=>none
 | n+1,c,f,vs,σ=>if c=16 then some (.trap 4 σ)else
  match jd f.params vs []with
  | some fr=>(qS lim F n (c+1) [fr] f.body σ).bind fun r σ=>qv (r.1.getD qe) σ
  | none=>none
def qS(lim:Int)(F:List Nat->Option Xf):Nat->Nat->Env->List Xs->Stt->Ev (Option Va×Env)
 | 0,_,_,_,_=>none
 | _+1,_,env,[],σ=>qv (none,env) σ
 | n+1,c,env,s::l,σ=>(ji lim F n c env s σ).bind fun r σ=>
  match r.1 with
  | some v=>qv (some v,r.2) σ
  | none=>qS lim F n c r.2 l σ
def xe(lim:Int)(F:List Nat->Option Xf):Nat->Nat->Env->List Xs->Stt->Ev (Option Va×Env)
 | 0,_,_,_,_=>none
 | n+1,c,env,l,σ=>(qS lim F n c ([]::zap env) l σ).bind fun r σ=>qv (r.1,jj env r.2.tail) σ
def ji(lim:Int)(F:List Nat->Option Xf):Nat->Nat->Env->Xs->Stt->Ev (Option Va×Env)
 | 0,_,_,_,_=>none
 | n+1,c,env,.mk op aZ aY body els _,σ=>(useE lim 1 σ).bind fun _ σ=>
  if op=3 then(match aY with
   | [e]=>(qD lim F n c env e σ).bind fun v σ=>if v.n=1 then xe lim F n c env body σ else xe lim F n c env els σ
   | _=>none)
  else(qK lim F n c env aY σ).bind fun vs σ=>
   if op=4 then(match vs with
    | [a,b]=>(k7 lim F n c a.n b.n aZ body ([]::zap env) σ).bind fun r σ=>qv (r.1,jj env r.2.tail) σ
    | _=>none)
   else if op=5 then qv (some (zay vs),env) σ
   else match vs with
    | [a]=>
     if op=1 then qv (none,zfr env aZ a) σ
     else if op=2 then(match setE env aZ a with
      | some env'=>qv (none,env') σ
      | none=>none)
     else if op=7 then(if a.t≠3 then none else(delG lim a.s σ).bind fun _ σ=>qv (none,env) σ)
     else if op=8 then qv (none,env) σ
     else none
    | [a,b]=>if op=6/\a.t=3/\b.t=3 then(putG lim a.s b.s σ).bind fun _ σ=>qv (none,env) σ else none
    | _=>none
def k7(lim:Int)(F:List Nat->Option Xf):Nat->Nat->Int->Int->List Nat->List Xs->Env->Stt->Ev (Option Va×Env)
 | 0,_,_,_,_,_,_,_=>none
 | n+1,c,i,b,aZ,body,env,σ=>
  if i<b then(useE lim 1 σ).bind fun _ σ=>(xe lim F n c (zfr env aZ (intV i)) body σ).bind fun r σ=>
   match r.1 with
   | some v=>qv (some v,r.2) σ
   | none=>k7 lim F n c (i+1) b aZ body r.2 σ
  else qv (none,env) σ
end
structure Adv(lim:Int)(σ τ:Stt):Prop where
 more:σ.used<=τ.used
 most:τ.used<=lim
 past:(σ.hs++[σ.cur]) <+: (τ.hs++[τ.cur])
 count:(τ.hs.length:Int)*4+σ.used<=σ.hs.length*4+τ.used
 right:(∀s∈σ.hs++[σ.cur],qJ s)->∀s∈τ.hs++[τ.cur],qJ s
def Adv.refl{lim:Int}{σ:Stt}(h:σ.used<=lim):Adv lim σ σ:=⟨Int.le_refl _,h,List.prefix_refl _,by omega,id⟩
def Adv.trans{lim:Int}{a b c:Stt}(h:Adv lim a b)(k:Adv lim b c):Adv lim a c:=
 ⟨Int.le_trans h.more k.more,k.most,h.past.trans k.past,by have:=h.count;have:=k.count;omega,fun q=>k.right (h.right q)⟩
def Ends{α:Type}(lim:Int)(σ:Stt)(m:Ev α):Prop:=
 match m with
 | none=>True
 | some (.ok _ τ)=>Adv lim σ τ
 | some (.trap t τ)=>Adv lim σ τ/\t≠0
def Ends.bind{α β:Type}{lim:Int}{σ:Stt}{m:Ev α}{f:α->Stt->Ev β}(h:Ends lim σ m)(k:∀a τ,m=some (.ok a τ)->τ.used<=lim->Ends lim τ (f a τ)):Ends lim σ (m.bind f):=by
 match m,h,k with
 | none,_,_=>trivial
 | some (.trap t τ),h,_=>exact h
 | some (.ok a τ),h,k=>
  have h1:Adv lim σ τ:=h;have h2:=k a τ rfl h1.most;show Ends lim σ (f a τ)
  match f a τ,h2 with
  | none,_=>trivial
  | some (.trap t ρ),h2=>exact⟨h1.trans h2.1,h2.2⟩
  | some (.ok b ρ),h2=>exact h1.trans h2
def qU{α:Type}{lim:Int}{σ:Stt}(a:α)(h:σ.used<=lim):Ends lim σ (qv a σ):=Adv.refl h
def vM{lim n:Int}{σ:Stt}(hn:0<=n)(h:σ.used<=lim):Ends lim σ (useE lim n σ):=by
 unfold useE
 split
 ·exact⟨⟨h,Int.le_refl _,List.prefix_refl _,by simp;omega,id⟩,by decide⟩
 ·exact⟨by simp;omega,by simp;omega,List.prefix_refl _,by simp;omega,id⟩
def zcb{lim:Int}{σ:Stt}(r:Option (Va×Int))(h:σ.used<=lim):Ends lim σ (endE r σ):=by
 unfold endE
 split
 ·trivial
 ·split
  ·exact qU _ h
  ·exact⟨Adv.refl h,by assumption⟩
def zg5(hs:List (List PR))(cur nxt:List PR):(hs++[cur]) <+: ((hs++[cur])++[nxt]):=List.prefix_append _ _
def j9(a b:Nat):4<=xC a b:=by unfold xC;omega
def zhr{lim:Int}{σ:Stt}(k v:List Int)(h:σ.used<=lim):Ends lim σ (putG lim k v σ):=by
 have hn:=j9 k.length v.length;unfold putG useE
 split
 ·exact⟨⟨h,Int.le_refl _,List.prefix_refl _,by simp;omega,id⟩,by decide⟩
 ·show Ends lim σ (wO k v _);unfold wO
  split
  ·rename_i hp
   refine⟨by simp;omega,by simp;omega,zg5 _ _ _,by simp;omega,fun q s hs=>?_⟩;rcases List.mem_append.1 hs with hs|hs
   ·exact q s hs
   ·simp at hs;rw[hs];exact zbv (q _ (by simp)) hp
  ·show Ends lim σ (some _);refine⟨⟨by simp;omega,by simp;omega,List.prefix_refl _,by simp;omega,id⟩,?_⟩
   split<;>decide
def zgv{lim:Int}{σ:Stt}(k:List Int)(h:σ.used<=lim):Ends lim σ (delG lim k σ):=by
 unfold delG useE
 split
 ·exact⟨⟨h,Int.le_refl _,List.prefix_refl _,by simp;omega,id⟩,by decide⟩
 ·refine⟨by simp;omega,by simp;omega,zg5 _ _ _,by simp;omega,fun q s hs=>?_⟩;rcases List.mem_append.1 hs with hs|hs
  ·exact q s hs
  ·simp at hs;rw[hs];exact zby (q _ (by simp)) k
def wS{α:Type}{lim:Int}{σ:Stt}:Ends lim σ (none:Ev α):=trivial
def znd{α:Type}{lim:Int}{σ:Stt}{p:Prop}[Decidable p]{a b:Ev α}(h:Ends lim σ a)(k:Ends lim σ b):Ends lim σ (if p then a else b):=by
 split
 ·exact h
 ·exact k
structure zqy(lim:Int)(F:List Nat->Option Xf)(n:Nat):Prop where
 e:∀c env e σ,σ.used<=lim->Ends lim σ (qD lim F n c env e σ)
 es:∀c env l σ,σ.used<=lim->Ends lim σ (qK lim F n c env l σ)
 c:∀c f vs σ,σ.used<=lim->Ends lim σ (xo lim F n c f vs σ)
 b:∀c env l σ,σ.used<=lim->Ends lim σ (qS lim F n c env l σ)
 i:∀c env l σ,σ.used<=lim->Ends lim σ (xe lim F n c env l σ)
 s:∀c env s σ,σ.used<=lim->Ends lim σ (ji lim F n c env s σ)
 l:∀c i b aZ body env σ,σ.used<=lim->Ends lim σ (k7 lim F n c i b aZ body env σ)
def zmd(lim:Int)(F:List Nat->Option Xf):∀n,zqy lim F n
 | 0=>⟨fun _ _ _ _ _=>by unfold qD;trivial,fun _ _ _ _ _=>by unfold qK;trivial,fun _ _ _ _ _=>by unfold xo;trivial,fun _ _ _ _ _=>by unfold qS;trivial,fun _ _ _ _ _=>by unfold xe;trivial,fun _ _ _ _ _=>by unfold ji;trivial,fun _ _ _ _ _ _ _ _=>by unfold k7;trivial⟩
 | n+1=>by
  have ih:=zmd lim F n;refine⟨?_,?_,?_,?_,?_,?_,?_⟩
  ·intro c env e σ h;obtain⟨op,num,aZ,aX,aW⟩:=e;unfold qD;refine(vM (by decide) h).bind fun _ τ _ h=>?_
   repeat' (first
    | exact qU _ h
    | exact wS
    | exact zcb _ h
    | (refine(ih.e _ _ _ _ h).bind fun _ τ _ h=>?_)
    | (refine(ih.es _ _ _ _ h).bind fun _ τ _ h=>?_)
    | (refine(vM (by omega) h).bind fun _ τ _ h=>?_)
    | exact ih.c _ _ _ _ h
    | exact ih.e _ _ _ _ h
    | refine znd ?_ ?_
    | split)
  ·intro c env l σ h;cases l with
   | nil=>unfold qK;exact qU _ h
   | cons e l=>
    unfold qK;exact(ih.e _ _ _ _ h).bind fun _ τ _ h=>(ih.es _ _ _ _ h).bind fun _ τ _ h=>qU _ h
  ·intro c f vs σ h;unfold xo
   split
   ·exact⟨Adv.refl h,by decide⟩
   ·split
    ·exact(ih.b _ _ _ _ h).bind fun _ τ _ h=>qU _ h
    ·exact wS
  ·intro c env l σ h;cases l with
   | nil=>unfold qS;exact qU _ h
   | cons s l=>
    unfold qS;refine(ih.s _ _ _ _ h).bind fun r τ _ h=>?_
    split
    ·exact qU _ h
    ·exact ih.b _ _ _ _ h
  ·intro c env l σ h;unfold xe;exact(ih.b _ _ _ _ h).bind fun _ τ _ h=>qU _ h
  ·intro c env s σ h;obtain⟨op,aZ,aY,body,els,aW⟩:=s;unfold ji;refine(vM (by decide) h).bind fun _ τ _ h=>?_
   repeat' (first
    | exact qU _ h
    | exact wS
    | exact zcb _ h
    | (refine(ih.e _ _ _ _ h).bind fun _ τ _ h=>?_)
    | (refine(ih.es _ _ _ _ h).bind fun _ τ _ h=>?_)
    | (refine(ih.l _ _ _ _ _ _ _ h).bind fun _ τ _ h=>?_)
    | (refine(zhr _ _ h).bind fun _ τ _ h=>?_)
    | (refine(zgv _ h).bind fun _ τ _ h=>?_)
    | exact ih.i _ _ _ _ h
    | exact ih.c _ _ _ _ h
    | exact ih.e _ _ _ _ h
    | split)
  ·intro c i b aZ body env σ h;unfold k7
   split
   ·refine(vM (by decide) h).bind fun _ τ _ h=>(ih.i _ _ _ _ h).bind fun r τ _ h=>?_
    split
    ·exact qU _ h
    ·exact ih.l _ _ _ _ _ _ _ h
   ·exact qU _ h
def vi{α:Type}(lim':Int)(m m':Ev α):Prop:=
 match m with
 | none=>True
 | some (.ok a τ)=>(τ.used<=lim'->m'=some (.ok a τ))/\(lim'<τ.used->∃ρ,m'=some (.trap 1 ρ)/\ρ.used=lim')
 | some (.trap t τ)=>t≠1->(τ.used<=lim'->m'=some (.trap t τ))/\(lim'<τ.used->∃ρ,m'=some (.trap 1 ρ)/\ρ.used=lim')
def vi.bind{α β:Type}{lim lim':Int}{σ:Stt}{m m':Ev α}{f f':α->Stt->Ev β}(h:vi lim' m m')(k:∀a τ,m=some (.ok a τ)->τ.used<=lim'->vi lim' (f a τ) (f' a τ))(hm:∀a τ,m=some (.ok a τ)->Ends lim τ (f a τ)):vi lim' (m.bind f) (m'.bind f'):=by
 match m,h,k,hm with
 | none,_,_,_=>trivial
 | some (.trap t τ),h,_,_=>
  intro ht;obtain⟨h1,h2⟩:=h ht;refine⟨fun hu=>?_,fun hu=>?_⟩
  ·rw[h1 hu];rfl
  ·obtain⟨ρ,e,er⟩:=h2 hu;exact⟨ρ,by rw[e];rfl,er⟩
 | some (.ok a τ),h,k,hm=>
  obtain⟨h1,h2⟩:=h;have hE:=hm a τ rfl;have hk:=k a τ rfl;show vi lim' (f a τ) _;by_cases hu:τ.used<=lim'
  ·rw[h1 hu];exact hk hu
  ·obtain⟨ρ,e,er⟩:=h2 (by omega);rw[e];show vi lim' (f a τ) (some (.trap 1 ρ))
   match f a τ,hE with
   | none,_=>trivial
   | some (.ok b υ),hE=>
    have:=Adv.more hE;exact⟨fun h=>by omega,fun _=>⟨ρ,rfl,er⟩⟩
   | some (.trap t υ),hE=>
    have:=Adv.more hE.1;exact fun _=>⟨fun h=>by omega,fun _=>⟨ρ,rfl,er⟩⟩
def jI{α:Type}{lim':Int}{σ:Stt}(a:α)(h:σ.used<=lim'):vi lim' (qv a σ) (qv a σ):=⟨fun _=>rfl,fun h'=>by omega⟩
def zj8{lim':Int}{σ:Stt}(r:Option (Va×Int))(h:σ.used<=lim'):vi lim' (endE r σ) (endE r σ):=by
 unfold endE
 split
 ·trivial
 ·split
  ·exact jI _ h
  ·exact fun _=>⟨fun _=>rfl,fun h'=>by omega⟩
def zld{lim lim' n:Int}{σ:Stt}(hn:0<=n):vi lim' (useE lim n σ) (useE lim' n σ):=by
 unfold useE
 split
 ·exact fun h=>absurd rfl h
 ·refine⟨fun h=>?_,fun h=>?_⟩
  ·rw[if_neg (by simp at h;omega)]
  ·rw[if_pos (by simp at h;omega)];exact⟨_,rfl,rfl⟩
def zj7{lim':Int}{σ:Stt}(k v:List Int)(h:σ.used<=lim'):vi lim' (wO k v σ) (wO k v σ):=by
 unfold wO
 split
 ·exact jI _ h
 ·exact fun _=>⟨fun _=>rfl,fun h'=>by omega⟩
def zj9{lim':Int}{σ:Stt}(k:List Int)(h:σ.used<=lim'):vi lim' (zpo k σ) (zpo k σ):=jI _ h
def zds{α:Type}{lim:Int}{σ τ:Stt}{m:Ev α}{a:α}(h:Ends lim σ m)(e:m=some (.ok a τ)):τ.used<=lim:=by
 rw[e]at h;exact Adv.most h
structure Both{α:Type}(lim lim':Int)(σ:Stt)(m m':Ev α):Prop where
 e:Ends lim σ m
 a:σ.used<=lim'->vi lim' m m'
def Both.bind{α β:Type}{lim lim':Int}{σ:Stt}{m m':Ev α}{f f':α->Stt->Ev β}(h:Both lim lim' σ m m')(k:∀a τ,τ.used<=lim->Both lim lim' τ (f a τ) (f' a τ)):Both lim lim' σ (m.bind f) (m'.bind f'):=
 ⟨h.e.bind fun a τ _ hu=>(k a τ hu).e,fun hl=>(h.a hl).bind (lim:=lim) (σ:=σ) (fun a τ e hu=>(k a τ (zds h.e e)).a hu) fun a τ e=>(k a τ (zds h.e e)).e⟩
def Both.ite{α:Type}{lim lim':Int}{σ:Stt}{p:Prop}[Decidable p]{a a' b b':Ev α}(h:p->Both lim lim' σ a a')(k:¬p->Both lim lim' σ b b'):Both lim lim' σ (if p then a else b) (if p then a' else b'):=by
 split
 ·exact h (by assumption)
 ·exact k (by assumption)
def zS{α:Type}{lim lim':Int}{σ:Stt}(a:α)(h:σ.used<=lim):Both lim lim' σ (qv a σ) (qv a σ):=⟨qU a h,jI a⟩
def zN{α:Type}{lim lim':Int}{σ:Stt}{m:Ev α}:Both lim lim' σ none m:=⟨trivial,fun _=>trivial⟩
def zb9{lim lim':Int}{σ:Stt}(r:Option (Va×Int))(h:σ.used<=lim):Both lim lim' σ (endE r σ) (endE r σ):=⟨zcb r h,zj8 r⟩
def jL{lim lim' n:Int}{σ:Stt}(hn:0<=n)(h:σ.used<=lim):Both lim lim' σ (useE lim n σ) (useE lim' n σ):=⟨vM hn h,fun _=>zld hn⟩
def zn6{lim lim':Int}{σ:Stt}(k v:List Int)(h:σ.used<=lim):Both lim lim' σ (putG lim k v σ) (putG lim' k v σ):=by
 refine⟨zhr k v h,fun hl=>?_⟩;have hn:=j9 k.length v.length;unfold putG useE
 split
 ·exact fun h=>absurd rfl h
 ·show vi lim' (wO k v _) _;by_cases hu:σ.used+xC k.length v.length<=lim'
  ·rw[if_neg (by omega)];show vi lim' _ (wO k v _);exact zj7 k v hu
  ·rw[if_pos (by omega)];show vi lim' _ (some _);unfold wO
   split
   ·exact⟨fun h=>by simp at h;omega,fun _=>⟨_,rfl,rfl⟩⟩
   ·exact fun _=>⟨fun h=>by simp at h;omega,fun _=>⟨_,rfl,rfl⟩⟩
def zmq{lim lim':Int}{σ:Stt}(k:List Int)(h:σ.used<=lim):Both lim lim' σ (delG lim k σ) (delG lim' k σ):=by
 refine⟨zgv k h,fun hl=>?_⟩;unfold delG useE
 split
 ·exact fun h=>absurd rfl h
 ·by_cases hu:σ.used+4<=lim'
  ·rw[if_neg (by omega)];exact zj9 k hu
  ·rw[if_pos (by omega)];exact⟨fun h=>by simp at h;omega,fun _=>⟨_,rfl,rfl⟩⟩
structure zrs(lim lim':Int)(F:List Nat->Option Xf)(n:Nat):Prop where
 e:∀c env e σ,σ.used<=lim->Both lim lim' σ (qD lim F n c env e σ) (qD lim' F n c env e σ)
 es:∀c env l σ,σ.used<=lim->Both lim lim' σ (qK lim F n c env l σ) (qK lim' F n c env l σ)
 c:∀c f vs σ,σ.used<=lim->Both lim lim' σ (xo lim F n c f vs σ) (xo lim' F n c f vs σ)
 b:∀c env l σ,σ.used<=lim->Both lim lim' σ (qS lim F n c env l σ) (qS lim' F n c env l σ)
 i:∀c env l σ,σ.used<=lim->Both lim lim' σ (xe lim F n c env l σ) (xe lim' F n c env l σ)
 s:∀c env s σ,σ.used<=lim->Both lim lim' σ (ji lim F n c env s σ) (ji lim' F n c env s σ)
 l:∀c i b aZ body env σ,σ.used<=lim->Both lim lim' σ (k7 lim F n c i b aZ body env σ) (k7 lim' F n c i b aZ body env σ)
def zjq(lim lim':Int)(F:List Nat->Option Xf):∀n,zrs lim lim' F n
 | 0=>⟨fun _ _ _ _ _=>by unfold qD;exact zN,fun _ _ _ _ _=>by unfold qK;exact zN,fun _ _ _ _ _=>by unfold xo;exact zN,fun _ _ _ _ _=>by unfold qS;exact zN,fun _ _ _ _ _=>by unfold xe;exact zN,fun _ _ _ _ _=>by unfold ji;exact zN,fun _ _ _ _ _ _ _ _=>by unfold k7;exact zN⟩
 | n+1=>by
  have ih:=zjq lim lim' F n;refine⟨?_,?_,?_,?_,?_,?_,?_⟩
  ·intro c env e σ h;obtain⟨op,num,aZ,aX,aW⟩:=e;unfold qD;refine(jL (by decide) h).bind fun _ τ h=>?_;refine .ite (fun _=>zS _ h) fun _=>.ite (fun _=>zS _ h) fun _=>.ite (fun _=>zS _ h) fun _=>.ite (fun _=>?_) fun _=>.ite (fun _=>?_) fun _=>?_
   ·cases kQ env aZ with
    | none=>exact zN
    | some v=>exact zS _ h
   ·cases F aZ with
    | none=>exact zN
    | some f=>exact(ih.es _ _ _ _ h).bind fun _ τ h=>ih.c _ _ _ _ h
   ·match aX with
    | []=>exact zN
    | [a]=>
     refine .ite (fun _=>zN) fun _=>(ih.e _ _ _ _ h).bind fun v τ h=>?_;refine .ite (fun _=>zb9 _ h) fun _=>.ite (fun _=>zN) fun _=>.ite (fun _=>?_) fun _=>.ite (fun _=>?_) fun _=>.ite (fun _=>zS _ h) fun _=>zN
     ·exact(jL (by decide) h).bind fun _ τ h=>zS _ h
     ·exact(jL (by decide) h).bind fun _ τ h=>zS _ h
    | [a,b]=>
     refine .ite (fun _=>zN) fun _=>(ih.e _ _ _ _ h).bind fun v τ h=>?_;refine .ite (fun _=>.ite (fun _=>ih.e _ _ _ _ h) fun _=>zS _ h) fun _=>.ite (fun _=>.ite (fun _=>zS _ h) fun _=>ih.e _ _ _ _ h) fun _=>?_;refine(ih.e _ _ _ _ h).bind fun u τ h=>.ite (fun _=>?_) fun _=>zb9 _ h;exact(jL (by omega) h).bind fun _ τ h=>zb9 _ h
    | _::_::_::_=>exact zN
  ·intro c env l σ h;cases l with
   | nil=>unfold qK;exact zS _ h
   | cons e l=>
    unfold qK;exact(ih.e _ _ _ _ h).bind fun _ τ h=>(ih.es _ _ _ _ h).bind fun _ τ h=>zS _ h
  ·intro c f vs σ h;unfold xo
   split
   ·exact⟨⟨Adv.refl h,by decide⟩,fun hl _=>⟨fun _=>rfl,fun h'=>by omega⟩⟩
   ·split
    ·exact(ih.b _ _ _ _ h).bind fun _ τ h=>zS _ h
    ·exact zN
  ·intro c env l σ h;cases l with
   | nil=>unfold qS;exact zS _ h
   | cons s l=>
    unfold qS;refine(ih.s _ _ _ _ h).bind fun r τ h=>?_
    split
    ·exact zS _ h
    ·exact ih.b _ _ _ _ h
  ·intro c env l σ h;unfold xe;exact(ih.b _ _ _ _ h).bind fun _ τ h=>zS _ h
  ·intro c env s σ h;obtain⟨op,aZ,aY,body,els,aW⟩:=s;unfold ji;refine(jL (by decide) h).bind fun _ τ h=>.ite (fun _=>?_) fun _=>(ih.es _ _ _ _ h).bind fun vs τ h=>.ite (fun _=>?_) fun _=>.ite (fun _=>zS _ h) fun _=>?_
   ·match aY with
    | []=>exact zN
    | [e]=>exact(ih.e _ _ _ _ h).bind fun v τ h=>.ite (fun _=>ih.i _ _ _ _ h) fun _=>ih.i _ _ _ _ h
    | _::_::_=>exact zN
   ·match vs with
    | []=>exact zN
    | [_]=>exact zN
    | [a,b]=>exact(ih.l _ _ _ _ _ _ _ h).bind fun _ τ h=>zS _ h
    | _::_::_::_=>exact zN
   ·match vs with
    | []=>exact zN
    | [a]=>
     refine .ite (fun _=>zS _ h) fun _=>.ite (fun _=>?_) fun _=>.ite (fun _=>.ite (fun _=>zN) fun _=>?_) fun _=>.ite (fun _=>zS _ h) fun _=>zN
     ·cases setE env aZ a with
      | none=>exact zN
      | some e=>exact zS _ h
     ·exact(zmq _ h).bind fun _ τ h=>zS _ h
    | [a,b]=>exact .ite (fun _=>(zn6 _ _ h).bind fun _ τ h=>zS _ h) fun _=>zN
    | _::_::_::_=>exact zN
  ·intro c i b aZ body env σ h;unfold k7
   split
   ·refine(jL (by decide) h).bind fun _ τ h=>(ih.i _ _ _ _ h).bind fun r τ h=>?_
    split
    ·exact zS _ h
    ·exact ih.l _ _ _ _ _ _ _ h
   ·exact zS _ h
def sk(env:Env):List (List (List Nat×Int)):=env.map fun f=>f.map fun p=>(p.1,p.2.t)
def zBv:List (List (List Nat×Int))->List Nat->Option Int
 | [],_=>none
 | f::r,s=>match seek f s with
  | some v=>some v
  | none=>zBv r s
def zAy(v:Va):Prop:=v.t=3->v.n=0
def zFv(env:Env):Prop:=∀f∈env,∀p∈f,zAy p.2
def TV(t:Int)(v:Va):Prop:=v.t=t/\zAy v
structure Fit(env:Env)(sc:zX):Prop where
 ne:env≠[]
 good:zFv env
 all:∀s d,seek sc s=some d->zBv (sk env) s=some d.1
 known:∀s d,seek sc s=some d->1<=d.1/\d.1<=3
def zAp{α β:Type}(g:α->β)(f:List (List Nat×α))(s:List Nat):seek (f.map fun p=>(p.1,g p.2)) s=(seek f s).map g:=zg9 g s f
def zCu{α:Type}{f:List (List Nat×α)}{v:α}(h:seek f s=some v):(s,v)∈f:=by
 unfold seek at h;cases hf:f.find? (fun p=>p.1==s)with
 | none=>rw[hf]at h;cases h
 | some p=>
  rw[hf]at h;injection h with h
  have h1:=List.find?_some hf;have h2:=List.mem_of_find?_eq_some hf;simp at h1;rw[<- h1,<- h];exact h2
def zGf:∀(env:Env) (s:List Nat),zBv (sk env) s=(kQ env s).map (·.t)
 | [],s=>rfl
 | f::r,s=>by
  unfold sk;rw[List.map_cons];unfold zBv kQ;rw[zAp (fun v:Va=>v.t) f s];cases seek f s with
  | some v=>rfl
  | none=>exact zGf r s
def zAz:∀ {env:Env} {s:List Nat} {v:Va},zFv env->kQ env s=some v->zAy v
 | [],s,v,_,h=>by cases h
 | f::r,s,v,hg,h=>by
  unfold kQ at h;cases hs:seek f s with
  | some u=>
   rw[hs]at h;injection h with h
   rw[<- h];exact hg f (by simp) _ (zCu hs)
  | none=>
   rw[hs]at h;exact zAz (fun f hf=>hg f (by simp[hf])) h
def Fit.look{env:Env}{sc:zX}(h:Fit env sc){d:Int×Bool}(hs:seek sc s=some d):∃v,kQ env s=some v/\TV d.1 v:=by
 have h1:=h.all s d hs;rw[zGf]at h1;cases hl:kQ env s with
 | none=>rw[hl]at h1;cases h1
 | some v=>
  rw[hl]at h1;injection h1 with h1
  exact⟨v,rfl,h1,zAz h.good hl⟩
def zGd{f:List (List Nat×Va)}{v:Va}(x:List Nat):seek (updF f s v) x=if s=x then some v else seek f x:=by
 induction f with
 | nil=>
  unfold updF seek;by_cases h:s=x
  ·simp[h]
  ·simp[h]
 | cons p l ih=>
  unfold updF
  split
  ·rename_i hp
   unfold seek;by_cases h:s=x
   ·simp[h]
   ·have:¬p.1=x:=by rw[hp];exact h
    simp[h,this]
  ·rename_i hp
   unfold seek at ih⊢;by_cases h:p.1=x
   ·have h2:¬s=x:=fun e=>hp (by rw[e];exact h);rw[List.find?_cons_of_pos (by simpa using h),List.find?_cons_of_pos (by simpa using h),if_neg h2]
   ·rw[List.find?_cons_of_neg (by simpa using h),List.find?_cons_of_neg (by simpa using h)];exact ih
def zAa{f:List (List Nat×Va)}{v:Va}(hf:∀p∈f,zAy p.2)(hv:zAy v):∀p∈updF f s v,zAy p.2:=by
 induction f with
 | nil=>intro p hp;simp[updF]at hp;rw[hp];exact hv
 | cons q l ih=>
  intro p hp;unfold updF at hp
  split at hp
  ·rcases aC.1 hp with e|hp
   ·rw[e];exact hv
   ·exact hf p (by simp[hp])
  ·rcases aC.1 hp with e|hp
   ·rw[e];exact hf q (by simp)
   ·exact ih (fun p hp=>hf p (by simp[hp])) p hp
def Fit.decl{f:List (List Nat×Va)}{r:Env}{sc:zX}(h:Fit (f::r) sc){d:Int×Bool}(hs:seek sc s=none){v:Va}(hv:TV d.1 v)(hd:1<=d.1/\d.1<=3):Fit (updF f s v::r) (sc++[(s,d)]):=by
 have hk:∀x d',seek (sc++[(s,d)]) x=some d'->(x≠s/\seek sc x=some d')\/(x=s/\d'=d):=by
  intro x d' hx;unfold seek at hx;rw[List.find?_append]at hx;cases hf:sc.find? (fun p=>p.1==x)with
  | some q=>
   rw[hf]at hx;have h1:seek sc x=some d':=by unfold seek;rw[hf];exact hx
   refine .inl ⟨fun e=>?_,h1⟩;rw[e,hs]at h1;cases h1
  | none=>
   rw[hf]at hx;by_cases e:s=x
   ·simp[e]at hx;exact .inr ⟨e.symm,hx.symm⟩
   ·simp[e]at hx
 refine⟨by simp,?_,?_,?_⟩
 ·intro g hg;rcases aC.1 hg with e|hg
  ·rw[e];exact zAa (h.good f (by simp)) hv.2
  ·exact h.good g (by simp[hg])
 ·intro x d' hx;rw[zGf];unfold kQ;rw[zGd];rcases hk x d' hx with⟨h1,h2⟩|⟨h1,h2⟩
  ·rw[if_neg (fun e=>h1 e.symm)];have:=h.all x d' h2;rw[zGf]at this;exact this
  ·rw[if_pos h1.symm,h2];exact congrArg some hv.1
 ·intro x d' hx;rcases hk x d' hx with⟨h1,h2⟩|⟨h1,h2⟩
  ·exact h.known x d' h2
  ·rw[h2];exact hd
def zCj{f:List (List Nat×Va)}{v u:Va}(h:seek f s=some u)(ht:v.t=u.t):(updF f s v).map (fun p=>(p.1,p.2.t))=f.map fun p=>(p.1,p.2.t):=by
 induction f with
 | nil=>cases h
 | cons p l ih=>
  unfold updF;unfold seek at h ih
  split
  ·rename_i hp
   rw[List.find?_cons_of_pos (by simpa using hp)]at h;injection h with h
   simp[hp,ht,<- h]
  ·rename_i hp
   rw[List.find?_cons_of_neg (by simpa using hp)]at h;simp[ih h]
def zDe:∀ {env:Env} {s:List Nat} {u v:Va},kQ env s=some u->v.t=u.t->zAy v->zFv env->∃env',setE env s v=some env'/\sk env'=sk env/\zFv env'
 | [],s,u,v,h,_,_,_=>by cases h
 | f::r,s,u,v,h,ht,hv,hg=>by
  unfold kQ at h;unfold setE;cases hs:seek f s with
  | some x=>
   rw[hs]at h;injection h with h
   refine⟨_,rfl,?_,?_⟩
   ·unfold sk;rw[List.map_cons,List.map_cons,zCj hs (by rw[ht,h])]
   ·intro g hg';rcases aC.1 hg' with e|hg'
    ·rw[e];exact zAa (hg f (by simp)) hv
    ·exact hg g (by simp[hg'])
  | none=>
   rw[hs]at h;obtain⟨r',h1,h2,h3⟩:=zDe h ht hv (fun f hf=>hg f (by simp[hf]));rw[h1];refine⟨_,rfl,?_,?_⟩
   ·unfold sk at h2⊢;rw[List.map_cons,List.map_cons,h2]
   ·intro g hg';rcases aC.1 hg' with e|hg'
    ·rw[e];exact hg f (by simp)
    ·exact h3 g hg'
def Fit.of{env env':Env}{sc:zX}(h:Fit env sc)(hs:sk env'=sk env)(hg:zFv env'):Fit env' sc:=
 ⟨fun e=>h.ne (by rw[e]at hs;cases env with|nil=>rfl|cons _ _=>simp[sk]at hs),hg,fun s d hd=>by rw[hs];exact h.all s d hd,h.known⟩
def zBt(env:Env)(s:List Nat):zBv (sk ([]::zap env)) s=zBv (sk env) s:=by
 unfold zap
 split
 ·rfl
 ·rfl
def zBz{env:Env}(h:zFv env):zFv ([]::zap env):=by
 intro f hf;rcases aC.1 hf with e|hf
 ·rw[e];simp
 ·refine h f ?_;unfold zap at hf
  split at hf
  ·simp[hf]
  ·exact hf
def Fit.inner{env:Env}{sc:zX}(h:Fit env sc):Fit ([]::zap env) sc:=⟨by simp,zBz h.good,fun s d hs=>by rw[zBt];exact h.all s d hs,h.known⟩
def zB5{env b:Env}(h:env≠[])(hb:sk b=sk (zap env)):sk (jj env b)=sk env:=by
 cases env with
 | nil=>exact absurd rfl h
 | cons f r=>
  cases f with
  | nil=>
   show sk ([]::b)=sk ([]::r);unfold sk at hb⊢;rw[List.map_cons,List.map_cons,hb];rfl
  | cons p f=>exact hb
def zAv{env b:Env}(hb:zFv b):zFv (jj env b):=by
 unfold jj
 split
 ·intro f hf;rcases aC.1 hf with e|hf
  ·rw[e];simp
  ·exact hb f hf
 ·exact hb
def Tot{α:Type}(g:Nat->Ev α)(P:α->Prop):Prop:=∃N r,(∀n,N<=n->g n=some r)/\∀a τ,r=.ok a τ->P a
def Tot.mono{α:Type}{g:Nat->Ev α}{P Q:α->Prop}(h:Tot g P)(k:∀a,P a->Q a):Tot g Q:=by
 obtain⟨N,r,h1,h2⟩:=h;exact⟨N,r,h1,fun a τ e=>k a (h2 a τ e)⟩
def zy8{α:Type}{m:Ev α}{P:α->Prop}(r:Ou α)(h:m=some r)(k:∀a τ,r=.ok a τ->P a):Tot (fun _=>m) P:=⟨0,r,fun _ _=>h,k⟩
def wu{α:Type}{P:α->Prop}(a:α)(σ:Stt)(h:P a):Tot (fun _=>qv a σ) P:=zy8 _ rfl fun b τ e=>by injection e with e _;rw[<- e];exact h
def zGa{lim n:Int}{σ:Stt}:Tot (fun _=>useE lim n σ) (fun _=>True):=by
 unfold useE
 split
 ·exact zy8 _ rfl fun _ _ _=>trivial
 ·exact zy8 _ rfl fun _ _ _=>trivial
def Tot.bind{α β:Type}{lim:Int}{σ:Stt}{A:Nat->Ev α}{B:Nat->α->Stt->Ev β}{P:α->Prop}{Q:β->Prop}(h:Tot A P)(he:∀n,Ends lim σ (A n))(k:∀a τ,P a->τ.used<=lim->σ.used<=τ.used->Tot (fun n=>B n a τ) Q):Tot (fun n=>(A n).bind fun a τ=>B n a τ) Q:=by
 obtain⟨N,r,h1,h2⟩:=h;cases r with
 | trap t τ=>exact⟨N,.trap t τ,fun n hn=>by show(A n).bind _=_;rw[h1 n hn];rfl,fun a τ e=>by cases e⟩
 | ok a τ=>
  have hA:Adv lim σ τ:=by have:=he N;rw[h1 N (aR _)]at this;exact this
  obtain⟨M,r2,k1,k2⟩:=k a τ (h2 a τ rfl) hA.most hA.more;exact⟨max N M,r2,fun n hn=>by show(A n).bind _=_;rw[h1 n (by omega)];exact k1 n (by omega),k2⟩
def vx{α:Type}{g h:Nat->Ev α}{P:α->Prop}(e:∀n,g (n+1)=h n)(k:Tot h P):Tot g P:=by
 obtain⟨N,r,h1,h2⟩:=k;refine⟨N+1,r,fun n hn=>?_,h2⟩;obtain⟨m,rfl⟩:∃m,n=m+1:=⟨n-1,by omega⟩;rw[e];exact h1 m (by omega)
def zAi(n:Int):TV 1 (intV n):=⟨rfl,fun h=>by cases h⟩
def zGg(b:Bool):TV 2 (xS b):=⟨rfl,fun h=>by cases h⟩
def zA3(s:List Int):TV 3 (ya s):=⟨rfl,fun _=>rfl⟩
def zB4:TV 0 qe:=⟨rfl,fun h=>by cases h⟩
def AnsT(t:Int)(r:Option (Va×Int)):Prop:=∃v u,r=some (v,u)/\(u=0->TV t v)
def zA5{r:Option (Va×Int)}{t:Int}(h:AnsT t r)(σ:Stt):Tot (fun _=>endE r σ) (TV t):=by
 obtain⟨v,u,rfl,h2⟩:=h;unfold endE;by_cases hu:u=0
 ·simp only[hu,if_true];exact wu _ _ (h2 hu)
 ·simp only[if_neg hu];exact zy8 _ rfl fun a τ e=>by cases e
def zA2(x:Int):AnsT 1 (some (fitI x)):=by
 unfold fitI
 split
 ·exact⟨_,_,rfl,fun _=>zAi _⟩
 ·exact⟨_,_,rfl,fun h=>by cases h⟩
def zDz(f:Int->Int->Int)(a b:Int):AnsT 1 (some (divI f a b)):=by
 unfold divI
 split
 ·exact⟨_,_,rfl,fun h=>by cases h⟩
 ·split
  ·exact⟨_,_,rfl,fun h=>by cases h⟩
  ·exact⟨_,_,rfl,fun _=>zAi _⟩
def zF7(b:Bool):AnsT 2 (some (truE b)):=⟨_,_,rfl,fun _=>zGg b⟩
def zC3(a b:List Int):AnsT 3 (some (if 256<a.length+b.length then(qe,6)else(ya (a++b),0))):=by
 split
 ·exact⟨_,_,rfl,fun h=>by cases h⟩
 ·exact⟨_,_,rfl,fun _=>zA3 _⟩
def zFu{S:List Nat}{g:Sg}(h:qN S=some g){t:Int}(ht:g.takes t=true)(h1:1<=t)(h3:t<=3):(S=[43]/\(t=1\/t=3)/\g.gives t=t)\/((S=[45]\/S=[42]\/S=[47]\/S=[37])/\t=1/\g.gives t=1)\/((S=[61,61]\/S=[33,61])/\g.gives t=2)\/((S=[60]\/S=[60,61]\/S=[62]\/S=[62,61])/\t=1/\g.gives t=2)\/((S=[38,38]\/S=[124,124])/\t=2/\g.gives t=2):=by
 unfold qN at h
 split at h
 ·injection h with h;subst h;simp at ht;exact .inl ⟨by assumption,ht,rfl⟩
 ·split at h
  ·injection h with h;subst h;simp at ht;exact .inr (.inl ⟨by assumption,ht,rfl⟩)
  ·split at h
   ·injection h with h;subst h;exact .inr (.inr (.inl ⟨by assumption,rfl⟩))
   ·split at h
    ·injection h with h;subst h;simp at ht;exact .inr (.inr (.inr (.inl ⟨by assumption,ht,rfl⟩)))
    ·split at h
     ·injection h with h;subst h;simp at ht;exact .inr (.inr (.inr (.inr ⟨by assumption,ht,rfl⟩)))
     ·cases h
def zDx{S:List Nat}{g:Sg}(h:qN S=some g){t:Int}(ht:g.takes t=true)(h1:1<=t)(h3:t<=3){v u:Va}(hv:TV t v)(hu:TV t u)(hn1:S≠[38,38])(hn2:S≠[124,124]):AnsT (g.gives t) (twoE S v u):=by
 obtain⟨ht1,hg1⟩:=hv;obtain⟨ht2,hg2⟩:=hu;unfold twoE;rcases zFu h ht h1 h3 with⟨hS,hc,e⟩|⟨hS,hc,e⟩|⟨hS,e⟩|⟨hS,hc,e⟩|⟨hS,hc,e⟩
 ·rw[e];rcases hc with hc|hc
  ·subst hc;simp only[ht1,ht2,hS];exact zA2 _
  ·subst hc;have a:=hg1 ht1;have b:=hg2 ht2;simp only[ht1,ht2,hS,a,b];exact zC3 _ _
 ·rw[e];subst hc;rcases hS with hS|hS|hS|hS
  all_goals
   simp only[ht1,ht2,hS]
   first|exact zA2 _|exact zDz _ _ _
 ·rw[e];have:t=1\/t=2\/t=3:=by omega
  rcases this with hc|hc|hc
  all_goals
   subst hc;rcases hS with hS|hS
   all_goals
    first
    | (have a:=hg1 ht1
       have b:=hg2 ht2;simp only[ht1,ht2,hS,a,b]
       exact zF7 _)
    | (simp only[ht1,ht2,hS]
       exact zF7 _)
 ·rw[e];subst hc;rcases hS with hS|hS|hS|hS
  all_goals
   simp only[ht1,ht2,hS];exact zF7 _
 ·rcases hS with hS|hS
  ·exact absurd hS hn1
  ·exact absurd hS hn2
def zD0{lim:Int}{σ:Stt}(k v:List Int):Tot (fun _=>putG lim k v σ) (fun _=>True):=by
 unfold putG useE
 split
 ·exact zy8 _ rfl fun _ _ _=>trivial
 ·show Tot (fun _=>wO k v _) _;unfold wO
  split
  ·exact zy8 _ rfl fun _ _ _=>trivial
  ·exact zy8 _ rfl fun _ _ _=>trivial
def zDi{lim:Int}{σ:Stt}(k:List Int):Tot (fun _=>delG lim k σ) (fun _=>True):=by
 unfold delG useE
 split
 ·exact zy8 _ rfl fun _ _ _=>trivial
 ·exact zy8 _ rfl fun _ _ _=>trivial
structure zAt(T:Tab5)(F:List Nat->Option Xf):Prop where
 tab:∀s d,T s=some d->∃f,F s=some f/\d=(f.params.map (·.2),f.result)
 ok:∀s f,F s=some f->(∃sc,runL (xm f.aW) [] f.params=(none,sc)/\(z7 T f.result f.body sc).1=none)/\(f.result≠0->ki f.body=true)/\0<=f.result/\f.result<=3
def TVs:List Int->List Va->Prop
 | [],[]=>True
 | t::ts,v::vs=>TV t v/\TVs ts vs
 | _,_=>False
def zFs(lim:Int)(F:List Nat->Option Xf)(c:Nat):Prop:=
 ∀s f vs σ,F s=some f->TVs (f.params.map (·.2)) vs->σ.used<=lim->Tot (fun n=>xo lim F n c f vs σ) (TV f.result)
def TotE(lim:Int)(F:List Nat->Option Xf)(T:Tab5)(c:Nat)(e:Xe):Prop:=
 ∀env sc σ t,qk T sc e=.ok t->Fit env sc->σ.used<=lim->(0<=t/\t<=3)/\Tot (fun n=>qD lim F n c env e σ) (TV t)
def zy7{lim:Int}{F:List Nat->Option Xf}{T:Tab5}{env:Env}{sc:zX}(hf:Fit env sc):∀(l:List Xe) (ts:List Int) (σ:Stt),(∀e∈l,TotE lim F T c e)->(zE T sc l).map (·.2)=ts.map Rt.ok->σ.used<=lim->Tot (fun n=>qK lim F n c env l σ) (TVs ts)
 | [],ts,σ,_,h,_=>by
  cases ts with
  | nil=>exact vx (h:=fun _=>qv [] σ) (fun n=>by unfold qK;rfl) (wu _ _ trivial)
  | cons t ts=>simp[zE]at h
 | e::l,ts,σ,he,h,hu=>by
  cases ts with
  | nil=>simp[zE]at h
  | cons t ts=>
   simp only[zE,List.map_cons,aN]at h;have h1:=(he e (by simp) env sc σ t h.1 hf hu).2;refine vx (h:=fun n=>(qD lim F n c env e σ).bind fun v τ=>(qK lim F n c env l τ).bind fun vs τ=>qv (v::vs) τ) (fun n=>by conv=>lhs;unfold qK) ?_;refine h1.bind (lim:=lim) (fun n=>(zmd lim F n).e _ _ _ _ hu) fun v τ hv hu' _=>?_;refine(zy7 hf l ts τ (fun e h=>he e (by simp[h])) h.2 hu').bind (lim:=lim) (fun n=>(zmd lim F n).es _ _ _ _ hu') fun vs ρ hvs _ _=>?_;exact wu _ _ ⟨hv,hvs⟩
def zFl{fits:Int->Bool}{p:Int×Rt}{t:Int}(h:zM fits p=.ok t):p.2=.ok t/\fits t=true:=by
 unfold zM at h
 split at h
 ·cases h
 ·split at h
  ·injection h with h
   subst h;exact⟨by assumption,by assumption⟩
  ·cases h
def zF1{fits:Int->Bool}:∀ {l:List (Int×Rt)},allR fits l=none->∃ts:List Int,l.map (·.2)=ts.map Rt.ok/\(∀t∈ts,fits t=true)
 | [],_=>⟨[],rfl,by simp⟩
 | p::l,h=>by
  unfold allR at h
  split at h
  ·cases h
  ·rename_i t ht
   obtain⟨h1,h2⟩:=zFl ht;obtain⟨ts,h3,h4⟩:=zF1 h;exact⟨t::ts,by simp[h1,h3],by simpa using⟨h2,h4⟩⟩
def zCr:∀ {l:List (Int×Rt)} {ts:List Int},vX l ts=none->l.length=ts.length->l.map (·.2)=ts.map Rt.ok
 | [],[],_,_=>rfl
 | [],_::_,_,h=>by simp at h
 | _::_,[],_,h=>by simp at h
 | p::l,t::ts,h,hl=>by
  unfold vX at h
  split at h
  ·cases h
  ·rename_i u hu
   obtain⟨h1,h2⟩:=zFl hu;simp at h2;simp only[List.map_cons];rw[h1,h2,zCr h (by simpa using hl)]
def zAo{t:Int}{vs:List Va}(h:TVs [t] vs):∃v,vs=[v]/\TV t v:=by
 match vs,h with
 | [v],h=>exact⟨v,rfl,h.1⟩
def zB6{t u:Int}{vs:List Va}(h:TVs [t,u] vs):∃v w,vs=[v,w]/\TV t v/\TV u w:=by
 match vs,h with
 | [v,w],h=>exact⟨v,w,rfl,h.1,h.2.1⟩
def zFo{α:Type}{l:List α}(h:l.length=1):∃a,l=[a]:=by
 match l,h with
 | [a],_=>exact⟨a,rfl⟩
def zF9{α:Type}{l:List α}(h:l.length=2):∃a b,l=[a,b]:=by
 match l,h with
 | [a,b],_=>exact⟨a,b,rfl⟩
def zC5{lim:Int}{F:List Nat->Option Xf}{T:Tab5}(hF:zAt T F)(hc:zFs lim F c)(op num:Int)(aZ:List Nat)(aX:List Xe)(aW:Int)(ih:∀a∈aX,TotE lim F T c a):TotE lim F T c (.mk op num aZ aX aW):=by
 intro env sc σ t he hf hu;have hbind:∀ {g:Nat->Stt->Ev Va} {P:Va->Prop},(∀τ,τ.used<=lim->Tot (fun n=>g n τ) P)->Tot (fun n=>(useE lim 1 σ).bind fun _ τ=>g n τ) P:=by
  intro g P h;exact(zGa (lim:=lim) (n:=1) (σ:=σ)).bind (lim:=lim) (fun _=>vM (by decide) hu) fun _ τ _ hτ _=>h τ hτ
 unfold qk at he;unfold jq at he;have hkl:(zE T sc aX).length=aX.length:=qf T sc aX;rw[hkl]at he;by_cases hk:zJ op aZ aX.length=false
 ·rw[if_pos hk]at he;cases he
 rw[if_neg hk]at he;have hk:zJ op aZ aX.length=true:=by simpa using hk
 by_cases h1:op=1
 ·rw[if_pos h1]at he;injection he with he
  subst he h1;refine⟨by omega,?_⟩;refine vx (h:=fun n=>(useE lim 1 σ).bind fun _ τ=>qv (intV num) τ) (fun n=>by(conv=>lhs;unfold qD);simp) (hbind fun τ _=>wu _ _ (zAi _))
 rw[if_neg h1]at he;by_cases h2:op=2
 ·rw[if_pos h2]at he;injection he with he
  subst he h2;refine⟨by omega,?_⟩;refine vx (h:=fun n=>(useE lim 1 σ).bind fun _ τ=>qv (xS (num==1)) τ) (fun n=>by(conv=>lhs;unfold qD);simp) (hbind fun τ _=>wu _ _ (zGg _))
 rw[if_neg h2]at he;by_cases h3:op=3
 ·rw[if_pos h3]at he;injection he with he
  subst he h3;refine⟨by omega,?_⟩;refine vx (h:=fun n=>(useE lim 1 σ).bind fun _ τ=>qv (ya (ints aZ)) τ) (fun n=>by(conv=>lhs;unfold qD);simp) (hbind fun τ _=>wu _ _ (zA3 _))
 rw[if_neg h3]at he;by_cases h4:op=4
 ·rw[if_pos h4]at he;unfold zfj at he;cases hs:seek sc aZ with
  | none=>rw[hs]at he;cases he
  | some d=>
   rw[hs]at he;injection he with he
   subst he h4;obtain⟨v,hv,tv⟩:=hf.look hs;have hkn:=hf.known _ _ hs;refine⟨by omega,?_⟩;refine vx (h:=fun n=>(useE lim 1 σ).bind fun _ τ=>qv v τ) (fun n=>?_) (hbind fun τ _=>wu _ _ tv)
   conv=>lhs;unfold qD
   simp[hv]
 rw[if_neg h4]at he;by_cases h5:op=5
 ·rw[if_pos h5]at he;unfold yC at he;cases hT:T aZ with
  | none=>rw[hT]at he;cases he
  | some d=>
   rw[hT]at he;dsimp only at he;by_cases hl:(zE T sc aX).length=d.1.length
   ·rw[if_neg (by simpa using hl)]at he;cases ha:vX (zE T sc aX) d.1 with
    | some e=>rw[ha]at he;cases he
    | none=>
     rw[ha]at he;injection he with he
     subst he h5;obtain⟨f,hFf,hd⟩:=hF.tab _ _ hT;have hko:=zCr ha hl;have hre:=(hF.ok _ _ hFf).2.2;rw[hd]at hko⊢;refine⟨⟨hre.1,hre.2⟩,?_⟩;refine vx (h:=fun n=>(useE lim 1 σ).bind fun _ τ=>(qK lim F n c env aX τ).bind fun vs τ=>xo lim F n c f vs τ) (fun n=>?_) (hbind fun τ hτ=>?_)
     ·conv=>lhs;unfold qD
      simp[hFf]
     ·exact(zy7 hf aX _ τ ih hko hτ).bind (lim:=lim) (fun n=>(zmd lim F n).es _ _ _ _ hτ) fun vs ρ hvs hρ _=>hc aZ f vs ρ hFf hvs hρ
   ·rw[if_pos (by simpa using hl)]at he;cases he
 rw[if_neg h5]at he;have hk':=hk;unfold zJ at hk;rw[if_neg (by omega),if_neg h5]at hk;by_cases h6:op=6
 ·rw[if_pos h6]at he hk;simp only[aM,beq_iff_eq]at hk;obtain⟨a,b,rfl⟩:=zF9 hk.1;obtain⟨g,hg⟩:=Option.isSome_iff_exists.1 hk.2;rw[hg]at he;simp only[zE,twoR]at he
  split at he
  ·cases he
  ·rename_i x hx
   split at he
   ·cases he
   ·rename_i y hy
    obtain⟨ax,fx⟩:=zFl hx;obtain⟨ay,fy⟩:=zFl hy
    split at he
    ·rename_i hxy
     injection he with he
     subst he hxy h6;have ia:=ih a (by simp) env sc;have ib:=ih b (by simp) env sc;have r1:=(ia σ x ax hf hu).1;have hx1:1<=x/\x<=3:=by
      refine⟨?_,r1.2⟩;have h0:x≠0:=by
       intro h0;subst h0;unfold qN at hg
       repeat' (split at hg)
       all_goals first|(injection hg with hg;subst hg;simp at fx)|cases hg
      omega
     have hgv:0<=g.gives x/\g.gives x<=3:=by
      rcases zFu hg fx hx1.1 hx1.2 with⟨_,_,e⟩|⟨_,_,e⟩|⟨_,e⟩|⟨_,_,e⟩|⟨_,_,e⟩
      all_goals rw[e];omega
     refine⟨hgv,?_⟩;by_cases hand:aZ=[38,38]
     ·have hb2:x=2/\g.gives x=2:=by
       rcases zFu hg fx hx1.1 hx1.2 with⟨h,_⟩|⟨h,_⟩|⟨h,_⟩|⟨h,_⟩|⟨_,e1,e2⟩
       all_goals first|exact⟨e1,e2⟩|(exfalso;rw[hand]at h;revert h;decide)
      rw[hb2.2];refine vx (h:=fun n=>(useE lim 1 σ).bind fun _ τ=>(qD lim F n c env a τ).bind fun v τ=>if v.n=1 then qD lim F n c env b τ else qv (xS false) τ) (fun n=>?_) (hbind fun τ hτ=>?_)
      ·conv=>lhs;unfold qD
       simp[hand]
      ·refine(ia τ x ax hf hτ).2.bind (lim:=lim) (fun n=>(zmd lim F n).e _ _ _ _ hτ) fun v ρ _ hρ _=>?_;by_cases hv:v.n=1
       ·simp only[hv,if_true];have:=(ib ρ x ay hf hρ).2;rw[hb2.1]at this;exact this
       ·simp only[hv,if_false];exact wu _ _ (zGg _)
     ·by_cases hor:aZ=[124,124]
      ·have hb2:x=2/\g.gives x=2:=by
        rcases zFu hg fx hx1.1 hx1.2 with⟨h,_⟩|⟨h,_⟩|⟨h,_⟩|⟨h,_⟩|⟨_,e1,e2⟩
        all_goals first|exact⟨e1,e2⟩|(exfalso;rw[hor]at h;revert h;decide)
       rw[hb2.2];refine vx (h:=fun n=>(useE lim 1 σ).bind fun _ τ=>(qD lim F n c env a τ).bind fun v τ=>if v.n=1 then qv (xS true) τ else qD lim F n c env b τ) (fun n=>?_) (hbind fun τ hτ=>?_)
       ·conv=>lhs;unfold qD
        simp[hor]
       ·refine(ia τ x ax hf hτ).2.bind (lim:=lim) (fun n=>(zmd lim F n).e _ _ _ _ hτ) fun v ρ _ hρ _=>?_;by_cases hv:v.n=1
        ·simp only[hv,if_true];exact wu _ _ (zGg _)
        ·simp only[hv,if_false];have:=(ib ρ x ay hf hρ).2;rw[hb2.1]at this;exact this
      ·refine vx (h:=fun n=>(useE lim 1 σ).bind fun _ τ=>(qD lim F n c env a τ).bind fun v τ=>(qD lim F n c env b τ).bind fun u τ=>if aZ=[43]/\v.t=3 then(useE lim (((v.s.length+u.s.length:Nat):Int) / 16) τ).bind fun _ τ=>endE (twoE aZ v u) τ else endE (twoE aZ v u) τ) (fun n=>?_) (hbind fun τ hτ=>?_)
       ·conv=>lhs;unfold qD
        simp[hand,hor]
       ·refine(ia τ x ax hf hτ).2.bind (lim:=lim) (fun n=>(zmd lim F n).e _ _ _ _ hτ) fun v ρ tv hρ _=>?_;refine(ib ρ x ay hf hρ).2.bind (lim:=lim) (fun n=>(zmd lim F n).e _ _ _ _ hρ) fun u υ tu hυ _=>?_;have ha:=zDx hg fx hx1.1 hx1.2 tv tu hand hor;by_cases hp:aZ=[43]/\v.t=3
        ·simp only[if_pos hp];exact(zGa (lim:=lim) (σ:=υ)).bind (lim:=lim) (fun _=>vM (by omega) hυ) fun _ ω _ _ _=>zA5 ha ω
        ·simp only[if_neg hp];exact zA5 ha υ
    ·cases he
 rw[if_neg h6]at he hk;have hone:∃a,aX=[a]:=by
  by_cases h7:op=7
  ·rw[if_pos h7]at hk;simp only[aM,beq_iff_eq]at hk;exact zFo hk.1
  ·rw[if_neg h7]at hk
   split at hk
   ·exact zFo (by simpa using hk)
   ·cases hk
 obtain⟨a,rfl⟩:=hone;have ia:=ih a (by simp) env sc;unfold oneR at he
 split at he
 ·cases he
 ·rename_i hall
  injection he with he
  subst he;obtain⟨ts,hts,hfit⟩:=zF1 hall;simp only[zE,List.map_cons,List.map_nil]at hts;have hx:∃x,ts=[x]:=by
   cases ts with
   | nil=>simp at hts
   | cons x r=>
    cases r with
    | nil=>exact⟨x,rfl⟩
    | cons y q=>simp at hts
  obtain⟨x,rfl⟩:=hx;simp only[List.map_cons,List.map_nil,aN,and_true]at hts;have hxu:x=(jT op aZ).1:=by simpa using hfit x (by simp)
  have hun:0<=(jT op aZ).2/\(jT op aZ).2<=3:=by
   unfold jT
   repeat' split
   all_goals simp
  refine⟨hun,?_⟩;by_cases h7:op=7
  ·rw[if_pos h7]at hk;simp only[aM,Bool.or_eq_true,beq_iff_eq]at hk;refine vx (h:=fun n=>(useE lim 1 σ).bind fun _ τ=>(qD lim F n c env a τ).bind fun v τ=>endE (oneE aZ v) τ) (fun n=>?_) (hbind fun τ hτ=>?_)
   ·conv=>lhs;unfold qD
    simp[h7]
   ·refine(ia τ x hts hf hτ).2.bind (lim:=lim) (fun n=>(zmd lim F n).e _ _ _ _ hτ) fun v ρ tv hρ _=>zA5 ?_ ρ;unfold jT at hxu⊢;rw[if_neg (by omega),if_neg (by omega),if_neg (by omega)]at hxu⊢;unfold oneE;rcases hk.2 with ht|ht
    ·rw[if_pos ht]at hxu⊢;rw[if_pos ⟨ht,tv.1.trans hxu⟩];exact zA2 _
    ·have hn:¬aZ=[45]:=by rw[ht];decide
     rw[if_neg hn]at hxu⊢;rw[if_neg (fun h=>hn h.1),if_pos ⟨ht,tv.1.trans hxu⟩];exact zF7 _
  ·rw[if_neg h7]at hk
   split at hk
   ·rename_i h8
    have hx3:x=3:=by
     rw[hxu];unfold jT;rcases h8 with h|h|h
     ·rw[if_pos h]
     ·rw[if_neg (by omega),if_pos h]
     ·rw[if_neg (by omega),if_neg (by omega),if_pos h]
    refine vx (h:=fun n=>(useE lim 1 σ).bind fun _ τ=>(qD lim F n c env a τ).bind fun v τ=>if v.t≠3 then none else if op=8 then(useE lim 2 τ).bind fun _ τ=>qv (ya (getM τ.cur v.s)) τ else if op=9 then(useE lim 2 τ).bind fun _ τ=>qv (xS (hasM τ.cur v.s)) τ else if op=10 then qv (intV v.s.length) τ else none) (fun n=>?_) (hbind fun τ hτ=>?_)
    ·conv=>lhs;unfold qD
     simp[h1,h2,h3,h4,h5,h6,h7]
    ·refine(ia τ x hts hf hτ).2.bind (lim:=lim) (fun n=>(zmd lim F n).e _ _ _ _ hτ) fun v ρ tv hρ _=>?_;have hv3:v.t=3:=tv.1.trans hx3;simp only[hv3,ne_eq,not_true_eq_false,if_false];unfold jT;by_cases h:op=8
     ·simp only[if_pos h];exact(zGa (lim:=lim) (σ:=ρ)).bind (lim:=lim) (fun _=>vM (by decide) hρ) fun _ ω _ _ _=>wu _ _ (zA3 _)
     ·by_cases h':op=9
      ·simp only[if_neg h,if_pos h'];exact(zGa (lim:=lim) (σ:=ρ)).bind (lim:=lim) (fun _=>vM (by decide) hρ) fun _ ω _ _ _=>wu _ _ (zGg _)
      ·have h'':op=10:=by omega
       simp only[if_neg h,if_neg h',if_pos h''];exact wu _ _ (zAi _)
   ·cases hk
mutual
def zEg{lim:Int}{F:List Nat->Option Xf}{T:Tab5}(hF:zAt T F)(hc:zFs lim F c):∀e:Xe,TotE lim F T c e
 | .mk op num aZ aX aW=>zC5 hF hc op num aZ aX aW (zDg hF hc aX)
def zDg{lim:Int}{F:List Nat->Option Xf}{T:Tab5}(hF:zAt T F)(hc:zFs lim F c):∀l:List Xe,∀a∈l,TotE lim F T c a
 | [],a,h=>by cases h
 | e::l,a,h=>by
  rcases aC.1 h with h|h
  ·rw[h];exact zEg hF hc e
  ·exact zDg hF hc l a h
end
structure Left(res:Int)(env:Env)(sc':zX)(must:Bool)(r:Option Va×Env):Prop where
 val:∀v,r.1=some v->TV res v
 must:must=true->r.1.isSome=true
 fit:r.1=none->Fit r.2 sc'
 ne:r.2≠[]
 good:zFv r.2
 tail:(sk r.2).tail=(sk env).tail
def TotS(lim:Int)(F:List Nat->Option Xf)(T:Tab5)(res:Int)(c:Nat)(s:Xs):Prop:=
 ∀env sc sc' σ,stmM T res s sc=(none,sc')->Fit env sc->σ.used<=lim->Tot (fun n=>ji lim F n c env s σ) (Left res env sc' (zmu s))
def TotB(lim:Int)(F:List Nat->Option Xf)(T:Tab5)(res:Int)(c:Nat)(l:List Xs):Prop:=
 ∀env sc sc' σ,z7 T res l sc=(none,sc')->Fit env sc->σ.used<=lim->Tot (fun n=>qS lim F n c env l σ) (Left res env sc' (ki l))
def zCk(s:Xs)(l:List Xs):ki (s::l)=(if l=[]then zmu s else ki l):=by
 cases l with
 | nil=>simp[ki]
 | cons t l=>simp[ki]
def zF2{lim:Int}{F:List Nat->Option Xf}{T:Tab5}{res:Int}:∀l:List Xs,(∀s∈l,TotS lim F T res c s)->TotB lim F T res c l
 | [],_=>by
  intro env sc sc' σ h hf hu;unfold z7 at h;injection h with _ h
  subst h;refine vx (h:=fun _=>qv (none,env) σ) (fun n=>by unfold qS;rfl) (wu _ _ ⟨(fun v h=>by cases h),fun h=>?_,fun _=>hf,hf.ne,hf.good,rfl⟩);simp[ki]at h
 | s::l,hs=>by
  intro env sc sc' σ h hf hu;unfold z7 at h;rcases hq:stmM T res s sc with⟨e,sc1⟩
  rw[hq]at h;cases e with
  | some e=>cases h
  | none=>
   refine vx (h:=fun n=>(ji lim F n c env s σ).bind fun r τ=>match r.1 with
    | some v=>qv (some v,r.2) τ
    | none=>qS lim F n c r.2 l τ) (fun n=>by conv=>lhs;unfold qS) ?_
   refine(hs s (by simp) env sc sc1 σ hq hf hu).bind (lim:=lim) (fun n=>(zmd lim F n).s _ _ _ _ hu) fun r τ hr hτ _=>?_;cases h1:r.1 with
   | some v=>exact wu _ _ ⟨(fun u hu=>by injection hu with hu;rw[<- hu];exact hr.val v h1),fun _=>rfl,fun h=>(by cases h),hr.ne,hr.good,hr.tail⟩
   | none=>
    refine(zF2 l (fun s h=>hs s (by simp[h])) r.2 sc1 sc' τ h (hr.fit h1) hτ).mono fun q hq=>⟨hq.val,fun hm=>?_,hq.fit,hq.ne,hq.good,hq.tail.trans hr.tail⟩;rw[zCk]at hm
    split at hm
    ·have:=hr.must hm;rw[h1]at this;cases this
    ·exact hq.must hm
def zGe{lim:Int}{F:List Nat->Option Xf}{T:Tab5}{res:Int}{l:List Xs}(hl:TotB lim F T res c l){env:Env}{sc:zX}{σ:Stt}(h:(z7 T res l sc).1=none)(hf:Fit env sc)(hu:σ.used<=lim):Tot (fun n=>xe lim F n c env l σ) (fun r=>(∀v,r.1=some v->TV res v)/\(ki l=true->r.1.isSome=true)/\sk r.2=sk env/\zFv r.2):=by
 rcases hq:z7 T res l sc with⟨e,sc1⟩
 rw[hq]at h;dsimp only at h;subst h;refine vx (h:=fun n=>(qS lim F n c ([]::zap env) l σ).bind fun r τ=>qv (r.1,jj env r.2.tail) τ) (fun n=>by conv=>lhs;unfold xe) ?_;refine(hl ([]::zap env) sc sc1 σ hq hf.inner hu).bind (lim:=lim) (fun n=>(zmd lim F n).b _ _ _ _ hu) fun r τ hr hτ _=>wu _ _ ⟨hr.val,hr.must,?_,?_⟩
 ·refine zB5 hf.ne ?_;have:=hr.tail;unfold sk at this⊢;rw[<- List.map_tail]at this;rw[this];rfl
 ·exact zAv fun f hf=>hr.good f (List.mem_of_mem_tail hf)
def zC0{env:Env}(h:zFv env):zFv env.tail:=fun f hf=>h f (List.mem_of_mem_tail hf)
def zBg{lim:Int}{F:List Nat->Option Xf}{T:Tab5}{res:Int}{aZ:List Nat}{body:List Xs}(hl:TotB lim F T res c body){sc:zX}(h:(z7 T res body (sc++[(aZ,((1:Int),true))])).1=none)(b:Int):∀(k:Nat) (i:Int) (env:Env) (σ:Stt),(lim-σ.used).toNat<=k->σ.used<=lim->env≠[]->zFv env->Fit (zfr env aZ (intV i)) (sc++[(aZ,((1:Int),true))])->(∀j,Fit (zfr env aZ (intV j)) (sc++[(aZ,((1:Int),true))])) ->
   Tot (fun n=>k7 lim F n c i b aZ body env σ) (fun r=>(∀v,r.1=some v->TV res v)/\(sk r.2).tail=(sk env).tail/\zFv r.2)
 | k,i,env,σ,hk,hu,hne,hg,hf,hall=>by
  by_cases hib:i<b
  ·refine vx (h:=fun n=>(useE lim 1 σ).bind fun _ τ=>(xe lim F n c (zfr env aZ (intV i)) body τ).bind fun r τ=>match r.1 with
    | some v=>qv (some v,r.2) τ
    | none=>k7 lim F n c (i+1) b aZ body r.2 τ) (fun n=>by(conv=>lhs;unfold k7);rw[if_pos hib]) ?_
   by_cases hgas:1 > lim-σ.used
   ·refine⟨0,.trap 1 { σ with used:=lim },fun n _=>?_,fun a τ e=>by cases e⟩;unfold useE;rw[if_pos hgas];rfl
   ·have hstep:∀ {β:Type} (g:Nat->Unit->Stt->Ev β) (n:Nat),((useE lim 1 σ).bind fun u τ=>g n u τ)=g n () { σ with used:=σ.used+1 }:=by
     intro β g n;unfold useE;rw[if_neg hgas];rfl
    have hu2:({ σ with used:=σ.used+1 }:Stt).used<=lim:=by show σ.used+1<=lim;omega
    simp only[hstep (fun n _ τ=>(xe lim F n c (zfr env aZ (intV i)) body τ).bind fun r τ=>match r.1 with
     | some v=>qv (some v,r.2) τ
     | none=>k7 lim F n c (i+1) b aZ body r.2 τ)]
    refine(zGe hl h hf hu2).bind (lim:=lim) (fun n=>(zmd lim F n).i _ _ _ _ hu2) fun r τ hr hτ hm=>?_;have hdt:(sk (zfr env aZ (intV i))).tail=(sk env).tail:=by
     cases env with
     | nil=>exact absurd rfl hne
     | cons f q=>rfl
    have hrt:(sk r.2).tail=(sk env).tail:=by rw[hr.2.2.1];exact hdt
    cases h1:r.1 with
    | some v=>exact wu _ _ ⟨(fun u hu=>by injection hu with hu;rw[<- hu];exact hr.1 v h1),hrt,hr.2.2.2⟩
    | none=>
     have hm':σ.used+1<=τ.used:=hm;have hrne:r.2≠[]:=by
      intro e;have:=hr.2.2.1;rw[e]at this;cases env with
      | nil=>exact absurd rfl hne
      | cons f q=>simp[sk,zfr]at this
     have hfr:Fit r.2 (sc++[(aZ,((1:Int),true))]):=hf.of hr.2.2.1 hr.2.2.2;have hseek:∃d,seek (sc++[(aZ,((1:Int),true))]) aZ=some d/\d.1=1:=by
      unfold seek;rw[List.find?_append];cases hq:sc.find? (fun p=>p.1==aZ)with
      | none=>exact⟨((1:Int),true),by simp,rfl⟩
      | some q=>
       have h0:=hall 0;refine⟨q.2,by simp,?_⟩;have h2:seek (sc++[(aZ,((1:Int),true))]) aZ=some q.2:=by unfold seek;rw[List.find?_append,hq];rfl
       have h3:=h0.all aZ q.2 h2;rw[zGf]at h3;cases env with
       | nil=>exact absurd rfl hne
       | cons f z=>
        unfold zfr kQ at h3;rw[zGd,if_pos rfl]at h3;simp[intV]at h3;exact h3.symm
     have hdecl:∀j,Fit (zfr r.2 aZ (intV j)) (sc++[(aZ,((1:Int),true))]):=by
      intro j;have hsk:sk (zfr r.2 aZ (intV j))=sk r.2:=by
       obtain⟨d,hd,hd1⟩:=hseek;have hrs:=hr.2.2.1;cases hr2:r.2 with
       | nil=>exact absurd hr2 hrne
       | cons f z=>
        cases henv:env with
        | nil=>exact absurd henv hne
        | cons f0 z0=>
         rw[hr2,henv]at hrs;simp only[sk,zfr,List.map_cons,aN]at hrs;have hin:∃u,seek f aZ=some u/\u.t=1:=by
          have h1:seek (f.map fun p=>(p.1,p.2.t)) aZ=some 1:=by
           rw[hrs.1,zAp (fun v:Va=>v.t),zGd,if_pos rfl];rfl
          rw[zAp (fun v:Va=>v.t)]at h1;cases hs:seek f aZ with
          | none=>rw[hs]at h1;cases h1
          | some u=>rw[hs]at h1;injection h1 with h1;exact⟨u,rfl,h1⟩
         obtain⟨u,hu1,hu2⟩:=hin;simp only[sk,zfr,List.map_cons];rw[zCj hu1 (v:=intV j) (by rw[hu2];rfl)]
      refine hfr.of hsk ?_;cases hr2:r.2 with
      | nil=>exact absurd hr2 hrne
      | cons f z=>
       intro g hg;unfold zfr at hg;have hgr:=hr.2.2.2;rw[hr2]at hgr;rcases aC.1 hg with e|hg
       ·rw[e];exact zAa (hgr f (by simp)) (zAi j).2
       ·exact hgr g (by simp[hg])
     match k with
     | 0=>omega
     | k+1=>
      refine(zBg hl h b k (i+1) r.2 τ (by omega) hτ hrne hr.2.2.2 (hdecl _) hdecl).mono fun q hq=>⟨hq.1,hq.2.1.trans hrt,hq.2.2⟩
  ·refine vx (h:=fun _=>qv (none,env) σ) (fun n=>by(conv=>lhs;unfold k7);rw[if_neg hib]) (wu _ _ ⟨(fun v h=>by cases h),rfl,hg⟩)
termination_by k=>k
def zDv{lim:Int}{F:List Nat->Option Xf}{T:Tab5}{res:Int}(hF:zAt T F)(hc:zFs lim F c)(op:Int)(aZ:List Nat)(aY:List Xe)(body els:List Xs)(aW:Int)(ib:TotB lim F T res c body)(ie:TotB lim F T res c els):TotS lim F T res c (.mk op aZ aY body els aW):=by
 intro env sc sc' σ h hf hu;have hbind:∀ {β:Type} {g:Nat->Stt->Ev β} {P:β->Prop},(∀τ,τ.used<=lim->Tot (fun n=>g n τ) P)->Tot (fun n=>(useE lim 1 σ).bind fun _ τ=>g n τ) P:=by
  intro β g P h;exact(zGa (lim:=lim) (n:=1) (σ:=σ)).bind (lim:=lim) (fun _=>vM (by decide) hu) fun _ τ _ hτ _=>h τ hτ
 have hall:=zDg hF hc aY;unfold stmM at h;by_cases hp:zj op aY.length body.isEmpty els.isEmpty=false
 ·rw[if_pos hp]at h;cases h
 rw[if_neg hp]at h;have hp:zj op aY.length body.isEmpty els.isEmpty=true:=by simpa using hp
 unfold zj at hp;have hstay:∀r:Option Va×Env,r=(none,env)->sc'=sc->(zmu (.mk op aZ aY body els aW)=false)->Left res env sc' (zmu (.mk op aZ aY body els aW)) r:=by
  intro r hr hs he;subst hr hs;exact⟨(fun v h=>by cases h),(fun h=>by rw[he]at h;cases h),fun _=>hf,hf.ne,hf.good,rfl⟩
 have hunf:∀n,op≠3->ji lim F (n+1) c env (.mk op aZ aY body els aW) σ=(useE lim 1 σ).bind fun _ σ=>(qK lim F n c env aY σ).bind fun vs σ=>
   if op=4 then(match vs with
    | [a,b]=>(k7 lim F n c a.n b.n aZ body ([]::zap env) σ).bind fun r σ=>qv (r.1,jj env r.2.tail) σ
    | _=>none)
   else if op=5 then qv (some (zay vs),env) σ
   else match vs with
    | [a]=>
     if op=1 then qv (none,zfr env aZ a) σ
     else if op=2 then(match setE env aZ a with
      | some env'=>qv (none,env') σ
      | none=>none)
     else if op=7 then(if a.t≠3 then none else(delG lim a.s σ).bind fun _ σ=>qv (none,env) σ)
     else if op=8 then qv (none,env) σ
     else none
    | [a,b]=>if op=6/\a.t=3/\b.t=3 then(putG lim a.s b.s σ).bind fun _ σ=>qv (none,env) σ else none
    | _=>none:=by
  intro n h3
  conv=>lhs;unfold ji
  simp only[if_neg h3]
 by_cases h1:op=1
 ·subst h1;simp at hp h;obtain⟨e,rfl⟩:=zFo hp.1;simp only[zE]at h;unfold letR at h
  split at h
  ·cases h
  ·rename_i t ht
   obtain⟨a1,a2⟩:=zFl ht;unfold zY at h;cases hs:seek sc aZ with
   | some d=>rw[hs]at h;cases h
   | none=>
    rw[hs]at h;injection h with _ h
    subst h;refine vx (h:=_) (fun n=>hunf n (by decide)) (hbind fun τ hτ=>?_);have ht0:=(hall e (by simp) env sc τ t a1 hf hτ).1;refine(zy7 hf [e] [t] τ hall (by show [qk T sc e]=[Rt.ok t];rw[show qk T sc e=Rt.ok t from a1]) hτ).bind (lim:=lim) (fun n=>(zmd lim F n).es _ _ _ _ hτ) fun vs ρ hvs hρ _=>?_;obtain⟨v,rfl,tv⟩:=zAo hvs;simp only[show ¬((1:Int)=4) by decide,show ¬((1:Int)=5) by decide,if_false,if_true];have hne:=hf.ne;cases henv:env with
    | nil=>exact absurd henv hne
    | cons f r=>
     rw[henv]at hf;have hfd:=hf.decl hs (d:=(t,false)) tv (by simp at a2;exact⟨by omega,ht0.2⟩);exact wu _ _ ⟨(fun v h=>by cases h),(fun h=>by simp[zmu]at h),fun _=>hfd,by simp[zfr],hfd.good,rfl⟩
 by_cases h2:op=2
 ·subst h2;simp at hp h;obtain⟨e,rfl⟩:=zFo hp.1;obtain⟨h,rfl⟩:=h;unfold setR at h;cases hs:seek sc aZ with
  | none=>rw[hs]at h;cases h
  | some d=>
   rw[hs]at h;dsimp only at h
   split at h
   ·cases h
   ·obtain⟨ts,hts,hfit⟩:=zF1 h;simp only[zE,List.map_cons,List.map_nil]at hts;cases ts with
    | nil=>simp at hts
    | cons t r=>
     cases r with
     | cons _ _=>simp at hts
     | nil=>
      simp only[List.map_cons,List.map_nil,aN,and_true]at hts;have htd:t=d.1:=by simpa using hfit t (by simp)
      refine vx (h:=_) (fun n=>hunf n (by decide)) (hbind fun τ hτ=>?_);refine(zy7 hf [e] [t] τ hall (by simp[zE,hts]) hτ).bind (lim:=lim) (fun n=>(zmd lim F n).es _ _ _ _ hτ) fun vs ρ hvs hρ _=>?_;obtain⟨v,rfl,tv⟩:=zAo hvs;obtain⟨u,hu1,hu2⟩:=hf.look hs;obtain⟨env',e1,e2,e3⟩:=zDe hu1 (v:=v) (by rw[tv.1,hu2.1,htd]) tv.2 hf.good;simp only[show ¬((2:Int)=4) by decide,show ¬((2:Int)=5) by decide,show ¬((2:Int)=1) by decide,if_false,if_true,e1];have hfe:=hf.of e2 e3;exact wu _ _ ⟨(fun v h=>by cases h),(fun h=>by simp[zmu]at h),fun _=>hfe,hfe.ne,e3,by rw[e2]⟩
 by_cases h3:op=3
 ·subst h3;simp at hp h;obtain⟨e,rfl⟩:=zFo hp;obtain⟨h,rfl⟩:=h
  split at h
  ·cases h
  ·rename_i hall2
   split at h
   ·cases h
   ·rename_i hb
    obtain⟨ts,hts,hfit⟩:=zF1 hall2;simp only[zE,List.map_cons,List.map_nil]at hts;cases ts with
    | nil=>simp at hts
    | cons t r=>
     cases r with
     | cons _ _=>simp at hts
     | nil=>
      simp only[List.map_cons,List.map_nil,aN,and_true]at hts;have fin:∀(l:List Xs) (must:Bool),(must=true->ki l=true)->∀r:Option Va×Env,((∀v,r.1=some v->TV res v)/\(ki l=true->r.1.isSome=true)/\sk r.2=sk env/\zFv r.2)->Left res env sc must r:=by
       intro l must hm r hr;have hfe:=hf.of hr.2.2.1 hr.2.2.2;exact⟨hr.1,fun h=>hr.2.1 (hm h),fun _=>hfe,hfe.ne,hr.2.2.2,by rw[hr.2.2.1]⟩
      refine vx (h:=fun n=>(useE lim 1 σ).bind fun _ τ=>(qD lim F n c env e τ).bind fun v τ=>if v.n=1 then xe lim F n c env body τ else xe lim F n c env els τ) (fun n=>?_) (hbind fun τ hτ=>?_)
      ·conv=>lhs;unfold ji
       simp
      ·refine(hall e (by simp) env sc τ t hts hf hτ).2.bind (lim:=lim) (fun n=>(zmd lim F n).e _ _ _ _ hτ) fun v ρ _ hρ _=>?_;by_cases hv:v.n=1
       ·simp only[hv,if_true];exact(zGe ib hb hf hρ).mono (fin body _ (fun h=>by simp[zmu]at h;exact h.1))
       ·simp only[hv,if_false];exact(zGe ie h hf hρ).mono (fin els _ (fun h=>by simp[zmu]at h;exact h.2))
 by_cases h4:op=4
 ·subst h4;simp at hp h;obtain⟨a,b,rfl⟩:=zF9 hp.1;obtain⟨h,rfl⟩:=h
  split at h
  ·cases h
  ·rename_i hall2
   unfold zY at h;cases hs:seek sc aZ with
   | some d=>rw[hs]at h;cases h
   | none=>
    rw[hs]at h;dsimp only at h;obtain⟨ts,hts,hfit⟩:=zF1 hall2;refine vx (h:=_) (fun n=>hunf n (by decide)) (hbind fun τ hτ=>?_);refine(zy7 hf [a,b] ts τ hall hts hτ).bind (lim:=lim) (fun n=>(zmd lim F n).es _ _ _ _ hτ) fun vs ρ hvs hρ _=>?_;have hl2:ts.length=2:=by
     have:=congrArg List.length hts;simpa[zE]using this.symm
    obtain⟨t,u,rfl⟩:=zF9 hl2;obtain⟨x,y,rfl,_,_⟩:=zB6 hvs;simp only[if_true];have hfi:=hf.inner;have hd:∀j,Fit (zfr ([]::zap env) aZ (intV j)) (sc++[(aZ,((1:Int),true))]):=fun j=>hfi.decl hs (zAi j) (by decide);refine(zBg ib h y.n _ x.n ([]::zap env) ρ (aR _) hρ (by simp) hfi.good (hd _) hd).bind (lim:=lim) (fun n=>(zmd lim F n).l _ _ _ _ _ _ _ hρ) fun r υ hr _ _=>wu _ _ ?_
    have hsk:sk (jj env r.2.tail)=sk env:=zB5 hf.ne (by
     have:=hr.2.1;unfold sk at this⊢;rw[<- List.map_tail]at this
     rw[this];rfl)
    have hfe:=hf.of hsk (zAv (zC0 hr.2.2));exact⟨hr.1,(fun h=>by simp[zmu]at h),fun _=>hfe,hfe.ne,hfe.good,by rw[hsk]⟩
 by_cases h5:op=5
 ·subst h5;simp at hp h;obtain⟨h,rfl⟩:=h;unfold endR at h
  split at h
  ·cases h
  ·rename_i hne
   obtain⟨ts,hts,hfit⟩:=zF1 h;refine vx (h:=_) (fun n=>hunf n (by decide)) (hbind fun τ hτ=>?_);refine(zy7 hf aY ts τ hall hts hτ).bind (lim:=lim) (fun n=>(zmd lim F n).es _ _ _ _ hτ) fun vs ρ hvs hρ _=>?_;simp only[show ¬((5:Int)=4) by decide,if_false,if_true];refine wu _ _ ⟨fun v hv=>?_,fun _=>rfl,(fun h=>by cases h),hf.ne,hf.good,rfl⟩;injection hv with hv
   have hl:ts.length=aY.length:=by
    have:=congrArg List.length hts;simpa[qf]using this.symm
   cases ts with
   | nil=>
    have h0:aY.length=0:=by simpa using hl.symm
    have hr0:res=0:=by
     rw[qf]at hne;simp at hne;exact hne (by cases aY with|nil=>rfl|cons _ _=>simp at h0)
    cases vs with
    | nil=>rw[<- hv,hr0];exact zB4
    | cons _ _=>exact hvs.elim
   | cons t r=>
    cases vs with
    | nil=>exact hvs.elim
    | cons x vs=>
     have:=hfit t (by simp);simp at this;rw[<- hv,<- this.2];exact hvs.1
 by_cases h6:op=6
 ·subst h6;simp at hp h;obtain⟨a,b,rfl⟩:=zF9 hp.1;obtain⟨h,rfl⟩:=h;obtain⟨ts,hts,hfit⟩:=zF1 h;refine vx (h:=_) (fun n=>hunf n (by decide)) (hbind fun τ hτ=>?_);refine(zy7 hf [a,b] ts τ hall hts hτ).bind (lim:=lim) (fun n=>(zmd lim F n).es _ _ _ _ hτ) fun vs ρ hvs hρ _=>?_;have hl2:ts.length=2:=by
   have:=congrArg List.length hts;simpa[zE]using this.symm
  obtain⟨t,u,rfl⟩:=zF9 hl2;obtain⟨x,y,rfl,tx,ty⟩:=zB6 hvs;have e1:t=3:=by simpa using hfit t (by simp)
  have e2:u=3:=by simpa using hfit u (by simp)
  have hx:x.t=3:=by rw[tx.1,e1]
  have hy:y.t=3:=by rw[ty.1,e2]
  simp only[show ¬((6:Int)=4) by decide,show ¬((6:Int)=5) by decide,hx,hy,if_false,and_self,if_true];exact(zD0 (lim:=lim) (σ:=ρ) x.s y.s).bind (lim:=lim) (fun _=>zhr _ _ hρ) fun _ υ _ _ _=>wu _ _ (hstay _ rfl rfl (by simp[zmu]))
 by_cases h7:op=7
 ·subst h7;simp at hp h;obtain⟨a,rfl⟩:=zFo hp.1;obtain⟨h,rfl⟩:=h;obtain⟨ts,hts,hfit⟩:=zF1 h;refine vx (h:=_) (fun n=>hunf n (by decide)) (hbind fun τ hτ=>?_);refine(zy7 hf [a] ts τ hall hts hτ).bind (lim:=lim) (fun n=>(zmd lim F n).es _ _ _ _ hτ) fun vs ρ hvs hρ _=>?_;have hl2:ts.length=1:=by
   have:=congrArg List.length hts;simpa[zE]using this.symm
  obtain⟨t,rfl⟩:=zFo hl2;obtain⟨x,rfl,tx⟩:=zAo hvs;have e1:t=3:=by simpa using hfit t (by simp)
  have hx:x.t=3:=by rw[tx.1,e1]
  simp only[show ¬((7:Int)=4) by decide,show ¬((7:Int)=5) by decide,show ¬((7:Int)=1) by decide,show ¬((7:Int)=2) by decide,hx,ne_eq,not_true_eq_false,if_false,if_true];exact(zDi (lim:=lim) (σ:=ρ) x.s).bind (lim:=lim) (fun _=>zgv _ hρ) fun _ υ _ _ _=>wu _ _ (hstay _ rfl rfl (by simp[zmu]))
 by_cases h8:op=8
 ·subst h8;simp at hp h;obtain⟨a,rfl⟩:=zFo hp.1;obtain⟨h,rfl⟩:=h;obtain⟨ts,hts,hfit⟩:=zF1 h;refine vx (h:=_) (fun n=>hunf n (by decide)) (hbind fun τ hτ=>?_);refine(zy7 hf [a] ts τ hall hts hτ).bind (lim:=lim) (fun n=>(zmd lim F n).es _ _ _ _ hτ) fun vs ρ hvs hρ _=>?_;have hl2:ts.length=1:=by
   have:=congrArg List.length hts;simpa[zE]using this.symm
  obtain⟨t,rfl⟩:=zFo hl2;obtain⟨x,rfl,tx⟩:=zAo hvs;simp only[show ¬((8:Int)=4) by decide,show ¬((8:Int)=5) by decide,show ¬((8:Int)=1) by decide,show ¬((8:Int)=2) by decide,show ¬((8:Int)=7) by decide,if_false,if_true];exact wu _ _ (hstay _ rfl rfl (by simp[zmu]))
 ·rw[if_neg (by omega),if_neg h6,if_neg h5,if_neg h3,if_neg h4]at hp;cases hp
mutual
def zEf{lim:Int}{F:List Nat->Option Xf}{T:Tab5}{res:Int}(hF:zAt T F)(hc:zFs lim F c):∀s:Xs,TotS lim F T res c s
 | .mk op aZ aY body els aW=>zDv hF hc op aZ aY body els aW (zF2 body (zBi hF hc body)) (zF2 els (zBi hF hc els))
def zBi{lim:Int}{F:List Nat->Option Xf}{T:Tab5}{res:Int}(hF:zAt T F)(hc:zFs lim F c):∀l:List Xs,∀a∈l,TotS lim F T res c a
 | [],a,h=>by cases h
 | e::l,a,h=>by
  rcases aC.1 h with h|h
  ·rw[h];exact zEf hF hc e
  ·exact zBi hF hc l a h
end
end
end Go.Proofs.YtcilgkdnjgmogaaGreatDoor
