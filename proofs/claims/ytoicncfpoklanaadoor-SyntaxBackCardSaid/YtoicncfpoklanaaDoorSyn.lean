/- The document's parser, as plain functions of lists of tokens; nothing of the program. Conditions: those in each theorem. -/
import Derived.Test.YtoicncfpoklanaaDoorModel
namespace Go.Proofs.YtoicncfpoklanaaDoor

/-- an expression -/
inductive Ex where
  | mk (op num : Nat) (text : List Nat) (kids : List Ex) (place : Nat)
def Ex.op : Ex → Nat | .mk o _ _ _ _ => o
def Ex.num : Ex → Nat | .mk _ n _ _ _ => n
def Ex.text : Ex → List Nat | .mk _ _ t _ _ => t
def Ex.kids : Ex → List Ex | .mk _ _ _ k _ => k
def Ex.place : Ex → Nat | .mk _ _ _ _ p => p
/-- a statement -/
inductive St where
  | mk (op : Nat) (text : List Nat) (exprs : List Ex) (body els : List St) (place : Nat)
def St.op : St → Nat | .mk o _ _ _ _ _ => o
def St.text : St → List Nat | .mk _ t _ _ _ _ => t
def St.exprs : St → List Ex | .mk _ _ e _ _ _ => e
def St.body : St → List St | .mk _ _ _ b _ _ => b
def St.els : St → List St | .mk _ _ _ _ b _ => b
def St.place : St → Nat | .mk _ _ _ _ _ p => p
/-- a function -/
structure Fu where
  name : List Nat
  params : List (List Nat × Nat)
  result : Nat
  body : List St
  place : Nat

/-- what reading comes to: a value and the tokens behind it, or an error and its place -/
inductive Res (α : Type) where
  | ok (v : α) (rest : List Tok)
  | bad (code place : Nat)
abbrev Par (α : Type) := List Tok → Res α
def Res.bind {α β : Type} (r : Res α) (f : α → List Tok → Res β) : Res β :=
  match r with
  | .ok v rest => f v rest
  | .bad c p => .bad c p
@[simp] theorem Res.bind_ok {α β : Type} (v : α) (r : List Tok) (f : α → List Tok → Res β) : (Res.ok v r).bind f = f v r := rfl
@[simp] theorem Res.bind_bad {α β : Type} (c p : Nat) (f : α → List Tok → Res β) : (Res.bad c p : Res α).bind f = .bad c p := rfl
/-- it leaves no more tokens than there were -/
def Shrinks {α : Type} (p : Par α) : Prop := ∀ ts v r, p ts = .ok v r → r.length ≤ ts.length
/-- it leaves fewer tokens than there were -/
def Takes {α : Type} (p : Par α) : Prop := ∀ ts v r, p ts = .ok v r → r.length < ts.length

/-- the token behind the last one -/
def noTok (z : Nat) : Tok := ⟨0, [], 0, z⟩
def peekT (z : Nat) : List Tok → Tok
  | [] => noTok z
  | t :: _ => t
def isOne (ss : List (List Nat)) (t : Tok) : Bool := decide (t.kind = 4) && ss.contains t.text
def seesT (z : Nat) (ss : List (List Nat)) (ts : List Tok) : Bool := isOne ss (peekT z ts)
def failT {α : Type} (z c : Nat) (ts : List Tok) : Res α := .bad c (peekT z ts).place
/-- a token of a kind -/
def takeT (z k : Nat) (ts : List Tok) : Res Tok := if (peekT z ts).kind = k then .ok (peekT z ts) ts.tail else failT z 41 ts
def wantT (z : Nat) (s : List Nat) (ts : List Tok) : Res Unit := if seesT z [s] ts then .ok () ts.tail else failT z 41 ts
def nameP (z : Nat) (ts : List Tok) : Res (List Nat) := (takeT z 1 ts).bind fun t r => .ok t.text r

/-- operands with signs between them -/
def moreG (z : Nat) (ss : List (List Nat)) (p : Par Ex) : Nat → Ex → Par Ex
  | 0, x, ts => .ok x ts
  | f + 1, x, ts => if seesT z ss ts then (p ts.tail).bind fun y r => moreG z ss p f (.mk 6 0 (peekT z ts).text [x, y] (peekT z ts).place) r else .ok x ts
def groupedP (z : Nat) (ss : List (List Nat)) (p : Par Ex) : Par Ex := fun ts => (p ts).bind fun x r => moreG z ss p r.length x r
def joinedP (z : Nat) (p : Par Ex) (x : Ex) : Par Ex := fun ts => (takeT z 4 ts).bind fun t r => (p r).bind fun y r' => .ok (.mk 6 0 t.text [x, y] t.place) r'
def sOr : List (List Nat) := [[124, 124]]
def sAnd : List (List Nat) := [[38, 38]]
def sCmp : List (List Nat) := [[61, 61], [33, 61], [60], [60, 61], [62], [62, 61]]
def sSum : List (List Nat) := [[43], [45]]
def sProd : List (List Nat) := [[42], [47], [37]]
def sOne : List (List Nat) := [[45], [33]]
def sumP (z : Nat) (one : Par Ex) : Par Ex := groupedP z sSum (groupedP z sProd one)
def compareP (z : Nat) (one : Par Ex) : Par Ex := fun ts => (sumP z one ts).bind fun x r => if seesT z sCmp r then joinedP z (sumP z one) x r else .ok x r
def levelsP (z : Nat) (one : Par Ex) : Par Ex := groupedP z sOr (groupedP z sAnd (compareP z one))

/-- parts with commas between them, behind the first -/
def moreL {α : Type} (z : Nat) (p : Par α) : Nat → List α → Par (List α)
  | 0, l, ts => (wantT z [41] ts).bind fun _ r => .ok l r
  | f + 1, l, ts => if seesT z [[44]] ts then (p ts.tail).bind fun y r => moreL z p f (l ++ [y]) r else (wantT z [41] ts).bind fun _ r => .ok l r
def listP {α : Type} (z : Nat) (p : Par α) : Par (List α) := fun ts =>
  (wantT z [40] ts).bind fun _ r => if seesT z [[41]] r then .ok [] r.tail else (p r).bind fun x r' => moreL z p r'.length [x] r'
def enclosedP (z : Nat) (e : Par Ex) : Par (List Ex) := fun ts => (wantT z [40] ts).bind fun _ r => (e r).bind fun x r' => (wantT z [41] r').bind fun _ r'' => .ok [x] r''
def pairP (z : Nat) (e : Par Ex) : Par (List Ex) := fun ts => (wantT z [40] ts).bind fun _ r => (e r).bind fun x r' => (wantT z [44] r').bind fun _ r'' => (e r'').bind fun y q => (wantT z [41] q).bind fun _ q' => .ok [x, y] q'
def namedP (z : Nat) (e : Par Ex) : Par Ex := fun ts => (takeT z 1 ts).bind fun t r =>
  if seesT z [[40]] r then (listP z e r).bind fun l r' => .ok (.mk 5 0 t.text l t.place) r' else .ok (.mk 4 0 t.text [] t.place) r
def wordedP (z : Nat) (e : Par Ex) : Par Ex := fun ts =>
  if seesT z [[116, 114, 117, 101]] ts then .ok (.mk 2 1 [] [] 0) ts.tail
  else if seesT z [[102, 97, 108, 115, 101]] ts then .ok (.mk 2 0 [] [] 0) ts.tail
  else if seesT z [[103, 101, 116]] ts then (enclosedP z e ts.tail).bind fun l r => .ok (.mk 8 0 [] l 0) r
  else if seesT z [[104, 97, 115]] ts then (enclosedP z e ts.tail).bind fun l r => .ok (.mk 9 0 [] l 0) r
  else (wantT z [108, 101, 110] ts).bind fun _ q => (enclosedP z e q).bind fun l r => .ok (.mk 10 0 [] l 0) r
def Ex.at (e : Ex) (p : Nat) : Ex := .mk e.op e.num e.text e.kids p
def primaryP (z : Nat) (e : Par Ex) : Par Ex := fun ts =>
  if (peekT z ts).kind = 2 then .ok (.mk 1 (peekT z ts).num [] [] (peekT z ts).place) ts.tail
  else if (peekT z ts).kind = 3 then .ok (.mk 3 0 (peekT z ts).text [] (peekT z ts).place) ts.tail
  else if (peekT z ts).kind = 1 then namedP z e ts
  else if seesT z [[40]] ts then (enclosedP z e ts).bind fun l r => .ok (l.headD (.mk 0 0 [] [] 0)) r
  else (wordedP z e ts).bind fun x r => .ok (x.at (peekT z ts).place) r
/-- with signs ahead, or none; o: of one depth more -/
def oneS (z : Nat) (e o : Par Ex) : Par Ex := fun ts =>
  if seesT z sOne ts then (o ts.tail).bind fun x r => .ok (.mk 7 0 (peekT z ts).text [x] (peekT z ts).place) r else primaryP z e ts
/-- an EXPR and a ONE, with g levels left -/
def both (z : Nat) : Nat → Par Ex × Par Ex
  | 0 => (fun ts => failT z 42 ts, fun ts => failT z 42 ts)
  | g + 1 => (levelsP z (oneS z (both z g).1 (both z g).2), oneS z (both z g).1 (both z g).2)
def exprP (z g : Nat) : Par Ex := (both z g).1
def oneP (z g : Nat) : Par Ex := (both z g).2

def typeP (z : Nat) : Par Nat := fun ts =>
  if seesT z [[105, 110, 116]] ts then .ok 1 ts.tail else if seesT z [[98, 111, 111, 108]] ts then .ok 2 ts.tail
  else (wantT z [98, 121, 116, 101, 115] ts).bind fun _ r => .ok 3 r
/-- a name, the sign =, and an expression -/
def setP (z : Nat) (e : Par Ex) : Par (List Nat × Ex) := fun ts => (nameP z ts).bind fun s r => (wantT z [61] r).bind fun _ r' => (e r').bind fun x q => .ok (s, x) q
def setsT (ts : List Tok) : Bool :=
  match ts with
  | a :: b :: _ => decide (a.kind = 1) && isOne [[61]] b
  | _ => false
def simpleP (z : Nat) (e : Par Ex) : Par St := fun ts =>
  if seesT z [[108, 101, 116]] ts then (setP z e ts.tail).bind fun x r => .ok (.mk 1 x.1 [x.2] [] [] 0) r
  else if seesT z [[114, 101, 116, 117, 114, 110]] ts then (if seesT z [[59]] ts.tail then .ok (.mk 5 [] [] [] [] 0) ts.tail else (e ts.tail).bind fun x r => .ok (.mk 5 [] [x] [] [] 0) r)
  else if seesT z [[112, 117, 116]] ts then (pairP z e ts.tail).bind fun l r => .ok (.mk 6 [] l [] [] 0) r
  else if seesT z [[100, 101, 108]] ts then (enclosedP z e ts.tail).bind fun l r => .ok (.mk 7 [] l [] [] 0) r
  else if setsT ts then (setP z e ts).bind fun x r => .ok (.mk 2 x.1 [x.2] [] [] 0) r
  else (e ts).bind fun x r => .ok (.mk 8 [] [x] [] [] 0) r
def choiceP (z : Nat) (e : Par Ex) (b : Par (List St)) : Par St := fun ts => (e ts).bind fun x r => (b r).bind fun l q =>
  if seesT z [[101, 108, 115, 101]] q then (b q.tail).bind fun m q' => .ok (.mk 3 [] [x] l m 0) q' else .ok (.mk 3 [] [x] l [] 0) q
def loopP (z : Nat) (e : Par Ex) (b : Par (List St)) : Par St := fun ts => (setP z e ts).bind fun x r => (wantT z [116, 111] r).bind fun _ r' => (e r').bind fun y q => (b q).bind fun l q' => .ok (.mk 4 x.1 [x.2, y] l [] 0) q'
def St.at (s : St) (p : Nat) : St := .mk s.op s.text s.exprs s.body s.els p
def stmtP (z : Nat) (e : Par Ex) (b : Par (List St)) : Par St := fun ts =>
  (if seesT z [[105, 102]] ts then choiceP z e b ts.tail else if seesT z [[102, 111, 114]] ts then loopP z e b ts.tail
   else (simpleP z e ts).bind fun s r => (wantT z [59] r).bind fun _ r' => .ok s r').bind fun s r => .ok (s.at (peekT z ts).place) r
def moreS (z : Nat) (p : Par St) : Nat → List St → Par (List St)
  | 0, l, ts => if seesT z [[125]] ts then .ok l ts.tail else (p ts).bind fun _ _ => failT z 41 ts
  | f + 1, l, ts => if seesT z [[125]] ts then .ok l ts.tail else (p ts).bind fun s r => moreS z p f (l ++ [s]) r
/-- a block, with g levels left -/
def blockP (z : Nat) : Nat → Par (List St)
  | 0 => fun ts => failT z 42 ts
  | g + 1 => fun ts => (wantT z [123] ts).bind fun _ r => moreS z (stmtP z (exprP z g) (blockP z g)) r.length [] r
def paramP (z : Nat) : Par (List Nat × Nat) := fun ts => (nameP z ts).bind fun s r => (wantT z [58] r).bind fun _ r' => (typeP z r').bind fun t q => .ok (s, t) q
def funcP (z : Nat) : Par Fu := fun ts => (wantT z [102, 110] ts).bind fun _ r => (nameP z r).bind fun s r1 => (listP z (paramP z) r1).bind fun l r2 =>
  (if seesT z [[58]] r2 then typeP z r2.tail else .ok 0 r2).bind fun t r3 => (blockP z 32 r3).bind fun b r4 => .ok ⟨s, l, t, b, (peekT z ts).place⟩ r4
def moreF (z : Nat) : Nat → List Fu → Par (List Fu)
  | 0, l, ts => .ok l ts
  | f + 1, l, ts => if ts.isEmpty then .ok l [] else (funcP z ts).bind fun x r => moreF z f (l ++ [x]) r
def programP (z : Nat) : Par (List Fu) := fun ts => moreF z ts.length [] ts

/-- the program that a text is, or an error and its place -/
structure Parsed where
  err : Nat
  funcs : List Fu
  place : Nat
def parsed (l : List Nat) : Parsed :=
  if (lexed l).err = 0 then
    match programP l.length (lexed l).toks with
    | .ok fs _ => ⟨0, fs, 0⟩
    | .bad c p => ⟨c, [], p⟩
  else ⟨(lexed l).err, [], (lexed l).place⟩
end Go.Proofs.YtoicncfpoklanaaDoor
