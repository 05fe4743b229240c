/- The walk of StoreTells. Conditions: what is read lies in memory. -/
import Derived.Test.YtfcoccmbabmihaaTv
import Derived.Test.YtfcoccmbabmihaaTs
import Derived.Test.YtfcoccmbabmihaaTc
import Derived.Test.YtfcoccmbabmihaaTg
namespace Go.Proofs.Ytfcoccmbabmihaa
open Go.RowKit
set_option linter.unusedSimpArgs false
set_option linter.unusedVariables false

/-- so it is now and in every later world -/
def Ev (w : World) (F : World → Prop) : Prop := ∀ w', Below w.heap.size w w' → F w'
theorem Ev.on {w w1 : World} {F : World → Prop} (h : Ev w F) (hb : Below w.heap.size w w1) : Ev w1 F := fun w' h' => h w' (hb.trans (h'.mono hb.size))
theorem Ev.now {w : World} {F : World → Prop} (h : Ev w F) : F w := h w (Below.refl _ _)
theorem ev_prs {w : World} {A : Option Addr} {c : Nat} {ls : List PR} (h : Prs w w.heap.size A c ls) : Ev w fun w' => Prs w' w'.heap.size A c ls := fun _ hb => h.on hb
theorem ev_sb {w : World} {u : Value} {l : List Int} (h : SB w w.heap.size u l) : Ev w fun w' => SB w' w'.heap.size u l := fun _ hb => h.on hb
theorem ev_own {w : World} {base n : Nat} {v : Value} {xs : List Value} (h : w.ownsRow base 5 1 v n xs) : Ev w fun w' => w'.ownsRow base 5 1 v n xs := fun _ hb => own_belowS h hb
theorem ev_below {w0 w : World} (h : Below w0.heap.size w0 w) : Ev w fun w' => Below w0.heap.size w0 w' := fun _ hb => h.trans (hb.mono h.size)
theorem own_at {w : World} {base n c : Nat} {A : Option Addr} {xs : List Value} (h : w.ownsRow base 5 1 (.slice A n c) n xs) (hn : 0 < n) : ∃ g, A = some ⟨g, 0, none⟩ := by
  rcases h.2 with ⟨_, h2⟩ | ⟨g, cap, cur, h1, _⟩
  · omega
  · injection h1 with h1
    exact ⟨g, h1⟩
theorem own_form {w : World} {base n : Nat} {v : Value} {xs : List Value} (h : w.ownsRow base 5 1 v n xs) : ∃ A c, v = .slice A n c := by
  obtain ⟨A, c, e, _⟩ := own_lies h
  exact ⟨A, c, e⟩
/-- while the bytes of v are raised: v and the document's value are the call's own, each in its own memory -/
def Raise (w : World) (B2 B3 n : Nat) (V W : Value) (g : List Int) (wr : World) : Prop :=
  Below w.heap.size w wr ∧ (∃ zs : List Int, zs.length = n ∧ wr.ownsRow B2 5 1 V n (cellsOf zs)) ∧ wr.ownsRow B3 5 1 W n (cellsOf g)
theorem Raise.step {w wr : World} {B2 B3 n k gb c : Nat} {W : Value} {g : List Int} (h : Raise w B2 B3 n (.slice (some ⟨gb, 0, none⟩) n c) W g wr) (hw : w.heap.size ≤ B2) (hgb : B2 ≤ gb) (hlt : gb < B3) (hk : k < n) (y : Int) :
    Raise w B2 B3 n (.slice (some ⟨gb, 0, none⟩) n c) W g (wr.setCell ⟨gb, k, none⟩ (.int .u8 y)) := by
  obtain ⟨h1, ⟨zs, hz, h2⟩, h3⟩ := h
  have hs := h2.stored k (.int .u8 y)
  refine ⟨h1.setCell (p := ⟨gb, k, none⟩) (by show w.heap.size ≤ gb; omega) _, ⟨zs.set k y, by simpa using hz, ?_⟩, own_kept h3 hs.2 hlt⟩
  have e : cellsOf (zs.set k y) = (cellsOf zs).set k (.int .u8 y) := by simp [cellsOf, List.map_set]
  rw [e]
  exact hs.1
theorem Raise.cell {w wr : World} {B2 B3 n k gb c : Nat} {W : Value} {g : List Int} (h : Raise w B2 B3 n (.slice (some ⟨gb, 0, none⟩) n c) W g wr) (hk : k < n) :
    ∃ y : Int, wr.cell? ⟨gb, k, none⟩ = some (.int .u8 y) ∧ wr.frozen? ⟨gb, k, none⟩ = false := by
  obtain ⟨h1, ⟨zs, hz, h2⟩, h3⟩ := h
  have hc := h2.cells rfl k (.int .u8 (zs[k]'(by omega))) (by simp [cellsOf, hz, hk])
  rw [Addr.add_mid, Nat.zero_add] at hc
  refine ⟨_, hc, ?_⟩
  rcases h2.2 with ⟨_, h0⟩ | ⟨g', cap, cur, e, _, hg, _⟩
  · omega
  · injection e with e
    injection e with e
    injection e with e
    subst e
    simp [World.frozen?, hg]

set_option maxHeartbeats 6400000 in
set_option maxRecDepth 100000 in
theorem tells_walk7 (A0 A1 A2 A3 : Option Addr) (l : List PR) (key val b : List Int) (c0 c1 c2 c3 : Nat) (w : World) (h0 : l.length ≤ c0) (hm0 : c0 ≤ maxLen) (hp : Prs w w.heap.size A0 c0 l)
    (sk : SB w w.heap.size (.slice A1 key.length c1) key) (sv : SB w w.heap.size (.slice A2 val.length c2) val) (sb : SB w w.heap.size (.slice A3 b.length c3) b) :
    Calls Try.prog 3 #[.slice A0 l.length c0, .slice A1 key.length c1, .slice A2 val.length c2, .slice A3 b.length c3] w fun e w' => e = .returned (.bool true) ∧ Below w.heap.size w w' := by
  have FB := Lib.hid (ev_below (Below.refl w.heap.size w))
  have FL := Lib.hid (ev_prs hp)
  have FK := Lib.hid (ev_sb sk)
  have FV := Lib.hid (ev_sb sv)
  have FS := Lib.hid (ev_sb sb)
  have HBy : Hid ((∀ p ∈ l, Byt p.1 ∧ Byt p.2) ∧ Byt b) := ⟨hp.byt, sb.byt⟩
  have FL0 : Hid (∀ w', Below w.heap.size w w' → Prs w' w'.heap.size A0 c0 l) := fun w' h => hp.on h
  have FK0 : Hid (∀ w', Below w.heap.size w w' → SB w' w'.heap.size (.slice A1 key.length c1) key) := fun w' h => sk.on h
  have hm0' := hm0
  clear hp sk sv sb
  unfold maxLen at hm0
  go_enter Try.func3, Try.ntmps3
  go_wp2_with fail
  refine (headC _).mono ?_
  rintro e w1 ⟨rfl, hb⟩
  have FB := Lib.hid (FB.out.on hb)
  have FL := Lib.hid (FL.out.on hb)
  have FK := Lib.hid (FK.out.on hb)
  have FV := Lib.hid (FV.out.on hb)
  have FS := Lib.hid (FS.out.on hb)
  clear hb
  have K := Lib.hid (greatC A0 l c0 w1 FL.out.now h0 hm0')
  go_wp2_with fail
  (with_reducible refine K.out.mono ?_)
  clear K
  rintro e w2 ⟨q1, rfl, hq1, hb⟩
  have FB := Lib.hid (FB.out.on hb)
  have FL := Lib.hid (FL.out.on hb)
  have FK := Lib.hid (FK.out.on hb)
  have FV := Lib.hid (FV.out.on hb)
  have FS := Lib.hid (FS.out.on hb)
  clear hb
  cases q1 with
  | true =>
    clear hq1
    go_wp2
    go_ret
    exact ⟨rfl, FB.out.now⟩
  | false =>
  obtain ⟨hs0, hl0⟩ := hq1 rfl
  have HS0 := Lib.hid hs0
  clear hs0 hq1
  have HSz : Hid (w.heap.size ≤ w2.heap.size) := FB.out.now.size
  generalize hgg : getM l key = gg
  generalize hhh : hasM l key = hh
  have HGG : Hid (getM l key = gg ∧ hasM l key = hh) := ⟨hgg, hhh⟩
  clear hgg hhh
  have K := Lib.hid ((getC A0 l c0 A1 key c1 w2 FL.out.now h0 hm0' FK.out.now HS0.out))
  rw [HGG.out.1, HGG.out.2] at K
  go_wp2_with fail
  (with_reducible refine K.out.mono ?_)
  clear K
  rintro e w3 ⟨v, rfl, ho, hy, hb⟩
  have FB := Lib.hid (FB.out.on hb)
  have FL := Lib.hid (FL.out.on hb)
  have FK := Lib.hid (FK.out.on hb)
  have FV := Lib.hid (FV.out.on hb)
  have FS := Lib.hid (FS.out.on hb)
  clear hb
  have FV1 := Lib.hid (ev_own ho)
  obtain ⟨Av, cv, hV⟩ := own_form ho
  subst hV
  have HB2 : Hid (w.heap.size ≤ w2.heap.size ∧ ∀ q, (Value.slice Av gg.length cv).ownBlock = some q → w2.heap.size ≤ q ∧ q < w3.heap.size) := ⟨HSz.out, fun q hq => ho.lt q hq⟩
  have HYg := Lib.hid hy
  clear ho hy HSz
  have K := Lib.hid ((refGetC A0 l c0 A1 key c1 w3 FL.out.now h0 hm0' FK.out.now HS0.out))
  rw [HGG.out.1, HGG.out.2] at K
  go_wp2_with fail
  (with_reducible refine K.out.mono ?_)
  clear K
  rintro e w4 ⟨v, rfl, ho, hy, hb⟩
  have FB := Lib.hid (FB.out.on hb)
  have FL := Lib.hid (FL.out.on hb)
  have FK := Lib.hid (FK.out.on hb)
  have FV := Lib.hid (FV.out.on hb)
  have FS := Lib.hid (FS.out.on hb)
  have FV1 := Lib.hid (FV1.out.on hb)
  clear hb
  have FW1 := Lib.hid (ev_own ho)
  obtain ⟨Aw, cw, hV⟩ := own_form ho
  subst hV
  clear ho hy
  have K := Lib.hid (putC A0 l c0 A1 key c1 A2 val c2 w4 FL.out.now h0 hm0' FK.out.now FV.out.now HS0.out (by omega))
  go_wp2_with fail
  (with_reducible refine K.out.mono ?_)
  clear K
  rintro e w5 ⟨Ax, cx, rfl, g1, g2, g3, hb⟩
  have FB := Lib.hid (FB.out.on hb)
  have FL := Lib.hid (FL.out.on hb)
  have FK := Lib.hid (FK.out.on hb)
  have FV := Lib.hid (FV.out.on hb)
  have FS := Lib.hid (FS.out.on hb)
  have FV1 := Lib.hid (FV1.out.on hb)
  have FW1 := Lib.hid (FW1.out.on hb)
  clear hb
  have FX := Lib.hid (ev_prs g3)
  have LX : Hid ((putR l key val).length ≤ cx ∧ cx ≤ maxLen) := ⟨g1, g2⟩
  clear g1 g2 g3
  have K := Lib.hid (refPutC A0 l c0 A1 key c1 A2 val c2 w5 FL.out.now h0 hm0' FK.out.now FV.out.now HS0.out (by omega))
  go_wp2_with fail
  (with_reducible refine K.out.mono ?_)
  clear K
  rintro e w6 ⟨Ay, cy, rfl, g1, g2, g3, hb⟩
  have FB := Lib.hid (FB.out.on hb)
  have FL := Lib.hid (FL.out.on hb)
  have FK := Lib.hid (FK.out.on hb)
  have FV := Lib.hid (FV.out.on hb)
  have FS := Lib.hid (FS.out.on hb)
  have FV1 := Lib.hid (FV1.out.on hb)
  have FW1 := Lib.hid (FW1.out.on hb)
  have FX := Lib.hid (FX.out.on hb)
  clear hb
  have FY := Lib.hid (ev_prs g3)
  clear g1 g2 g3
  generalize putR l key val = R1 at *
  generalize putE l key val = E1 at *
  have K := Lib.hid (bytesC A0 l c0 w6 FL.out.now h0 hm0' (by omega))
  go_wp2_with fail
  (with_reducible refine K.out.mono ?_)
  clear K
  rintro e w7 ⟨vc, rfl, ho, hb⟩
  have FB := Lib.hid (FB.out.on hb)
  have FL := Lib.hid (FL.out.on hb)
  have FK := Lib.hid (FK.out.on hb)
  have FV := Lib.hid (FV.out.on hb)
  have FS := Lib.hid (FS.out.on hb)
  have FV1 := Lib.hid (FV1.out.on hb)
  have FW1 := Lib.hid (FW1.out.on hb)
  have FX := Lib.hid (FX.out.on hb)
  have FY := Lib.hid (FY.out.on hb)
  clear hb
  have FC := Lib.hid (ev_sb (own_SB ho (wr_byt HBy.out.1)))
  obtain ⟨Ac, cc, hV⟩ := own_form ho
  subst hV
  clear ho
  have K := Lib.hid (refBytesC A0 l c0 w7 FL.out.now h0 hm0' (by omega))
  go_wp2_with fail
  (with_reducible refine K.out.mono ?_)
  clear K
  rintro e w8 ⟨vd, rfl, ho, hb⟩
  have FB := Lib.hid (FB.out.on hb)
  have FL := Lib.hid (FL.out.on hb)
  have FK := Lib.hid (FK.out.on hb)
  have FV := Lib.hid (FV.out.on hb)
  have FS := Lib.hid (FS.out.on hb)
  have FV1 := Lib.hid (FV1.out.on hb)
  have FW1 := Lib.hid (FW1.out.on hb)
  have FX := Lib.hid (FX.out.on hb)
  have FY := Lib.hid (FY.out.on hb)
  have FC := Lib.hid (FC.out.on hb)
  clear hb
  have FD := Lib.hid (ev_sb (own_SB ho (wr_byt HBy.out.1)))
  obtain ⟨Ad, cd, hV⟩ := own_form ho
  subst hV
  clear ho
  generalize wrE l = E2 at *
  have K := Lib.hid (readC A3 b c3 w8 FS.out.now)
  go_wp2_with fail
  (with_reducible refine K.out.mono ?_)
  clear K
  rintro e w9 ⟨Am, cm, rfl, g1, g2, g3, hb⟩
  have FB := Lib.hid (FB.out.on hb)
  have FL := Lib.hid (FL.out.on hb)
  have FK := Lib.hid (FK.out.on hb)
  have FV := Lib.hid (FV.out.on hb)
  have FS := Lib.hid (FS.out.on hb)
  have FV1 := Lib.hid (FV1.out.on hb)
  have FW1 := Lib.hid (FW1.out.on hb)
  have FX := Lib.hid (FX.out.on hb)
  have FY := Lib.hid (FY.out.on hb)
  have FC := Lib.hid (FC.out.on hb)
  have FD := Lib.hid (FD.out.on hb)
  clear hb
  have FM := Lib.hid (ev_prs g3)
  have LM : Hid ((rdL b).length ≤ cm ∧ cm ≤ maxLen) := ⟨g1, g2⟩
  clear g1 g2 g3
  have K := Lib.hid (refReadC A3 b c3 w9 FS.out.now)
  go_wp2_with fail
  (with_reducible refine K.out.mono ?_)
  clear K
  rintro e w10 ⟨An, cn, rfl, g1, g2, g3, hb⟩
  have FB := Lib.hid (FB.out.on hb)
  have FL := Lib.hid (FL.out.on hb)
  have FK := Lib.hid (FK.out.on hb)
  have FV := Lib.hid (FV.out.on hb)
  have FS := Lib.hid (FS.out.on hb)
  have FV1 := Lib.hid (FV1.out.on hb)
  have FW1 := Lib.hid (FW1.out.on hb)
  have FX := Lib.hid (FX.out.on hb)
  have FY := Lib.hid (FY.out.on hb)
  have FC := Lib.hid (FC.out.on hb)
  have FD := Lib.hid (FD.out.on hb)
  have FM := Lib.hid (FM.out.on hb)
  clear hb
  have FN := Lib.hid (ev_prs g3)
  clear g1 g2 g3
  generalize rdL b = L3 at *
  generalize rdE b = E3 at *
  have K := Lib.hid (delC A0 l c0 A1 key c1 w10 FL.out.now h0 hm0' FK.out.now HS0.out)
  go_wp2_with fail
  (with_reducible refine K.out.mono ?_)
  clear K
  rintro e w11 ⟨Ae, ce, rfl, g1, g2, g3, hb⟩
  have FB := Lib.hid (FB.out.on hb)
  have FL := Lib.hid (FL.out.on hb)
  have FK := Lib.hid (FK.out.on hb)
  have FV := Lib.hid (FV.out.on hb)
  have FS := Lib.hid (FS.out.on hb)
  have FV1 := Lib.hid (FV1.out.on hb)
  have FW1 := Lib.hid (FW1.out.on hb)
  have FX := Lib.hid (FX.out.on hb)
  have FY := Lib.hid (FY.out.on hb)
  have FC := Lib.hid (FC.out.on hb)
  have FD := Lib.hid (FD.out.on hb)
  have FM := Lib.hid (FM.out.on hb)
  have FN := Lib.hid (FN.out.on hb)
  clear hb
  have FE := Lib.hid (ev_prs g3)
  have LE : Hid ((delM l key).length ≤ ce ∧ ce ≤ maxLen) := ⟨g1, g2⟩
  clear g1 g2 g3
  have d1 := (own_SB FV1.out.now HYg.out).str
  have d2 := (own_SB FW1.out.now HYg.out).str
  have hss : ((strOfNums gg).toList == (strOfNums gg).toList) = true := by simp
  have hbb : (hh == hh) = true := by simp
  have hee : (E1 == E1) = true := by simp
  generalize strOfNums gg = sg at *
  have K := Lib.hid (sameC Ax R1 cx Ay R1 cy w11 FX.out.now LX.out.1 LX.out.2 FY.out.now)
  rw [show decide (R1 = R1) = true by simp] at K
  go_wp2_with fail
  (with_reducible refine K.out.mono ?_)
  clear K
  rintro e w12 ⟨rfl, hb⟩
  have FB := Lib.hid (FB.out.on hb)
  have FL := Lib.hid (FL.out.on hb)
  have FK := Lib.hid (FK.out.on hb)
  have FV := Lib.hid (FV.out.on hb)
  have FS := Lib.hid (FS.out.on hb)
  have FV1 := Lib.hid (FV1.out.on hb)
  have FW1 := Lib.hid (FW1.out.on hb)
  have FX := Lib.hid (FX.out.on hb)
  have FY := Lib.hid (FY.out.on hb)
  have FC := Lib.hid (FC.out.on hb)
  have FD := Lib.hid (FD.out.on hb)
  have FM := Lib.hid (FM.out.on hb)
  have FN := Lib.hid (FN.out.on hb)
  have FE := Lib.hid (FE.out.on hb)
  clear hb
  clear d1 d2
  have hde : (delM l key).length = (delM l key).length := rfl
  clear hde
  have K := Lib.hid (refDelC A0 l c0 A1 key c1 w12 FL.out.now h0 hm0' FK.out.now HS0.out)
  go_wp2_with fail
  (with_reducible refine K.out.mono ?_)
  clear K
  rintro e w13 ⟨Af, cf, rfl, g1, g2, g3, hb⟩
  have FB := Lib.hid (FB.out.on hb)
  have FL := Lib.hid (FL.out.on hb)
  have FK := Lib.hid (FK.out.on hb)
  have FV := Lib.hid (FV.out.on hb)
  have FS := Lib.hid (FS.out.on hb)
  have FV1 := Lib.hid (FV1.out.on hb)
  have FW1 := Lib.hid (FW1.out.on hb)
  have FX := Lib.hid (FX.out.on hb)
  have FY := Lib.hid (FY.out.on hb)
  have FC := Lib.hid (FC.out.on hb)
  have FD := Lib.hid (FD.out.on hb)
  have FM := Lib.hid (FM.out.on hb)
  have FN := Lib.hid (FN.out.on hb)
  have FE := Lib.hid (FE.out.on hb)
  clear hb
  have hPf := g3
  clear g1 g2 g3
  generalize delM l key = D1 at *
  have K := Lib.hid (sameC Ae D1 ce Af D1 cf w13 FE.out.now LE.out.1 LE.out.2 hPf)
  rw [show decide (D1 = D1) = true by simp] at K
  go_wp2_with fail
  (with_reducible refine K.out.mono ?_)
  clear K
  rintro e w14 ⟨rfl, hb⟩
  have FB := Lib.hid (FB.out.on hb)
  have FL := Lib.hid (FL.out.on hb)
  have FK := Lib.hid (FK.out.on hb)
  have FV := Lib.hid (FV.out.on hb)
  have FS := Lib.hid (FS.out.on hb)
  have FV1 := Lib.hid (FV1.out.on hb)
  have FW1 := Lib.hid (FW1.out.on hb)
  have FX := Lib.hid (FX.out.on hb)
  have FY := Lib.hid (FY.out.on hb)
  have FC := Lib.hid (FC.out.on hb)
  have FD := Lib.hid (FD.out.on hb)
  have FM := Lib.hid (FM.out.on hb)
  have FN := Lib.hid (FN.out.on hb)
  have FE := Lib.hid (FE.out.on hb)
  clear hb
  clear hPf hss hbb hee
  have d1 := FC.out.now.str
  have d2 := FD.out.now.str
  have hss : ((strOfNums (wrL l)).toList == (strOfNums (wrL l)).toList) = true := by simp
  have hee2 : (E2 == E2) = true := by simp
  have hee3 : (E3 == E3) = true := by simp
  generalize strOfNums (wrL l) = sc at *
  generalize wrL l = xc at *
  have K := Lib.hid (sameC Am L3 cm An L3 cn w14 FM.out.now LM.out.1 LM.out.2 FN.out.now)
  rw [show decide (L3 = L3) = true by simp] at K
  go_wp2_with fail
  (with_reducible refine K.out.mono ?_)
  clear K
  rintro e w15 ⟨rfl, hb⟩
  have FB := Lib.hid (FB.out.on hb)
  have FL := Lib.hid (FL.out.on hb)
  have FK := Lib.hid (FK.out.on hb)
  have FV := Lib.hid (FV.out.on hb)
  have FS := Lib.hid (FS.out.on hb)
  have FV1 := Lib.hid (FV1.out.on hb)
  have FW1 := Lib.hid (FW1.out.on hb)
  have FX := Lib.hid (FX.out.on hb)
  have FY := Lib.hid (FY.out.on hb)
  have FC := Lib.hid (FC.out.on hb)
  have FD := Lib.hid (FD.out.on hb)
  have FM := Lib.hid (FM.out.on hb)
  have FN := Lib.hid (FN.out.on hb)
  have FE := Lib.hid (FE.out.on hb)
  clear hb
  clear d1 d2
  have hzz : (((szM l : Nat) : Int) == ((szM l : Nat) : Int)) = true := by simp
  generalize hzl : szM l = z at *
  have HZL := Lib.hid hzl
  clear hzl
  have K := Lib.hid (sizeC A0 l c0 w15 FL.out.now h0 hm0' HS0.out.sz)
  rw [HZL.out] at K
  go_wp2_with fail
  (with_reducible refine K.out.mono ?_)
  clear K
  rintro e w16 ⟨rfl, hb⟩
  have FB := Lib.hid (FB.out.on hb)
  have FL := Lib.hid (FL.out.on hb)
  have FK := Lib.hid (FK.out.on hb)
  have FV := Lib.hid (FV.out.on hb)
  have FS := Lib.hid (FS.out.on hb)
  have FV1 := Lib.hid (FV1.out.on hb)
  have FW1 := Lib.hid (FW1.out.on hb)
  have FX := Lib.hid (FX.out.on hb)
  have FY := Lib.hid (FY.out.on hb)
  have FC := Lib.hid (FC.out.on hb)
  have FD := Lib.hid (FD.out.on hb)
  have FM := Lib.hid (FM.out.on hb)
  have FN := Lib.hid (FN.out.on hb)
  have FE := Lib.hid (FE.out.on hb)
  clear hb
  have K := Lib.hid (refSizeC A0 l c0 w16 FL.out.now h0 hm0' HS0.out.sz)
  rw [HZL.out] at K
  go_wp2_with fail
  (with_reducible refine K.out.mono ?_)
  clear K
  rintro e w17 ⟨rfl, hb⟩
  have FB := Lib.hid (FB.out.on hb)
  have FL := Lib.hid (FL.out.on hb)
  have FK := Lib.hid (FK.out.on hb)
  have FV := Lib.hid (FV.out.on hb)
  have FS := Lib.hid (FS.out.on hb)
  have FV1 := Lib.hid (FV1.out.on hb)
  have FW1 := Lib.hid (FW1.out.on hb)
  have FX := Lib.hid (FX.out.on hb)
  have FY := Lib.hid (FY.out.on hb)
  have FC := Lib.hid (FC.out.on hb)
  have FD := Lib.hid (FD.out.on hb)
  have FM := Lib.hid (FM.out.on hb)
  have FN := Lib.hid (FN.out.on hb)
  have FE := Lib.hid (FE.out.on hb)
  clear hb
  have hqq : (decide (RightM l) == decide (RightM l)) = true := by simp
  generalize hql : decide (RightM l) = q at *
  have HQL := Lib.hid hql
  clear hql
  have K := Lib.hid (rightC A0 l c0 w17 FL.out.now h0 hm0' (by omega))
  rw [HQL.out] at K
  go_wp2_with fail
  (with_reducible refine K.out.mono ?_)
  clear K
  rintro e w18 ⟨rfl, hb⟩
  have FB := Lib.hid (FB.out.on hb)
  have FL := Lib.hid (FL.out.on hb)
  have FK := Lib.hid (FK.out.on hb)
  have FV := Lib.hid (FV.out.on hb)
  have FS := Lib.hid (FS.out.on hb)
  have FV1 := Lib.hid (FV1.out.on hb)
  have FW1 := Lib.hid (FW1.out.on hb)
  have FX := Lib.hid (FX.out.on hb)
  have FY := Lib.hid (FY.out.on hb)
  have FC := Lib.hid (FC.out.on hb)
  have FD := Lib.hid (FD.out.on hb)
  have FM := Lib.hid (FM.out.on hb)
  have FN := Lib.hid (FN.out.on hb)
  have FE := Lib.hid (FE.out.on hb)
  clear hb
  have K := Lib.hid (refRightC A0 l c0 w18 FL.out.now h0 hm0' (by omega))
  rw [HQL.out] at K
  go_wp2_with fail
  (with_reducible refine K.out.mono ?_)
  clear K
  rintro e w19 ⟨rfl, hb⟩
  have FB := Lib.hid (FB.out.on hb)
  have FL := Lib.hid (FL.out.on hb)
  have FK := Lib.hid (FK.out.on hb)
  have FV := Lib.hid (FV.out.on hb)
  have FS := Lib.hid (FS.out.on hb)
  have FV1 := Lib.hid (FV1.out.on hb)
  have FW1 := Lib.hid (FW1.out.on hb)
  have FX := Lib.hid (FX.out.on hb)
  have FY := Lib.hid (FY.out.on hb)
  have FC := Lib.hid (FC.out.on hb)
  have FD := Lib.hid (FD.out.on hb)
  have FM := Lib.hid (FM.out.on hb)
  have FN := Lib.hid (FN.out.on hb)
  have FE := Lib.hid (FE.out.on hb)
  clear hb
  have HRs : Hid (Raise w w2.heap.size w3.heap.size gg.length (.slice Av gg.length cv) (.slice Aw gg.length cw) gg w19) := ⟨FB.out.now, ⟨gg, rfl, FV1.out.now⟩, FW1.out.now⟩
  have HGl : Hid (gg.length ≤ 9223372036854775807) := by
    obtain ⟨_, _, e, h1, h2, _⟩ := own_SB FV1.out.now HYg.out
    unfold maxLen at h2
    show _ ≤ _
    omega
  have HFin : Hid (∀ wr, Raise w w2.heap.size w3.heap.size gg.length (.slice Av gg.length cv) (.slice Aw gg.length cw) gg wr → Prs wr wr.heap.size A0 c0 l ∧ SB wr wr.heap.size (.slice A1 key.length c1) key ∧ SB wr wr.heap.size (.slice Aw gg.length cw) gg) := fun wr hR =>
    ⟨FL0.out wr hR.1, FK0.out wr hR.1, own_SB hR.2.2 HYg.out⟩
  clear FB FL FK FV FS FV1 FW1 FX FY FC FD FM FN FE LX LM LE
  clear hzz hqq hss hee2 hee3
  go_wp2
  go_loopw [29] (fun i wr => ∃ k : Nat, k ≤ gg.length ∧ i = .int .i64 k ∧ Hid (Raise w w2.heap.size w3.heap.size gg.length (.slice Av gg.length cv) (.slice Aw gg.length cw) gg wr)) (fun i _ => gg.length - (intOf i).toNat)
  case atStart => exact ⟨0, Nat.zero_le _, rfl, HRs⟩
  case round =>
    clear HRs
    obtain ⟨k, hk, rfl, HR⟩ := hrel
    have hgl := HGl.out
    by_cases hlt : k < gg.length
    · obtain ⟨zs0, hz0, ho0⟩ := HR.out.2.1
      obtain ⟨gb, hV⟩ := own_at ho0 (by omega)
      clear ho0 hz0 zs0
      subst hV
      obtain ⟨y, y1, y2⟩ := HR.out.cell hlt
      have hgb := HB2.out.2 gb rfl
      have HN : Hid (∀ x : Int, Raise w w2.heap.size w3.heap.size gg.length (.slice (some ⟨gb, 0, none⟩) gg.length cv) (.slice Aw gg.length cw) gg (wr.setCell ⟨gb, k, none⟩ (.int .u8 x))) := fun x => HR.out.step HB2.out.1 hgb.1 hgb.2 hlt x
      clear hgb
      go_wp2
      go_roundw
      case rel => exact ⟨k + 1, by omega, by go_num, HN.out _⟩
      case measure => simp [intOf]; omega
    · obtain rfl : k = gg.length := by omega
      obtain ⟨p1, p2, p3⟩ := HFin.out wr HR.out
      have K := Lib.hid (getC A0 l c0 A1 key c1 wr p1 h0 hm0' p2 HS0.out)
      rw [HGG.out.1, HGG.out.2] at K
      have FW := Lib.hid (ev_sb p3)
      clear p1 p2 p3
      go_wp2_with fail
      (with_reducible refine K.out.mono ?_)
      clear K
      rintro e wz ⟨vz, rfl, ho, hy, hb⟩
      have HZ := Lib.hid (HR.out.1.trans (hb.mono HR.out.1.size))
      obtain ⟨Az, cz, hV⟩ := own_form ho
      subst hV
      have d1 := (own_SB ho hy).str
      have d2 := (FW.out.on hb).now.str
      have hss : ((strOfNums gg).toList == (strOfNums gg).toList) = true := by simp
      generalize strOfNums gg = sg at *
      clear ho hy hb
      go_wp2
      go_ret
      exact ⟨rfl, HZ.out⟩
end Go.Proofs.Ytfcoccmbabmihaa
