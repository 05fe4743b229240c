/- A part of the proof. -/
import Derived.Test.YtcilgkdnjgmogaaGreatDoorXW
import Derived.Laws.IdiomStrings
import Derived.Deep.RegionHeld2
namespace Go.Proofs.YtcilgkdnjgmogaaGreatDoor
set_option maxRecDepth 100000
set_option maxHeartbeats 12800000
set_option linter.all false
variable {B c g i kb ko m n0 o:Nat} {D:Nat->Prop} {K:Value} {w w' w1 w2:World}
section
open Go.RowKit Go.MapKept
variable [Prt]
theorem kW {op num place:Int} {text:List Nat} {kids:List Xe} (h:shE (.mk op num text kids place) =true):text.length<=1000000/\fits num/\shL kids =true:=by
 unfold shE at h;simp only [Bool.and_eq_true,decide_eq_true_eq] at h;exact ⟨h.1,h.2.1,h.2.2⟩
theorem zfb (w:World) (s:List Nat) (hs:Byn s) (hm:s.length<=maxLen):∃ c w',(convert 9 22 (.string (strN s))).run Tryz.prog w =.ok (.slice (some ⟨w.heap.size,0,none⟩) s.length c) w'/\s.length<=c/\c<=maxLen/\Below w.heap.size w w'/\Lies w' w'.heap.size (some ⟨w.heap.size,0,none⟩) c (bts s):=by
 have h:=run_bytes_of_string (P:=Tryz.prog) w 9 22 5 (strN s) Tryz.underlying9 Tryz.underlying22 Tryz.underlying5;rw [vk] at h;generalize hc:grownCap w s.length 0 5 =c at h;have h1:=grownCap_ge w s.length 0 5;have h2:=grownCap_le_maxLen w s.length 0 5 hm;rw [hc] at h1 h2;refine ⟨c,_,h,h1,h2,((Below.refl _ _).drew).alloc (zzA0 _) _,(fun e=>by cases e),fun j u hu=>⟨_,rfl,by simp,?_⟩⟩;have hj:j < s.length:=by
  have:=(List.getElem?_eq_some_iff.1 hu).1;simpa [bts] using this
 have hb:(w.drew.alloc (.cells (bytesRow (strN s) c) 5 ((bytesRow (strN s) c).size,(bytesRow (strN s) c).size+1))).heap[w.heap.size]? =some (.cells (bytesRow (strN s) c) 5 ((bytesRow (strN s) c).size,(bytesRow (strN s) c).size+1)):=heap_alloc_new w.drew _;rw [Addr.add_lit,cell_of_row _ _ _ _ _ _ hb,Nat.zero_add,bytesRow_at _ _ _ (by rw [xr];simpa using hj)];have e1:(bts s)[j]? =some (.int .u8 (s[j]:Nat)):=zkc (List.getElem?_eq_getElem hj);rw [<- hu,e1];have hb2:=hs s[j] (List.getElem_mem hj);simp only [xr];simp;omega
theorem zsx (X:Cx10) (n c:Nat) (env:Env) (σ:Stt) (w:World) (num:Int) (text:List Nat) (kids:List Xe) (A:Option Addr) (cp:Nat) (place:Int) (p:Option Addr) (ms:List Nat) (r:Ou Va) (hc:c<=16) (hr:RunS X c σ w) (hs:ScAt X.n0 w (.pointer p) ms env) (hy:Byn text) (hk:XesC w (Lo X.n0) kids (.slice A kids.length cp)) (hsh:shE (.mk 1 num text kids place) =true) (hm:qD X.lim X.F (n+1) c env (.mk 1 num text kids place) σ =some r) :
  Calls Tryz.prog 189 #[.pointer (some ⟨X.R,0,none⟩),.agg #[.int .i64 1,.int .i64 num,.string (strN text),.slice A kids.length cp,.int .i64 place],.pointer p] w (qR X c NoM VaC w r):=by
 have H3:=qO w (xO6 1 num text (.slice A kids.length cp) place);obtain ⟨w0,hw0⟩:∃ w0,(w.alloc (xO6 1 num text (.slice A kids.length cp) place)).alloc zO =w0:=⟨_,rfl⟩;rw [hw0] at H3;have HW0:=zz9 hw0;have hn0:=hr.hn;have HN:=zz9 hn0;have HH:=zz9 H3;have hr0:=hr.on H3.b;have hs0:=hs.on H3.b;have hk0:=hk.same (xj H3.b hn0);have HY:=zz9 hy;have hsp:=kW hsh;have HSP:=zz9 hsp;unfold qD at hm;rcases qF hm with ⟨t,τ,h1,h2⟩|⟨v0,τ,h1,h2⟩
 ·have K:=zz9 (xY X c σ w0 1 (by decide) (by decide) _ hr0 h1)
  have H2:=zz9 h2;clear hr hs hk hm h1 h2 hr0 hs0 hk0 H3 hw0 hsh hy hsp;go_enter Tryz.func189,Tryz.ntmps189
  go_upto_region 1 with fail
  rw [HW0.out]
  go_wp2_with fail
  (with_reducible refine K.out.mono ?_)
  rintro e w1 ⟨hM,rfl,c',hs⟩;exact ⟨rfl,zy H2.out ((Mv.of HH.out.b).trans hM) hs⟩
 ·have K:=zz9 (xY X c σ w0 1 (by decide) (by decide) _ hr0 h1)
  have K0:Hid (∀ w1,Mv X.n0 NoM w0 w1->RunS X c τ w1->Kp2 X c τ w (xO6 1 num text (.slice A kids.length cp) place) p ms env kids (.slice A kids.length cp) w1):=fun w1 hm hr1=>
   (Kp2.go (τ:=σ) ⟨hr0,Mv.of HH.out.b,HH.out.e,HH.out.z,hs0,hk0⟩ hm hr1)
  have H2:=zz9 h2;clear hr hs hk hm h1 h2 hr0 hs0 hk0 H3 hw0 hsh hsp;go_enter Tryz.func189,Tryz.ntmps189
  go_upto_region 1 with fail
  rw [HW0.out]
  go_wp2_with fail
  (with_reducible refine K.out.mono ?_)
  rintro e w1 ⟨hM,x,rfl,rfl,hs1⟩;have KC:=zz9 (K0.out w1 hM hs1);obtain ⟨x0,x1,x2,x3,x4⟩:=kA KC.out.e;clear hM hs1 K K0 v0;have H9:Hid (r =.ok (intV num) τ):=by show _ =_;have h:=H2.out;(first|rw [if_pos rfl] at h|rw [if_pos True.intro] at h);injection h with h;exact h.symm
  have HF:Hid (fits num):=HSP.out.2.1
  go_wp2_with fail
  refine (numC num _).mono ?_;rintro e w2 ⟨rfl,hb⟩;replace KC:=zz9 (KC.out.on hb);have HV:Hid (VaC w2 (intV num) (VV 1 num (.slice none 0 0))):=⟨_,rfl,SB.nil _ _,HF.out,by simp [intV]⟩;clear hb x0 x1 x2 x3 x4 H2;have HZ4:=zz9 KC.out.z
  go_wp2_with (refine zm rfl (.tmp 6) (.tmp 15) rfl rfl (w.heap.size+1) rfl 1 num none 0 0 rfl HZ4.out ?_;intro w5 g1)
  refine bodyPost_ret (qH Tryz.results189 _ _ (w.heap.size+1) rfl g1.here) rfl ?_;exact qQ (v:=intV num) H9.out KC.out.run KC.out.mv HV.out (by omega) HZ4.out g1 HN.out
theorem zqd (X:Cx10) (n c:Nat) (env:Env) (σ:Stt) (w:World) (num:Int) (text:List Nat) (kids:List Xe) (A:Option Addr) (cp:Nat) (place:Int) (p:Option Addr) (ms:List Nat) (r:Ou Va) (hc:c<=16) (hr:RunS X c σ w) (hs:ScAt X.n0 w (.pointer p) ms env) (hy:Byn text) (hk:XesC w (Lo X.n0) kids (.slice A kids.length cp)) (hsh:shE (.mk 2 num text kids place) =true) (hm:qD X.lim X.F (n+1) c env (.mk 2 num text kids place) σ =some r) :
  Calls Tryz.prog 189 #[.pointer (some ⟨X.R,0,none⟩),.agg #[.int .i64 2,.int .i64 num,.string (strN text),.slice A kids.length cp,.int .i64 place],.pointer p] w (qR X c NoM VaC w r):=by
 have H3:=qO w (xO6 2 num text (.slice A kids.length cp) place);obtain ⟨w0,hw0⟩:∃ w0,(w.alloc (xO6 2 num text (.slice A kids.length cp) place)).alloc zO =w0:=⟨_,rfl⟩;rw [hw0] at H3;have HW0:=zz9 hw0;have hn0:=hr.hn;have HN:=zz9 hn0;have HH:=zz9 H3;have hr0:=hr.on H3.b;have hs0:=hs.on H3.b;have hk0:=hk.same (xj H3.b hn0);have HY:=zz9 hy;have hsp:=kW hsh;have HSP:=zz9 hsp;unfold qD at hm;rcases qF hm with ⟨t,τ,h1,h2⟩|⟨v0,τ,h1,h2⟩
 ·have K:=zz9 (xY X c σ w0 1 (by decide) (by decide) _ hr0 h1)
  have H2:=zz9 h2;clear hr hs hk hm h1 h2 hr0 hs0 hk0 H3 hw0 hsh hy hsp;go_enter Tryz.func189,Tryz.ntmps189
  go_upto_region 1 with fail
  rw [HW0.out]
  go_wp2_with fail
  (with_reducible refine K.out.mono ?_)
  rintro e w1 ⟨hM,rfl,c',hs⟩;exact ⟨rfl,zy H2.out ((Mv.of HH.out.b).trans hM) hs⟩
 ·have K:=zz9 (xY X c σ w0 1 (by decide) (by decide) _ hr0 h1)
  have K0:Hid (∀ w1,Mv X.n0 NoM w0 w1->RunS X c τ w1->Kp2 X c τ w (xO6 2 num text (.slice A kids.length cp) place) p ms env kids (.slice A kids.length cp) w1):=fun w1 hm hr1=>
   (Kp2.go (τ:=σ) ⟨hr0,Mv.of HH.out.b,HH.out.e,HH.out.z,hs0,hk0⟩ hm hr1)
  have H2:=zz9 h2;clear hr hs hk hm h1 h2 hr0 hs0 hk0 H3 hw0 hsh hsp;go_enter Tryz.func189,Tryz.ntmps189
  go_upto_region 1 with fail
  rw [HW0.out]
  go_wp2_with fail
  (with_reducible refine K.out.mono ?_)
  rintro e w1 ⟨hM,x,rfl,rfl,hs1⟩;have KC:=zz9 (K0.out w1 hM hs1);obtain ⟨x0,x1,x2,x3,x4⟩:=kA KC.out.e;clear hM hs1 K K0 v0;have H9:Hid (r =.ok (xS (num == 1)) τ):=by show _ =_;have h:=H2.out;rw [if_neg (by decide)] at h;(first|rw [if_pos rfl] at h|rw [if_pos True.intro] at h);injection h with h;exact h.symm
  generalize hq:(num == 1) =q at H9
  go_wp2_with fail
  refine (zez q _).mono ?_;rintro e w2 ⟨rfl,hb⟩;replace KC:=zz9 (KC.out.on hb);clear hb x0 x1 x2 x3 x4 H2 hq;have HZ4:=zz9 KC.out.z
  go_wp2_with (refine zm rfl (.tmp 6) (.tmp 21) rfl rfl (w.heap.size+1) rfl 2 (b2i q) none 0 0 rfl HZ4.out ?_;intro w5 g1)
  refine bodyPost_ret (qH Tryz.results189 _ _ (w.heap.size+1) rfl g1.here) rfl ?_;exact qQ (v:=xS q) H9.out KC.out.run KC.out.mv (zde _ q) (by omega) HZ4.out g1 HN.out
theorem zqt (X:Cx10) (n c:Nat) (env:Env) (σ:Stt) (w:World) (num:Int) (text:List Nat) (kids:List Xe) (A:Option Addr) (cp:Nat) (place:Int) (p:Option Addr) (ms:List Nat) (r:Ou Va) (hc:c<=16) (hr:RunS X c σ w) (hs:ScAt X.n0 w (.pointer p) ms env) (hy:Byn text) (hk:XesC w (Lo X.n0) kids (.slice A kids.length cp)) (hsh:shE (.mk 3 num text kids place) =true) (hm:qD X.lim X.F (n+1) c env (.mk 3 num text kids place) σ =some r) :
  Calls Tryz.prog 189 #[.pointer (some ⟨X.R,0,none⟩),.agg #[.int .i64 3,.int .i64 num,.string (strN text),.slice A kids.length cp,.int .i64 place],.pointer p] w (qR X c NoM VaC w r):=by
 have H3:=qO w (xO6 3 num text (.slice A kids.length cp) place);obtain ⟨w0,hw0⟩:∃ w0,(w.alloc (xO6 3 num text (.slice A kids.length cp) place)).alloc zO =w0:=⟨_,rfl⟩;rw [hw0] at H3;have HW0:=zz9 hw0;have hn0:=hr.hn;have HN:=zz9 hn0;have HH:=zz9 H3;have hr0:=hr.on H3.b;have hs0:=hs.on H3.b;have hk0:=hk.same (xj H3.b hn0);have HY:=zz9 hy;have hsp:=kW hsh;have HSP:=zz9 hsp;unfold qD at hm;rcases qF hm with ⟨t,τ,h1,h2⟩|⟨v0,τ,h1,h2⟩
 ·have K:=zz9 (xY X c σ w0 1 (by decide) (by decide) _ hr0 h1)
  have H2:=zz9 h2;clear hr hs hk hm h1 h2 hr0 hs0 hk0 H3 hw0 hsh hy hsp;go_enter Tryz.func189,Tryz.ntmps189
  go_upto_region 1 with fail
  rw [HW0.out]
  go_wp2_with fail
  (with_reducible refine K.out.mono ?_)
  rintro e w1 ⟨hM,rfl,c',hs⟩;exact ⟨rfl,zy H2.out ((Mv.of HH.out.b).trans hM) hs⟩
 ·have K:=zz9 (xY X c σ w0 1 (by decide) (by decide) _ hr0 h1)
  have K0:Hid (∀ w1,Mv X.n0 NoM w0 w1->RunS X c τ w1->Kp2 X c τ w (xO6 3 num text (.slice A kids.length cp) place) p ms env kids (.slice A kids.length cp) w1):=fun w1 hm hr1=>
   (Kp2.go (τ:=σ) ⟨hr0,Mv.of HH.out.b,HH.out.e,HH.out.z,hs0,hk0⟩ hm hr1)
  have H2:=zz9 h2;clear hr hs hk hm h1 h2 hr0 hs0 hk0 H3 hw0 hsh hsp;go_enter Tryz.func189,Tryz.ntmps189
  go_upto_region 1 with fail
  rw [HW0.out]
  go_wp2_with fail
  (with_reducible refine K.out.mono ?_)
  rintro e w1 ⟨hM,x,rfl,rfl,hs1⟩;have KC:=zz9 (K0.out w1 hM hs1);obtain ⟨x0,x1,x2,x3,x4⟩:=kA KC.out.e;clear hM hs1 K K0 v0;have H9:Hid (r =.ok (ya (ints text)) τ):=by show _ =_;have h:=H2.out;rw [if_neg (by decide),if_neg (by decide)] at h;(first|rw [if_pos rfl] at h|rw [if_pos True.intro] at h);injection h with h;exact h.symm
  obtain ⟨c5,w5,hconv,l1,l2,hb5,hl5⟩:=zfb w1 text HY.out (by have:=HSP.out.1;unfold maxLen;omega);have KT:=zz9 (zul (some ⟨w1.heap.size,0,none⟩) (ints text) text.length c5 (by simp) w5 hl5 (by have:=HSP.out.1;omega));replace KC:=zz9 (KC.out.on hb5);have HBY:Hid (Byt (ints text)):=HY.out.byt;have HLN:Hid ((ints text).length =text.length):=by show _ =_;simp
  clear l1 l2 hb5 hl5 H2 hy
  go_wp2_with fail
  (with_reducible refine KT.out.mono ?_)
  rintro e w6 ⟨A6,c6,rfl,m1,m2,m3,m4,hb6⟩;replace KC:=zz9 (KC.out.on hb6);have HV:Hid (VaC w6 (ya (ints text)) (VV 3 0 (.slice A6 (ints text).length c6))):=⟨_,rfl,⟨A6,c6,rfl,m1,m2,m3,HBY.out⟩,(by show fits 0;unfold fits;decide),by show (ints text).length<=_;rw [HLN.out];exact HSP.out.1⟩;clear m1 m2 m3 m4 hb6 x0 x1 x2 x3 x4 KT hconv
  generalize ints text =tx at *
  have HZ4:=zz9 KC.out.z
  go_wp2_with (refine zm rfl (.tmp 6) (.tmp 27) rfl rfl (w.heap.size+1) rfl 3 0 A6 tx.length c6 rfl HZ4.out ?_;intro w5 g1)
  refine bodyPost_ret (qH Tryz.results189 _ _ (w.heap.size+1) rfl g1.here) rfl ?_;exact qQ (v:=ya tx) H9.out KC.out.run KC.out.mv HV.out (by omega) HZ4.out g1 HN.out
theorem zp0 (X:Cx10) (n c:Nat) (env:Env) (σ:Stt) (w:World) (num:Int) (text:List Nat) (kids:List Xe) (A:Option Addr) (cp:Nat) (place:Int) (p:Option Addr) (ms:List Nat) (r:Ou Va) (hc:c<=16) (hr:RunS X c σ w) (hs:ScAt X.n0 w (.pointer p) ms env) (hy:Byn text) (hk:XesC w (Lo X.n0) kids (.slice A kids.length cp)) (hsh:shE (.mk 4 num text kids place) =true) (hm:qD X.lim X.F (n+1) c env (.mk 4 num text kids place) σ =some r) :
  Calls Tryz.prog 189 #[.pointer (some ⟨X.R,0,none⟩),.agg #[.int .i64 4,.int .i64 num,.string (strN text),.slice A kids.length cp,.int .i64 place],.pointer p] w (qR X c NoM VaC w r):=by
 have H3:=qO w (xO6 4 num text (.slice A kids.length cp) place);obtain ⟨w0,hw0⟩:∃ w0,(w.alloc (xO6 4 num text (.slice A kids.length cp) place)).alloc zO =w0:=⟨_,rfl⟩;rw [hw0] at H3;have HW0:=zz9 hw0;have hn0:=hr.hn;have HN:=zz9 hn0;have HH:=zz9 H3;have hr0:=hr.on H3.b;have hs0:=hs.on H3.b;have hk0:=hk.same (xj H3.b hn0);have HY:=zz9 hy;have hsp:=kW hsh;have HSP:=zz9 hsp;unfold qD at hm;rcases qF hm with ⟨t,τ,h1,h2⟩|⟨v0,τ,h1,h2⟩
 ·have K:=zz9 (xY X c σ w0 1 (by decide) (by decide) _ hr0 h1)
  have H2:=zz9 h2;clear hr hs hk hm h1 h2 hr0 hs0 hk0 H3 hw0 hsh hy hsp;go_enter Tryz.func189,Tryz.ntmps189
  go_upto_region 1 with fail
  rw [HW0.out]
  go_wp2_with fail
  (with_reducible refine K.out.mono ?_)
  rintro e w1 ⟨hM,rfl,c',hs⟩;exact ⟨rfl,zy H2.out ((Mv.of HH.out.b).trans hM) hs⟩
 ·have K:=zz9 (xY X c σ w0 1 (by decide) (by decide) _ hr0 h1)
  have K0:Hid (∀ w1,Mv X.n0 NoM w0 w1->RunS X c τ w1->Kp2 X c τ w (xO6 4 num text (.slice A kids.length cp) place) p ms env kids (.slice A kids.length cp) w1):=fun w1 hm hr1=>
   (Kp2.go (τ:=σ) ⟨hr0,Mv.of HH.out.b,HH.out.e,HH.out.z,hs0,hk0⟩ hm hr1)
  have H2:=zz9 h2;clear hr hs hk hm h1 h2 hr0 hs0 hk0 H3 hw0 hsh hsp;go_enter Tryz.func189,Tryz.ntmps189
  go_upto_region 1 with fail
  rw [HW0.out]
  go_wp2_with fail
  (with_reducible refine K.out.mono ?_)
  rintro e w1 ⟨hM,x,rfl,rfl,hs1⟩;have KC:=zz9 (K0.out w1 hM hs1);obtain ⟨x0,x1,x2,x3,x4⟩:=kA KC.out.e;clear hM hs1 K K0 v0;cases hl:kQ env text with
  | none=>have h:=H2.out;rw [if_neg (by decide),if_neg (by decide),if_neg (by decide)] at h;(first|rw [if_pos rfl] at h|rw [if_pos True.intro] at h);rw [hl] at h;cases h
  | some v=>
   have H9:Hid (r =.ok v τ):=by show _ =_;have h:=H2.out;rw [if_neg (by decide),if_neg (by decide),if_neg (by decide)] at h;(first|rw [if_pos rfl] at h|rw [if_pos True.intro] at h);rw [hl] at h;injection h with h;exact h.symm
   have KV:=zz9 (zqa X.n0 w1 p ms env text v KC.out.sc HY.out hl);clear hl H2 hy
   go_wp2_with fail
   (with_reducible refine KV.out.mono ?_)
   rintro e w2 ⟨u,rfl,hv,hb⟩;obtain ⟨A6,c6,rfl,_,_⟩:=xM hv;replace KC:=zz9 (KC.out.on hb);have HV:=zz9 hv;clear hb hv x0 x1 x2 x3 x4 KV;have HZ4:=zz9 KC.out.z
   go_wp2_with (refine zm rfl (.tmp 6) (.tmp 33) rfl rfl (w.heap.size+1) rfl v.t v.n A6 v.s.length c6 rfl HZ4.out ?_;intro w5 g1)
   refine bodyPost_ret (qH Tryz.results189 _ _ (w.heap.size+1) rfl g1.here) rfl ?_;exact qQ (v:=v) H9.out KC.out.run KC.out.mv HV.out (by omega) HZ4.out g1 HN.out
theorem zsb (X:Cx10) (n c:Nat) (env:Env) (σ:Stt) (w:World) (num:Int) (text:List Nat) (kids:List Xe) (A:Option Addr) (cp:Nat) (place:Int) (p:Option Addr) (ms:List Nat) (r:Ou Va) (hE:EOk X n) (hc:c<=16) (hr:RunS X c σ w) (hs:ScAt X.n0 w (.pointer p) ms env) (hy:Byn text) (hk:XesC w (Lo X.n0) kids (.slice A kids.length cp)) (hsh:shE (.mk 6 num text kids place) =true) (hm:qD X.lim X.F (n+1) c env (.mk 6 num text kids place) σ =some r) :
  Calls Tryz.prog 189 #[.pointer (some ⟨X.R,0,none⟩),.agg #[.int .i64 6,.int .i64 num,.string (strN text),.slice A kids.length cp,.int .i64 place],.pointer p] w (qR X c NoM VaC w r):=by
 have H3:=qO w (xO6 6 num text (.slice A kids.length cp) place);obtain ⟨w0,hw0⟩:∃ w0,(w.alloc (xO6 6 num text (.slice A kids.length cp) place)).alloc zO =w0:=⟨_,rfl⟩;rw [hw0] at H3;have HW0:=zz9 hw0;have hn0:=hr.hn;have HN:=zz9 hn0;have HH:=zz9 H3;have hr0:=hr.on H3.b;have hs0:=hs.on H3.b;have hk0:=hk.same (xj H3.b hn0);have HY:=zz9 hy;have hsp:=kW hsh;have HSP:=zz9 hsp;unfold qD at hm;rcases qF hm with ⟨t,τ,h1,h2⟩|⟨v0,τ,h1,h2⟩
 ·have K:=zz9 (xY X c σ w0 1 (by decide) (by decide) _ hr0 h1)
  have H2:=zz9 h2;clear hr hs hk hm h1 h2 hr0 hs0 hk0 H3 hw0 hsh hy hsp hE;go_enter Tryz.func189,Tryz.ntmps189
  go_upto_region 1 with fail
  rw [HW0.out]
  go_wp2_with fail
  (with_reducible refine K.out.mono ?_)
  rintro e w1 ⟨hM,rfl,c',hs⟩;exact ⟨rfl,zy H2.out ((Mv.of HH.out.b).trans hM) hs⟩
 ·have K:=zz9 (xY X c σ w0 1 (by decide) (by decide) _ hr0 h1)
  have K0:Hid (∀ w1,Mv X.n0 NoM w0 w1->RunS X c τ w1->Kp2 X c τ w (xO6 6 num text (.slice A kids.length cp) place) p ms env kids (.slice A kids.length cp) w1):=fun w1 hm hr1=>
   (Kp2.go (τ:=σ) ⟨hr0,Mv.of HH.out.b,HH.out.e,HH.out.z,hs0,hk0⟩ hm hr1)
  have H2:=zz9 h2;clear hr hs hk hm h1 h2 hr0 hs0 hk0 H3 hw0 hsh hsp;go_enter Tryz.func189,Tryz.ntmps189
  go_upto_region 1 with fail
  rw [HW0.out]
  go_wp2_with fail
  (with_reducible refine K.out.mono ?_)
  rintro e w1 ⟨hM,x,rfl,rfl,hs1⟩;have KC:=zz9 (K0.out w1 hM hs1);obtain ⟨x0,x1,x2,x3,x4⟩:=kA KC.out.e;clear hM hs1 K K0 v0;have h2:=H2.out;rw [if_neg (by decide),if_neg (by decide),if_neg (by decide),if_neg (by decide),if_neg (by decide)] at h2;have hkids:∃ a b,kids =[a,b]:=by
   match kids,h2 with
   | [],h=>cases h
   | [a],h=>
    dsimp only at h
    first
     | (rw [if_pos rfl] at h;cases h)
     | (rw [if_pos True.intro] at h;cases h)
   | [a,b],h=>exact ⟨a,b,rfl⟩
   | _::_::_::_,h=>cases h
  obtain ⟨a,b,rfl⟩:=hkids
  ·
   dsimp only at h2;rw [if_neg (by decide)] at h2;have KT:=zz9 (zll X n c env τ w1 6 num text a b A cp place p ms r hE hc KC.out.run KC.out.sc HY.out KC.out.k HSP.out.2.2 h2);clear h2 H2 hy hE
   simp only [List.length_cons,List.length_nil,Nat.zero_add,Nat.reduceAdd] at *
   go_wp2_with fail
   (with_reducible refine KT.out.mono ?_)
   cases r with
   | trap t' τ'=>
    rintro e w4 ⟨hM,rfl,c',hs⟩;exact ⟨rfl,zy rfl (KC.out.mv.trans hM) hs⟩
   | ok x τ'=>
    rintro e w4 ⟨hM,V4,rfl,hv4,hs4⟩;obtain ⟨A4,c4,rfl,hA4,hok4⟩:=xM hv4;replace KC:=zz9 (KC.out.go hM hs4);have HV4:=zz9 hv4;clear hM hs4 hv4 hA4 hok4 KT x0 x1 x2 x3 x4;have H9:Hid (Ou.ok x τ' =.ok x τ'):=rfl;have HZ4:=zz9 KC.out.z
    go_wp2_with (refine zm rfl (.tmp 6) (.tmp 55) rfl rfl (w.heap.size+1) rfl x.t x.n A4 x.s.length c4 rfl HZ4.out ?_;intro w5 g1)
    refine bodyPost_ret (qH Tryz.results189 _ _ (w.heap.size+1) rfl g1.here) rfl ?_;exact qQ (v:=x) rfl KC.out.run KC.out.mv HV4.out (by omega) HZ4.out g1 HN.out
end
section
open Go.RowKit Go.MapKept
variable [Prt]
theorem ka {t n:Int} {k:Value} (h:w.heap[g]? =some (.cells #[.int .i64 t,.int .i64 n,k] 41 (0,0))) :
  (w.cell? ⟨g,0,none⟩ =some (.int .i64 t)/\w.cell? ⟨g,1,none⟩ =some (.int .i64 n)/\w.cell? ⟨g,2,none⟩ =some k)/\w.frozen? ⟨g,0,none⟩ =false/\w.frozen? ⟨g,1,none⟩ =false/\w.frozen? ⟨g,2,none⟩ =false:=by
 refine ⟨qr h,?_,?_,?_⟩ <;> simp [World.frozen?,h]
theorem qw {b g:Nat} {x y z u:Value} (h:w.cell? ⟨b,o,none⟩ =some u) (hb:b≠g):(((w.setCell ⟨g,0,none⟩ x).setCell ⟨g,1,none⟩ y).setCell ⟨g,2,none⟩ z).cell? ⟨b,o,none⟩ =some u:=by
 rw [World.cell?_of_block (a:=⟨b,o,none⟩) (w:=w) (by show (((w.setCell ⟨g,0,none⟩ x).setCell ⟨g,1,none⟩ y).setCell ⟨g,2,none⟩ z).heap[b]? =_;rw [zf _ _ _ _ _ hb,zf _ _ _ _ _ hb,zf _ _ _ _ _ hb])];exact h
theorem xh {α β:Type} {m:Ev α} {f:α->Stt->Ev β} {r:Ou β} (h:m.bind f =some r):∃ ro,m =some ro/\Hid ((∀ t τ,ro =.trap t τ->r =.trap t τ)/\∀ a τ,ro =.ok a τ->f a τ =some r):=by
 match m,h with
 | some (.trap t τ),h=>exact ⟨_,rfl,(fun t' τ' e=>by injection e with e1 e2;subst e1 e2;injection h with h;exact h.symm),(fun a τ' e=>by cases e)⟩
 | some (.ok a τ),h=>exact ⟨_,rfl,(fun t' τ' e=>by cases e),(fun a' τ' e=>by injection e with e1 e2;subst e1 e2;exact h)⟩
abbrev S5 (X:Cx10) (b:Nat) (text:List Nat) (K:Value) (w:World):Prop:=w.cell? ⟨X.R,0,none⟩ =some (.map (some X.g))/\w.cell? ⟨b,2,none⟩ =some (.string (strN text))/\w.cell? ⟨b,3,none⟩ =some K
theorem S5.of {X:Cx10} {τ:Stt} {op num place:Int} {text:List Nat} {p:Option Addr} {ms:List Nat} {env:Env} {l:List Xe} {V:Value} (h:Kp2 X c τ w (xO6 op num text K place) p ms env l V w1):S5 X w.heap.size text K w1:=⟨(xq h.run).1,(kA h.e).2.2.1,(kA h.e).2.2.2.1⟩
theorem S5.set {X:Cx10} {τ:Stt} {op num place:Int} {text:List Nat} {p:Option Addr} {ms:List Nat} {env:Env} {l:List Xe} {V:Value} (h:Kp2 X c τ w (xO6 op num text K place) p ms env l V w1) (x y z:Value):S5 X w.heap.size text K (((w1.setCell ⟨w.heap.size+1,0,none⟩ x).setCell ⟨w.heap.size+1,1,none⟩ y).setCell ⟨w.heap.size+1,2,none⟩ z):=by
 have h5:=S5.of h;exact ⟨qw h5.1 (jV h.run.cell h.z (by decide)),qw h5.2.1 (by omega),qw h5.2.2 (by omega)⟩
theorem zo6 (w:World):(zeroValue 69).run Tryz.prog w =.ok (.agg #[.string ⟨#[]⟩,.slice none 0 0,.int .i64 0,.slice none 0 0,.int .i64 0]) w:=by simp [Tryz.zeroValue69]
theorem zrm (X:Cx10) (n c:Nat) (env:Env) (σ:Stt) (w:World) (num:Int) (text:List Nat) (kids:List Xe) (A:Option Addr) (cp:Nat) (place:Int) (p:Option Addr) (ms:List Nat) (r:Ou Va) (hEs:EsOk X n) (hC:COk X n) (hc:c<=16) (hr:RunS X c σ w) (hs:ScAt X.n0 w (.pointer p) ms env) (hy:Byn text) (hk:XesC w (Lo X.n0) kids (.slice A kids.length cp)) (hsh:shE (.mk 5 num text kids place) =true) (hm:qD X.lim X.F (n+1) c env (.mk 5 num text kids place) σ =some r) :
  Calls Tryz.prog 189 #[.pointer (some ⟨X.R,0,none⟩),.agg #[.int .i64 5,.int .i64 num,.string (strN text),.slice A kids.length cp,.int .i64 place],.pointer p] w (qR X c NoM VaC w r):=by
 have H3:=qO w (xO6 5 num text (.slice A kids.length cp) place);obtain ⟨w0,hw0⟩:∃ w0,(w.alloc (xO6 5 num text (.slice A kids.length cp) place)).alloc zO =w0:=⟨_,rfl⟩;rw [hw0] at H3;have HW0:=zz9 hw0;have hn0:=hr.hn;have HN:=zz9 hn0;have HH:=zz9 H3;have hr0:=hr.on H3.b;have hs0:=hs.on H3.b;have hk0:=hk.same (xj H3.b hn0);have HY:=zz9 hy;have hsp:=kW hsh;have HSP:=zz9 hsp;unfold qD at hm;rcases qF hm with ⟨t,τ,h1,h2⟩|⟨v0,τ,h1,h2⟩
 ·have K:=zz9 (xY X c σ w0 1 (by decide) (by decide) _ hr0 h1)
  have H2:=zz9 h2;clear hr hs hk hm h1 h2 hr0 hs0 hk0 H3 hw0 hsh hy hsp hEs hC;go_enter Tryz.func189,Tryz.ntmps189
  go_upto_region 1 with fail
  rw [HW0.out]
  go_wp2_with fail
  (with_reducible refine K.out.mono ?_)
  rintro e w1 ⟨hM,rfl,c',hs⟩;exact ⟨rfl,zy H2.out ((Mv.of HH.out.b).trans hM) hs⟩
 ·have K:=zz9 (xY X c σ w0 1 (by decide) (by decide) _ hr0 h1)
  have K0:Hid (∀ w1,Mv X.n0 NoM w0 w1->RunS X c τ w1->Kp2 X c τ w (xO6 5 num text (.slice A kids.length cp) place) p ms env kids (.slice A kids.length cp) w1):=fun w1 hm hr1=>
   (Kp2.go (τ:=σ) ⟨hr0,Mv.of HH.out.b,HH.out.e,HH.out.z,hs0,hk0⟩ hm hr1)
  have H2:=zz9 h2;clear hr hs hk hm h1 h2 hr0 hs0 hk0 H3 hw0 hsh hsp;go_enter Tryz.func189,Tryz.ntmps189
  go_upto_region 1 with fail
  rw [HW0.out]
  go_wp2_with fail
  (with_reducible refine K.out.mono ?_)
  rintro e w1 ⟨hM,x,rfl,rfl,hs1⟩;have KC:=zz9 (K0.out w1 hM hs1);obtain ⟨x0,x1,x2,x3,x4⟩:=kA KC.out.e;clear hM hs1 K K0 v0;have h2:=H2.out;rw [if_neg (by decide),if_neg (by decide),if_neg (by decide),if_neg (by decide)] at h2
  (first|rw [if_pos rfl] at h2|rw [if_pos True.intro] at h2)
  cases hf:X.F text with
  | none=>rw [hf] at h2;cases h2
  | some f=>
   rw [hf] at h2;dsimp only at h2;have hfind:X.fs.find? (fun f=>f.name == text) =some f:=hf;rcases vP text X.fs X.ks KC.out.run.len with ⟨g1,_⟩|⟨i,f',k,g1,g2,g3,g4⟩
   ·rw [hfind] at g1;cases g1
   ·rw [hfind] at g3
    injection g3 with g3
    subst g3;have hmem:f∈X.fs:=List.mem_of_getElem? g1;have HSB:Hid (shB f.body =true):=X.sh f hmem;have HFK:Hid (∀ w' c' τ',RunS X c' τ' w'->XfK w' (Lo X.n0) f k):=fun w' c' τ' h=>h.fns i f k g1 g2;have HLK:Hid (∀ w' c' τ',RunS X c' τ' w'->(Instr.lookup 96 (.map (some X.g)) (.string (strN text)) false).run Tryz.prog w' =.ok (.agg #[.string (strN f.name),k.p,.int .i64 f.result,k.b,.int .i64 f.place]) w'):=fun w' c' τ' h=>by
     have h1:=zb1 h.tab HY.out Tryz.underlying96 (zo6 w');rw [g4] at h1;exact h1
    have BD:Below w1.heap.size w1 w1.drew:=(Below.refl _ _).drew;replace KC:=zz9 (KC.out.on BD);have hl0:=HLK.out w1.drew c τ KC.out.run;have hrt:=k;clear hfind g1 g2 g4 hmem hy H2 hf;obtain ⟨ro,q1,HRO⟩:=xh h2;have KX:=zz9 (hEs c env kids τ _ w1.drew p ms _ hc KC.out.run KC.out.sc KC.out.k HSP.out.2.2 q1);have HCC:Hid (∀ vs τ' w' V,xo X.lim X.F n c f vs τ' =some r->RunS X c τ' w'->ArgX X.n0 w' V vs->Calls Tryz.prog 47 #[.pointer (some ⟨X.R,0,none⟩),.agg #[.string (strN f.name),k.p,.int .i64 f.result,k.b,.int .i64 f.place],V] w' (qR X c NoM VaC w' r)):=fun vs τ' w' V h1 h2 h3=>hC c f k vs τ' r w' V hc h2 (HFK.out w' c τ' h2) h3 HSB.out h1;clear h2 q1 hEs hC BD hrt
    go_upto_region 12 with fail
    clear x0 x1 x2 x3 x4
    go_region_held2 (fun w'=>w'.cell? ⟨X.R,0,none⟩ =some (.map (some X.g))/\w'.cell? ⟨w.heap.size,2,none⟩ =some (.string (strN text))/\w'.cell? ⟨w.heap.size,3,none⟩ =some (.slice A kids.length cp))
     (first|(with_reducible exact S5.of KC.out)|(with_reducible exact S5.set KC.out _ _ _))
     (first
      | (go_at_call 155;refine KX.out.mono ?_;rintro e w2 hG;(rcases ro with ⟨vs,τ'⟩|⟨t',τ'⟩ <;> (try (obtain ⟨hM,he,c',hs⟩:=hG;subst he;exact ⟨rfl,zy (HRO.out.1 _ _ rfl) (KC.out.mv.trans hM) hs⟩)));obtain ⟨hM,V,rfl,hO,hs⟩:=hG;replace KC:=zz9 (KC.out.go hM hs);have hl1:=HLK.out w2 c τ' KC.out.run;have HK2:=zz9 (HCC.out vs τ' w2 V (HRO.out.2 _ _ rfl) hs (OwnV.argX hO));clear hM hs hO)
      | (go_at_call 47;refine HK2.out.mono ?_;rintro e w3 hG;(rcases r with ⟨x,τ2⟩|⟨t2,τ2⟩ <;> (try (obtain ⟨hM,he,c',hs⟩:=hG;subst he;exact ⟨rfl,zy rfl (KC.out.mv.trans hM) hs⟩)));obtain ⟨hM,u,rfl,hv,hs⟩:=hG;obtain ⟨A4,c4,rfl,_,_⟩:=xM hv;replace KC:=zz9 (KC.out.go hM hs);have HV4:=zz9 hv;obtain ⟨⟨u0,u1,u2⟩,v0,v1,v2⟩:=ka KC.out.z;clear hM hs hv))
    all_goals
     have HS9:=zz9 (xa KC.out.z x.t x.n (.slice A4 x.s.length c4))
     go_wp2
     refine bodyPost_ret (qH Tryz.results189 _ _ (w.heap.size+1) rfl HS9.out.here) rfl ?_;exact qQ (v:=x) rfl KC.out.run KC.out.mv HV4.out (by omega) KC.out.z HS9.out HN.out
theorem zpd {e:Xe} {l:List Xe} {kb ko len cp:Nat} (h:XesC w D (e::l) (.slice (some ⟨kb,ko,none⟩) len cp)):D kb:=by
 have h':=h;generalize hV:Value.slice (some ⟨kb,ko,none⟩) len cp =V at h';cases h' with
 | mk _ ks _ hk h1 ht h2=>
  have hg:=ky (f:=xeC) (m:=5) (fun _ _=>rfl) (e::l) ks 0 0 e (ks[0]'(by rw [hk];simp)) rfl (List.getElem?_eq_getElem _) (by omega)
  obtain ⟨b,o,c,e1,a1,a2,a3,a4⟩:=h1.plain5 (by
   intro e0;unfold xesC at e0;rw [e0] at hg
   simp [xeC] at hg)
  rw [<- hV] at e1;injection e1 with e1 _ _
  injection e1 with e1
  injection e1 with e1 _ _
  rw [e1];exact a3
theorem kid5 {a b c d e:Value} (h:w.rangeAt kb (ko+0) [a,b,c,d,e]):w.cell? ⟨kb,ko,none⟩ =some a/\w.cell? ⟨kb,ko+1,none⟩ =some b/\w.cell? ⟨kb,ko+2,none⟩ =some c/\w.cell? ⟨kb,ko+3,none⟩ =some d/\w.cell? ⟨kb,ko+4,none⟩ =some e:=⟨h 0 _ rfl,h 1 _ rfl,h 2 _ rfl,h 3 _ rfl,h 4 _ rfl⟩
theorem zcn {a b c d e:Value} (h:w.cell? ⟨kb,ko,none⟩ =some a/\w.cell? ⟨kb,ko+1,none⟩ =some b/\w.cell? ⟨kb,ko+2,none⟩ =some c/\w.cell? ⟨kb,ko+3,none⟩ =some d/\w.cell? ⟨kb,ko+4,none⟩ =some e) (hb:Below B w w') (hk:kb < B):w'.cell? ⟨kb,ko,none⟩ =some a/\w'.cell? ⟨kb,ko+1,none⟩ =some b/\w'.cell? ⟨kb,ko+2,none⟩ =some c/\w'.cell? ⟨kb,ko+3,none⟩ =some d/\w'.cell? ⟨kb,ko+4,none⟩ =some e:=
 ⟨(hb.cell (p:=⟨kb,ko,none⟩) hk).trans h.1,(hb.cell (p:=⟨kb,ko+1,none⟩) hk).trans h.2.1,(hb.cell (p:=⟨kb,ko+2,none⟩) hk).trans h.2.2.1,(hb.cell (p:=⟨kb,ko+3,none⟩) hk).trans h.2.2.2.1,(hb.cell (p:=⟨kb,ko+4,none⟩) hk).trans h.2.2.2.2⟩
theorem zqo (X:Cx10) (c:Nat) (σ:Stt) (w:World) (op num:Int) (text:List Nat) (A:Option Addr) (n cp:Nat) (place:Int) (v:Va) (V:Value) (r:Ou Va) (hr:RunS X c σ w) (hy:Byn text) (hv:VaC w v V) (hm:oneM X.lim op text v σ =some r) :
  Calls Tryz.prog 230 #[.pointer (some ⟨X.R,0,none⟩),.agg #[.int .i64 op,.int .i64 num,.string (strN text),.slice A n cp,.int .i64 place],V] w (qR X c NoM VaC w r):=by
 by_cases h7:op =7
 ·subst h7;exact zpp X c σ w num text A n cp place v V r hr hy hv hm
 by_cases h8:op =8
 ·subst h8;exact zq0 X c σ w num text A n cp place v V r hr hv hm
 by_cases h9:op =9
 ·subst h9;exact zrl X c σ w num text A n cp place v V r hr hv hm
 by_cases h10:op =10
 ·subst h10;exact zps X c σ w num text A n cp place v V r hr hv hm
 unfold oneM at hm;rw [if_neg h7] at hm;by_cases ht:v.t≠3
 ·rw [if_pos ht] at hm;cases hm
 rw [if_neg ht,if_neg h8,if_neg h9,if_neg h10] at hm;cases hm
theorem zud (X:Cx10) (n c:Nat) (env:Env) (σ:Stt) (w:World) (op:Int) (num:Int) (text:List Nat) (kids:List Xe) (A:Option Addr) (cp:Nat) (place:Int) (p:Option Addr) (ms:List Nat) (r:Ou Va) (hE:EOk X n) (o1:op≠1) (o2:op≠2) (o3:op≠3) (o4:op≠4) (o5:op≠5) (o6:op≠6) (hc:c<=16) (hr:RunS X c σ w) (hs:ScAt X.n0 w (.pointer p) ms env) (hy:Byn text) (hk:XesC w (Lo X.n0) kids (.slice A kids.length cp)) (hsh:shE (.mk op num text kids place) =true) (hm:qD X.lim X.F (n+1) c env (.mk op num text kids place) σ =some r) :
  Calls Tryz.prog 189 #[.pointer (some ⟨X.R,0,none⟩),.agg #[.int .i64 op,.int .i64 num,.string (strN text),.slice A kids.length cp,.int .i64 place],.pointer p] w (qR X c NoM VaC w r):=by
 have H3:=qO w (xO6 op num text (.slice A kids.length cp) place);obtain ⟨w0,hw0⟩:∃ w0,(w.alloc (xO6 op num text (.slice A kids.length cp) place)).alloc zO =w0:=⟨_,rfl⟩;rw [hw0] at H3;have HW0:=zz9 hw0;have hn0:=hr.hn;have HN:=zz9 hn0;have HKW:=zz9 hk;have HO:Hid (op≠1/\op≠2/\op≠3/\op≠4/\op≠5/\op≠6):=⟨o1,o2,o3,o4,o5,o6⟩;clear o1 o2 o3 o4 o5 o6;have HH:=zz9 H3;have hr0:=hr.on H3.b;have hs0:=hs.on H3.b;have hk0:=hk.same (xj H3.b hn0);have HY:=zz9 hy;have hsp:=kW hsh;have HSP:=zz9 hsp;unfold qD at hm;rcases qF hm with ⟨t,τ,h1,h2⟩|⟨v0,τ,h1,h2⟩
 ·have K:=zz9 (xY X c σ w0 1 (by decide) (by decide) _ hr0 h1)
  have H2:=zz9 h2;clear hr hs hk hm h1 h2 hr0 hs0 hk0 H3 hw0 hsh hy hsp hE;go_enter Tryz.func189,Tryz.ntmps189
  go_upto_region 1 with fail
  rw [HW0.out]
  go_wp2_with fail
  (with_reducible refine K.out.mono ?_)
  rintro e w1 ⟨hM,rfl,c',hs⟩;exact ⟨rfl,zy H2.out ((Mv.of HH.out.b).trans hM) hs⟩
 ·have K:=zz9 (xY X c σ w0 1 (by decide) (by decide) _ hr0 h1)
  have K0:Hid (∀ w1,Mv X.n0 NoM w0 w1->RunS X c τ w1->Kp2 X c τ w (xO6 op num text (.slice A kids.length cp) place) p ms env kids (.slice A kids.length cp) w1):=fun w1 hm hr1=>
   (Kp2.go (τ:=σ) ⟨hr0,Mv.of HH.out.b,HH.out.e,HH.out.z,hs0,hk0⟩ hm hr1)
  have H2:=zz9 h2;clear hr hs hk hm h1 h2 hr0 hs0 hk0 H3 hw0 hsh hsp;go_enter Tryz.func189,Tryz.ntmps189
  go_upto_region 1 with fail
  rw [HW0.out]
  go_wp2_with fail
  (with_reducible refine K.out.mono ?_)
  rintro e w1 ⟨hM,x,rfl,rfl,hs1⟩;have KC:=zz9 (K0.out w1 hM hs1);obtain ⟨x0,x1,x2,x3,x4⟩:=kA KC.out.e;clear hM hs1 K K0 v0;have h2:=H2.out;obtain ⟨o1,o2,o3,o4,o5,o6⟩:=HO.out;rw [if_neg o1,if_neg o2,if_neg o3,if_neg o4,if_neg o5] at h2;have hkids:∃ a,kids =[a]/\(qD X.lim X.F n c env a τ).bind (fun v σ=>oneM X.lim op text v σ) =some r:=by
   match kids,h2 with
   | [],h=>cases h
   | [a],h=>
    dsimp only at h;rw [if_neg o6] at h;exact ⟨a,rfl,h⟩
   | [a,b],h=>
    dsimp only at h;rw [if_pos o6] at h;cases h
   | _::_::_::_,h=>cases h
  clear h2;obtain ⟨a,rfl,h3⟩:=hkids;have hV:=HKW.out;obtain ⟨kb,ko,kc,A0,c0,hVV,hrg,hxa⟩:=zk5 HKW.out (i:=0) (e:=a) rfl (o:=0) rfl;injection hVV with hA _ hcc
  subst hA hcc;have hkb:kb < X.n0:=zpd (D:=Lo X.n0) HKW.out;have HKD:=zz9 (kid5 hrg);have q1:(op == 1) =false:=by rw [beq_eq_false_iff_ne];exact o1
  have q2:(op == 2) =false:=by rw [beq_eq_false_iff_ne];exact o2
  have q3:(op == 3) =false:=by rw [beq_eq_false_iff_ne];exact o3
  have q4:(op == 4) =false:=by rw [beq_eq_false_iff_ne];exact o4
  have q5:(op == 5) =false:=by rw [beq_eq_false_iff_ne];exact o5
  have q6:(op == 6) =false:=by rw [beq_eq_false_iff_ne];exact o6
  have BD:Below w1.heap.size w1 w1.drew:=(Below.refl _ _).drew;replace KC:=zz9 (KC.out.on BD);obtain ⟨ro,g1,HRO⟩:=xh h3;have hxa1:=hxa.same (xk KC.out.mv hn0);have KX:=zz9 (hE c env a τ _ w1.drew p ms _ hc KC.out.run KC.out.sc hxa1 (zev HSP.out.2.2 (i:=0) rfl) g1);have HONE:Hid (∀ v τ' w' V,oneM X.lim op text v τ' =some r->RunS X c τ' w'->VaC w' v V->Calls Tryz.prog 230 #[.pointer (some ⟨X.R,0,none⟩),.agg #[.int .i64 op,.int .i64 num,.string (strN text),.slice (some ⟨kb,ko,none⟩) 1 cp,.int .i64 place],V] w' (qR X c NoM VaC w' r)):=fun v τ' w' V h1 h2 h3=>zqo X c τ' w' op num text _ _ _ place v V r h2 HY.out h3 h1;have HKB:=zz9 hkb;have HS6:Hid (∀ {τ':Stt} {w':World},Kp2 X c τ' w (xO6 op num text (.slice (some ⟨kb,ko,none⟩) 1 cp) place) p ms env [a] (.slice (some ⟨kb,ko,none⟩) 1 cp) w'->(fun w'=>(w'.cell? ⟨w.heap.size,0,none⟩ =some (.int .i64 op)/\w'.cell? ⟨w.heap.size,1,none⟩ =some (.int .i64 num)/\w'.cell? ⟨w.heap.size,2,none⟩ =some (.string (strN text))/\w'.cell? ⟨w.heap.size,3,none⟩ =some (.slice (some ⟨kb,ko,none⟩) 1 cp)/\w'.cell? ⟨w.heap.size,4,none⟩ =some (.int .i64 place))/\(w'.cell? ⟨kb,ko,none⟩ =some (.int .i64 a.op)/\w'.cell? ⟨kb,ko+1,none⟩ =some (.int .i64 a.num)/\w'.cell? ⟨kb,ko+2,none⟩ =some (.string (strN a.text))/\w'.cell? ⟨kb,ko+3,none⟩ =some (.slice A0 a.kids.length c0)/\w'.cell? ⟨kb,ko+4,none⟩ =some (.int .i64 a.place))) w'):=fun h=>⟨kA h.e,zcn HKD.out (h.mv.low HN.out) HKB.out⟩;have HS6b:Hid (∀ {τ':Stt} {w':World} (x y z:Value),Kp2 X c τ' w (xO6 op num text (.slice (some ⟨kb,ko,none⟩) 1 cp) place) p ms env [a] (.slice (some ⟨kb,ko,none⟩) 1 cp) w'->(fun w'=>(w'.cell? ⟨w.heap.size,0,none⟩ =some (.int .i64 op)/\w'.cell? ⟨w.heap.size,1,none⟩ =some (.int .i64 num)/\w'.cell? ⟨w.heap.size,2,none⟩ =some (.string (strN text))/\w'.cell? ⟨w.heap.size,3,none⟩ =some (.slice (some ⟨kb,ko,none⟩) 1 cp)/\w'.cell? ⟨w.heap.size,4,none⟩ =some (.int .i64 place))/\(w'.cell? ⟨kb,ko,none⟩ =some (.int .i64 a.op)/\w'.cell? ⟨kb,ko+1,none⟩ =some (.int .i64 a.num)/\w'.cell? ⟨kb,ko+2,none⟩ =some (.string (strN a.text))/\w'.cell? ⟨kb,ko+3,none⟩ =some (.slice A0 a.kids.length c0)/\w'.cell? ⟨kb,ko+4,none⟩ =some (.int .i64 a.place))) (((w'.setCell ⟨w.heap.size+1,0,none⟩ x).setCell ⟨w.heap.size+1,1,none⟩ y).setCell ⟨w.heap.size+1,2,none⟩ z)):=fun x y z h=>by
   obtain ⟨a0,a1,a2,a3,a4⟩:=kA h.e;obtain ⟨b0,b1,b2,b3,b4⟩:=zcn HKD.out (h.mv.low HN.out) HKB.out;have hne:kb≠w.heap.size+1:=by have:=HKB.out;have:=HN.out;omega
   exact ⟨⟨qw a0 (by omega),qw a1 (by omega),qw a2 (by omega),qw a3 (by omega),qw a4 (by omega)⟩,qw b0 hne,qw b1 hne,qw b2 hne,qw b3 hne,qw b4 hne⟩
  clear h3 g1 hE BD hxa hxa1 hrg hkb H2 hy hV o1 o2 o3 o4 o5 o6
  simp only [List.length_cons,List.length_nil,Nat.zero_add] at *
  go_upto_region 15 with fail
  clear x0 x1 x2 x3 x4
  go_region_held2 (fun w'=>(w'.cell? ⟨w.heap.size,0,none⟩ =some (.int .i64 op)/\w'.cell? ⟨w.heap.size,1,none⟩ =some (.int .i64 num)/\w'.cell? ⟨w.heap.size,2,none⟩ =some (.string (strN text))/\w'.cell? ⟨w.heap.size,3,none⟩ =some (.slice (some ⟨kb,ko,none⟩) 1 cp)/\w'.cell? ⟨w.heap.size,4,none⟩ =some (.int .i64 place))/\(w'.cell? ⟨kb,ko,none⟩ =some (.int .i64 a.op)/\w'.cell? ⟨kb,ko+1,none⟩ =some (.int .i64 a.num)/\w'.cell? ⟨kb,ko+2,none⟩ =some (.string (strN a.text))/\w'.cell? ⟨kb,ko+3,none⟩ =some (.slice A0 a.kids.length c0)/\w'.cell? ⟨kb,ko+4,none⟩ =some (.int .i64 a.place)))
   (first|(with_reducible exact HS6.out KC.out)|(with_reducible exact HS6b.out _ _ _ KC.out))
   (first
    | (go_at_call 189;refine KX.out.mono ?_;rintro e w2 hG;(rcases ro with ⟨v,τ'⟩|⟨t',τ'⟩ <;> (try (obtain ⟨hM,he,c',hs⟩:=hG;subst he;exact ⟨rfl,zy (HRO.out.1 _ _ rfl) (KC.out.mv.trans hM) hs⟩)));obtain ⟨hM,V,rfl,hv,hs⟩:=hG;obtain ⟨A2,c2,rfl,_,_⟩:=xM hv;replace KC:=zz9 (KC.out.go hM hs);have HK2:=zz9 (HONE.out v τ' w2 _ (HRO.out.2 _ _ rfl) hs hv);clear hM hs hv)
    | (go_at_call 230;refine HK2.out.mono ?_;rintro e w3 hG;(rcases r with ⟨x,τ2⟩|⟨t2,τ2⟩ <;> (try (obtain ⟨hM,he,c',hs⟩:=hG;subst he;exact ⟨rfl,zy rfl (KC.out.mv.trans hM) hs⟩)));obtain ⟨hM,u,rfl,hv,hs⟩:=hG;obtain ⟨A4,c4,rfl,_,_⟩:=xM hv;replace KC:=zz9 (KC.out.go hM hs);have HV4:=zz9 hv;obtain ⟨⟨u0,u1,u2⟩,v0,v1,v2⟩:=ka KC.out.z;clear hM hs hv))
  all_goals
   have HS9:=zz9 (xa KC.out.z x.t x.n (.slice A4 x.s.length c4))
   go_wp2
   refine bodyPost_ret (qH Tryz.results189 _ _ (w.heap.size+1) rfl HS9.out.here) rfl ?_;exact qQ (v:=x) rfl KC.out.run KC.out.mv HV4.out (by omega) KC.out.z HS9.out HN.out
end
section
open Go.RowKit Go.MapKept
variable [Prt]
theorem zta (X:Cx10) (n:Nat) (hE:EOk X n) (hEs:EsOk X n) (hC:COk X n):EOk X (n+1):=by
 intro c env e σ r w p ms v hc hr hs hv hsh hm;obtain ⟨op,num,text,kids,place⟩:=e;obtain ⟨K,rfl,hy,hk⟩:=hv;obtain ⟨A,cp,rfl⟩:=zz hk;by_cases o1:op =1
 ·subst o1;exact zsx X n c env σ w num text kids A cp place p ms r hc hr hs hy hk hsh hm
 by_cases o2:op =2
 ·subst o2;exact zqd X n c env σ w num text kids A cp place p ms r hc hr hs hy hk hsh hm
 by_cases o3:op =3
 ·subst o3;exact zqt X n c env σ w num text kids A cp place p ms r hc hr hs hy hk hsh hm
 by_cases o4:op =4
 ·subst o4;exact zp0 X n c env σ w num text kids A cp place p ms r hc hr hs hy hk hsh hm
 by_cases o5:op =5
 ·subst o5;exact zrm X n c env σ w num text kids A cp place p ms r hEs hC hc hr hs hy hk hsh hm
 by_cases o6:op =6
 ·subst o6;exact zsb X n c env σ w num text kids A cp place p ms r hE hc hr hs hy hk hsh hm
 exact zud X n c env σ w op num text kids A cp place p ms r hE o1 o2 o3 o4 o5 o6 hc hr hs hy hk hsh hm
theorem zei {X:Cx10} {σ:Stt} (h:RunS X c σ w) (c':Nat) :
  RunS X c' σ (w.setCell ⟨X.R,4,none⟩ (.int .i64 c'))/\Mv X.n0 NoM w (w.setCell ⟨X.R,4,none⟩ (.int .i64 c')):=by
 have hg:w.grownBy (w.setCell ⟨X.R,4,none⟩ (.int .i64 c')) (some X.R):=by
  refine ⟨rfl,rfl,rfl,by simp [World.setCell],fun i _ hi=>?_⟩;exact zf _ _ _ _ _ fun e=>hi (by rw [e])
 have hc:=heap_setCell_same w X.R 4 _ _ (.int .i64 c') h.cell;obtain ⟨h1,h2⟩:=h.own hg c' σ.used hc (Int.le_refl _) h.u1;exact ⟨h1,Mv.own hg h2 h.sq⟩
theorem zgo {X:Cx10} {σ:Stt} (h:RunS X c σ w):w.frozen? ⟨X.R,4,none⟩ =false:=by
 simp [World.frozen?,h.cell]
theorem zb2 {o:Option Va} {x:Value} (h:RetV w o x):∃ A cp b,x =.tuple #[VV (o.getD qe).t (o.getD qe).n (.slice A (o.getD qe).s.length cp),.bool b]/\VaC w (o.getD qe) (VV (o.getD qe).t (o.getD qe).n (.slice A (o.getD qe).s.length cp))/\b =o.isSome:=by
 cases o with
 | none=>exact ⟨none,0,false,h,zca w,rfl⟩
 | some v=>
  obtain ⟨u,rfl,hv⟩:=h;obtain ⟨A,cp,rfl,_⟩:=xM hv;exact ⟨A,cp,true,rfl,hv,rfl⟩
theorem Mv.only (h:Mv n0 NoM w w1) (k:Mv n0 (·∈[m]) w1 w2) (hm:w.heap.size<=m):Mv n0 NoM w w2:=
 ((NoM.mono h).trans k).less fun b hb e=>by have e:b =m:=(by simpa using e);omega
theorem ArgX.getk {V:Value} {vs:List Va} (h:ArgX n0 w V vs) {v:Va} (hv:vs[i]? =some v):∃ (kb ko c:Nat) (A0:Option Addr) (c0:Nat),V =.slice (some ⟨kb,ko,none⟩) vs.length c/\vs.length<=c/\c<=maxLen /\
  (w.cell? ⟨kb,ko+i*3,none⟩ =some (.int .i64 v.t)/\w.cell? ⟨kb,ko+i*3+1,none⟩ =some (.int .i64 v.n)/\w.cell? ⟨kb,ko+i*3+2,none⟩ =some (.slice A0 v.s.length c0))/\VaC w v (VV v.t v.n (.slice A0 v.s.length c0)) /\
  ∀ (M:Nat->Prop) (w':World),Mv n0 M w w'->(∀ b,M b->n0<=b)->w'.heap[kb]? =w.heap[kb]?:=by
 obtain ⟨D,ks,hk,h1,h2,h4⟩:=h.ex;have hi:=(List.getElem?_eq_some_iff.1 hv).1;have hk':ks[i]? =some ks[i]:=List.getElem?_eq_getElem (by omega);generalize ks[i] =k at hk';have hg:=fun j hj=>ky (f:=vaC) (m:=3) (fun _ _=>rfl) vs ks i j v k hv hk' hj;obtain ⟨g0,g1⟩:=h2 i v k hv hk';obtain ⟨A0,c0,rfl,_⟩:=id g0
 obtain ⟨b,o,c,rfl,a1,a2,a3,a4⟩:=h1.plain5 (by
  intro e0;have:=hg 0 (by omega);unfold vasC at e0;rw [e0] at this
  simp [vaC] at this)
 refine ⟨b,o,c,A0,c0,rfl,a1,a2,⟨a4 _ _ ((hg 0 (by omega)).trans rfl),?_,?_⟩,⟨_,rfl,g0,g1⟩,fun M w' hm hM=>?_⟩
 ·rw [Nat.add_assoc];exact a4 _ _ ((hg 1 (by omega)).trans rfl)
 ·rw [Nat.add_assoc];exact a4 _ _ ((hg 2 (by omega)).trans rfl)
 ·obtain ⟨p1,p2,p3⟩:=h4 b a3
  exact hm.keep b p1 p2 fun hMb=>p3.elim (fun h=>absurd (hM b hMb) (by omega)) id
theorem Mv.new (h:Mv n0 NoM w w1) (k:Mv n0 (· =m) w1 w2) (hm:w.heap.size<=m):Mv n0 NoM w w2:=
 ((NoM.mono h).trans k).less fun b hb e=>by have:b =m:=e;omega
def ParS (X:Cx10) (c:Nat) (σ:Stt) (w:World) (f:Xf) (k:Two) (vs:List Va) (V:Value) (m:Nat) (fr:List (List Nat×Va)) (q:Nat) (i:Value) (wr:World):Prop:=
 ∃ (j:Nat) (fj:List (List Nat×Va)),i =.int .i64 j/\q+j =f.params.length/\jd (f.params.drop j) (vs.drop j) fj =some fr/\RunS X c σ wr/\ScAt X.n0 wr (.pointer (some ⟨m+1,0,none⟩)) [m] [fj]/\Mv X.n0 NoM w wr /\
  wr.heap[w.heap.size]? =some (.cells #[.string (strN f.name),k.p,.int .i64 f.result,k.b,.int .i64 f.place] 69 (0,0))/\wr.heap[w.heap.size+1]? =some (.cells #[.int .i64 0,.int .i64 0,.slice none 0 0] 41 (0,0))/\ArgX X.n0 wr V vs
theorem znn {b:Nat} {result place:Int} {s:ByteArray} {k1 k2:Value} (h:w.heap[b]? =some (.cells #[.string s,k1,.int .i64 result,k2,.int .i64 place] 69 (0,0))) :
  w.cell? ⟨b,0,none⟩ =some (.string s)/\w.cell? ⟨b,1,none⟩ =some k1/\w.cell? ⟨b,2,none⟩ =some (.int .i64 result)/\w.cell? ⟨b,3,none⟩ =some k2/\w.cell? ⟨b,4,none⟩ =some (.int .i64 place):=by
 refine ⟨?_,?_,?_,?_,?_⟩ <;> simp [World.cell?,h]
theorem zjs (w:World) (eo:Obj):((w.alloc eo).alloc zO).heap[w.heap.size]? =some eo/\((w.alloc eo).alloc zO).heap[w.heap.size+1]? =some (.cells #[.int .i64 0,.int .i64 0,.slice none 0 0] 41 (0,0))/\Below w.heap.size w ((w.alloc eo).alloc zO)/\((w.alloc eo).alloc zO).heap.size =w.heap.size+2:=⟨(qO w eo).e,(qO w eo).z,(qO w eo).b,(qO w eo).s⟩
theorem zte (X:Cx10) (n:Nat) (hB:BOk X n):COk X (n+1):=by
 intro c f k vs σ r w V hc hr hf hx hsh hm;have hn0:=hr.hn;obtain ⟨kp,kbd⟩:=k;obtain ⟨AP,cP,hkp⟩:=hf.params.slice5;obtain ⟨AB,cB,hkb⟩:=zt hf.body;dsimp only at hkp hkb;subst hkp hkb;obtain ⟨AV,cV,rfl⟩:=hx.len;have H2:=zjs w (.cells #[.string (strN f.name),.slice AP f.params.length cP,.int .i64 f.result,.slice AB f.body.length cB,.int .i64 f.place] 69);obtain ⟨w0,hw0⟩:∃ w0,(w.alloc (.cells #[.string (strN f.name),.slice AP f.params.length cP,.int .i64 f.result,.slice AB f.body.length cB,.int .i64 f.place] 69)).alloc zO =w0:=⟨_,rfl⟩;rw [hw0] at H2;obtain ⟨h1,h2,h3,h4⟩:=H2;have HW0:=zz9 hw0;have hr0:=hr.on h3;obtain ⟨z0,z1,z2,z3,z4⟩:=xq hr0;obtain ⟨x0,x1,x2,x3,x4⟩:=znn h1;have HN:=zz9 hn0;unfold xo at hm;show Calls Tryz.prog 47 #[.pointer (some ⟨X.R,0,none⟩),.agg #[.string (strN f.name),.slice AP f.params.length cP,.int .i64 f.result,.slice AB f.body.length cB,.int .i64 f.place],.slice AV vs.length cV] w (qR X c NoM VaC w r);by_cases h16:c =16
 ·subst h16
  rw [if_pos rfl] at hm;have H9:Hid (r =.trap 4 σ):=by show _ =_;injection hm with h;exact h.symm
  have HF:=zz9 (And.intro hr0 h3);clear hr hf hx hsh hm h1 h2 h3 h4 hw0 hr0 hB;go_enter Tryz.func47,Tryz.ntmps47
  go_upto_region 1 with fail
  rw [HW0.out]
  go_wp2_with fail
  refine (kt 4 (by decide) _).mono ?_;rintro e w3 ⟨rfl,rfl⟩;exact ⟨rfl,zy H9.out (.of HF.out.2) HF.out.1⟩
 ·rw [if_neg h16] at hm
  have q16:((c:Int) == 16) =false:=by rw [beq_eq_false_iff_ne];omega
  cases hfr:jd f.params vs [] with
  | none=>rw [hfr] at hm;cases hm
  | some fr=>
   rw [hfr] at hm;dsimp only at hm;have KN:=zz9 (vZ none w0);have HR0:=zz9 hr0;have HX0:=zz9 (hx.on h3);have HF:=zz9 hf;have HZ:=zz9 (And.intro h1 (And.intro h2 (And.intro h3 h4)));have HFR:=zz9 hfr;have HBD:=zz9 hB;have HSH:=zz9 hsh;have HM:=zz9 hm;have hpl:f.params.length<=9223372036854775807:=hf.params.len5;have hbl:f.body.length<=9223372036854775807:=by
    have hb:=hf.body;generalize hV:Value.slice AB f.body.length cB =Vb at hb;cases hb with
    | mk _ _ _ _ h1 _ _ _ _=>exact h1.len5
   clear hr hf hx hsh hm h1 h2 h3 h4 hw0 hr0 hB hfr;go_enter Tryz.func47,Tryz.ntmps47
   go_upto_region 1 with fail
   rw [HW0.out]
   go_wp2_with fail
   (with_reducible refine KN.out.mono ?_)
   rintro e w1 ⟨rfl,k1,k2,k3⟩;have HST:Hid (ParS X c σ w f ⟨.slice AP f.params.length cP,.slice AB f.body.length cB⟩ vs (.slice AV vs.length cV) w0.heap.size fr f.params.length (.int .i64 0) w1):=by
    refine ⟨0,[],rfl,rfl,by simpa using HFR.out,HR0.out.on k3,ScAt.begin ScAt.nil k3 k1 k2 ?_,(Mv.of HZ.out.2.2.1).then k3,zg k3 HZ.out.1 ?_,zg k3 HZ.out.2.1 ?_,HX0.out.on k3⟩
    ·have:=HZ.out.2.2.2;omega
    ·have:=HZ.out.2.2.2;omega
    ·have:=HZ.out.2.2.2;omega
   have y1:=zb x1 k3;clear k1 k2 k3 KN
   go_wp2_with fail
   go_loopg [22] f.params.length (fun k i wr=>ParS X c σ w f ⟨.slice AP f.params.length cP,.slice AB f.body.length cB⟩ vs (.slice AV vs.length cV) w0.heap.size fr k i wr)
   case atStart=>exact HST.out
   case round=>
    obtain ⟨j,fj,rfl,hk,hfj,hR,hS,hM,e1,ez,hX⟩:=hrel;by_cases hlt:j < f.params.length
    ·have hlt':(j:Int) < (f.params.length:Int):=by omega
     obtain ⟨p,hp⟩:∃ p,f.params[j]? =some p:=⟨_,List.getElem?_eq_getElem hlt⟩;rw [xw hp] at hfj;obtain ⟨v,hv⟩:∃ v,vs[j]? =some v:=by
      cases hv:vs[j]? with
      | some v=>exact ⟨v,rfl⟩
      | none=>
       have hd:vs.drop j =[]:=List.drop_eq_nil_of_le (by simpa using hv);rw [hd] at hfj;cases hfj
     have hlt2:(j:Int) < (vs.length:Int):=by have:=(List.getElem?_eq_some_iff.1 hv).1;omega
     rw [xw hv] at hfj;have HFJ:Hid (jd (f.params.drop (j+1)) (vs.drop (j+1)) (updF fj p.1 v) =some fr):=hfj;obtain ⟨pb,po,pc,hsl,p1,p2,q1,q2⟩:=(HF.out.params.same (xk hM HN.out)).param hp;dsimp only at hsl;injection hsl with hA _ hcc
     subst hA hcc;obtain ⟨kb,ko,ac,A0,c0,hsl2,p3,p4,⟨a1,a2,a3⟩,hva,hkeep⟩:=hX.getk hv;injection hsl2 with hA2 _ hcc2
     subst hA2 hcc2;have BP:Below wr.heap.size wr (wr.alloc (.cells #[.string (strN p.1),.int .i64 p.2] 87)).drew:=(za _ _).drew;have HMM:=zz9 hM.size;have HM0:=zz9 HZ.out.2.2.2;have hgm:w0.heap.size≠X.g:=by have:=HR0.out.tab.lt;omega
     have KD:=zz9 (ww X c σ _ (w0.heap.size+1) w0.heap.size [] fj [] p.1 v _ (hR.on BP) (hS.on BP) hgm (HF.out.names p (List.mem_of_getElem? hp)) (hva.on BP));have HC:Hid (∀ w',Mv X.n0 (· =w0.heap.size) (wr.alloc (.cells #[.string (strN p.1),.int .i64 p.2] 87)).drew w'->w'.cell? ⟨wr.heap.size,0,none⟩ =some (.string (strN p.1))/\w'.cell? ⟨kb,ko+j*3,none⟩ =some (.int .i64 v.t)/\w'.cell? ⟨kb,ko+j*3+1,none⟩ =some (.int .i64 v.n)/\w'.cell? ⟨kb,ko+j*3+2,none⟩ =some (.slice A0 v.s.length c0)):=fun w' h=>by
      have hn:(wr.alloc (.cells #[.string (strN p.1),.int .i64 p.2] 87)).drew.heap[wr.heap.size]? =some (.cells #[.string (strN p.1),.int .i64 p.2] 87 (0,0)):=heap_alloc_new wr _;have hn':=h.kept hn (by decide);have hkb:w'.heap[kb]? =wr.heap[kb]?:=hkeep _ w' ((Mv.of BP).trans h) fun b e=>by have:b =w0.heap.size:=e;have:=HN.out;have:=HM0.out;omega
      have hcell:∀ o,w'.cell? ⟨kb,o,none⟩ =wr.cell? ⟨kb,o,none⟩:=fun o=>by simp only [World.cell?,hkb]
      exact ⟨zZ (cs:=[.string (strN p.1),.int .i64 p.2]) hn' 0 _ rfl,(hcell _).trans a1,(hcell _).trans a2,(hcell _).trans a3⟩
     have HG:=zz9 (And.intro hk (And.intro hR (And.intro hM (And.intro e1 (And.intro ez hX)))));have HBP:=zz9 BP;clear hk hR hS hM e1 ez hX hva hkeep hfj hp hv BP a1 a2 a3
     go_upto_region 7 with fail
     clear q1 q2
     go_region_held2 (fun w'=>w'.cell? ⟨wr.heap.size,0,none⟩ =some (.string (strN p.1))/\w'.cell? ⟨kb,ko+j*3,none⟩ =some (.int .i64 v.t)/\w'.cell? ⟨kb,ko+j*3+1,none⟩ =some (.int .i64 v.n)/\w'.cell? ⟨kb,ko+j*3+2,none⟩ =some (.slice A0 v.s.length c0))
      (first|(with_reducible exact HC.out _ (.refl _ _ _))|(with_reducible exact HC.out _ hD))
      (first|(go_at_call 84;refine KD.out.mono ?_;rintro e w3 ⟨rfl,hD,hS3,hR3⟩))
     have HMv:=zz9 (((HG.out.2.2.1.trans (Mv.of HBP.out)).new hD (by have:=HM0.out;omega)));have HF3:=zz9 (And.intro hS3 (And.intro hR3 (And.intro (hD.kept (HBP.out.block _ (zz7.1 HG.out.2.2.2.1).1 |>.trans HG.out.2.2.2.1) (by decide)) (And.intro (hD.kept (HBP.out.block _ (zz7.1 HG.out.2.2.2.2.1).1 |>.trans HG.out.2.2.2.2.1) (by decide)) ((HG.out.2.2.2.2.2.on HBP.out).mv hD fun b e=>by have:b =w0.heap.size:=e;have:=HN.out;have:=HM0.out;omega)))));clear hD hS3 hR3
     go_wp2_with fail
     go_roundg (f.params.length-(j+1))
     case measure=>have:=HG.out.1;omega
     case rel=>exact ⟨j+1,updF fj p.1 v,by simp,by have:=HG.out.1;omega,HFJ.out,HF3.out.2.1,HF3.out.1,HMv.out,HF3.out.2.2.1,HF3.out.2.2.2.1,HF3.out.2.2.2.2⟩
    ·have hj:j =f.params.length:=by omega
     have hnlt:¬ (j:Int) < (f.params.length:Int):=by omega
     have hfe:fr =fj:=by
      rw [hj,List.drop_length] at hfj;cases hd:vs.drop f.params.length with
      | nil=>rw [hd] at hfj;injection hfj with h;exact h.symm
      | cons a l=>rw [hd] at hfj;cases hfj
     subst hfe;have hpc:((c+1:Nat):Int) =(c:Int)+1:=by simp
     obtain ⟨D1,D2⟩:=zei hR (c+1);rw [hpc] at D1 D2;clear hpc;obtain ⟨d0,d1,d2,d3,d4⟩:=xq hR;have d5:=zgo hR;have e1':=D2.kept e1 (by decide);have ez':=D2.kept ez (by decide);have hSc':=hS.mv D2 (fun _ _ h=>h);have HM2:=zz9 (hM.trans D2);have HSc:=zz9 hSc';have HD1:=zz9 D1;have HBX:=zz9 ((HF.out.body).same (xk HM2.out HN.out));obtain ⟨f0,f1,f2,f3,f4⟩:=znn e1';have HM0:=zz9 HZ.out.2.2.2;have HE:=zz9 (And.intro e1' ez');have hgm:X.g ∉ [w0.heap.size]:=by
      intro h;have h:X.g =w0.heap.size:=by simpa using h
      have:=HR0.out.tab.lt;omega
     have KB:=fun ro h=>HBD.out (c+1) [fr] f.body σ ro _ (w0.heap.size+1) [w0.heap.size] _ (by omega) D1 hSc' hgm HBX.out HSH.out h;have hci:(c:Int)<=15:=by omega
     have hci0:0<=(c:Int):=by omega
     dsimp only at f1 f3;clear hk hR hS hM e1 ez hX D1 D2 e1' ez' hSc' hfj hj hlt;rcases qF HM.out with ⟨t,τ,g1,g2⟩|⟨p,τ,g1,g2⟩
     ·have K:=zz9 (KB _ g1)
      have H2:=zz9 g2;clear KB g1 g2
      go_wp2_with fail
      (with_reducible refine K.out.mono ?_)
      rintro e w3 ⟨hM3,rfl,c',hs⟩;exact ⟨rfl,zy H2.out (HM2.out.only hM3 (by have:=HM0.out;omega)) hs⟩
     ·have K:=zz9 (KB _ g1)
      have H2:=zz9 g2;clear KB g1 g2
      go_wp2_with fail
      (with_reducible refine K.out.mono ?_)
      rintro e w3 ⟨hM3,x,rfl,⟨hq,hsc⟩,hs⟩;obtain ⟨A,cp,b,rfl,hv,_⟩:=zb2 hq;have H3:Hid (r =.ok (p.1.getD qe) τ):=by
       show _ =_;have:=H2.out;injection this with h
       exact h.symm
      have HM3:=zz9 (HM2.out.only hM3 (by have:=HM0.out;omega));have HE3:=zz9 (And.intro (hM3.kept HE.out.1 (by decide)) (hM3.kept HE.out.2 (by decide)));clear hM3 hq hsc H2 K
      generalize p.1.getD qe =v at *
      obtain ⟨w4,hw4⟩:∃ w4,w3.alloc (.cells #[.int .i64 v.t,.int .i64 v.n,.slice A v.s.length cp] 41) =w4:=⟨_,rfl⟩;have b4:Below w3.heap.size w3 w4:=by rw [<- hw4];exact za _ _
      obtain ⟨y0,y1,y2⟩:w4.cell? ⟨w3.heap.size,0,none⟩ =some (.int .i64 v.t)/\w4.cell? ⟨w3.heap.size,1,none⟩ =some (.int .i64 v.n)/\w4.cell? ⟨w3.heap.size,2,none⟩ =some (.slice A v.s.length cp):=by
       rw [<- hw4];exact qr (heap_alloc_new w3 _)
      have hs4:=hs.on b4;obtain ⟨m0,m1,m2,m3,m4⟩:=xq hs4;have m5:=zgo hs4;have hpc:((c+1:Nat):Int) =(c:Int)+1:=by simp
      rw [hpc] at m4;clear hpc;obtain ⟨D1,D2⟩:=zei hs4 c;have HM5:=zz9 ((HM3.out.then b4).trans D2);have HZ5:=zz9 (D2.kept (zg b4 HE3.out.2 (zz7.1 HE3.out.2).1) (by decide));have HV5:=zz9 ((hv.on b4).off D2.off);have HS5:=zz9 D1;have hWW:w3.heap.size≠X.R:=by have:=(zz7.1 hs.cell).1;omega
      have q0:(w4.setCell ⟨X.R,4,none⟩ (.int .i64 c)).cell? ⟨w3.heap.size,0,none⟩ =some (.int .i64 v.t):=by rw [World.cell?_setCell_far _ _ _ _ (Ne.symm hWW)];exact y0
      have q1:(w4.setCell ⟨X.R,4,none⟩ (.int .i64 c)).cell? ⟨w3.heap.size,1,none⟩ =some (.int .i64 v.n):=by rw [World.cell?_setCell_far _ _ _ _ (Ne.symm hWW)];exact y1
      have q2:(w4.setCell ⟨X.R,4,none⟩ (.int .i64 c)).cell? ⟨w3.heap.size,2,none⟩ =some (.slice A v.s.length cp):=by rw [World.cell?_setCell_far _ _ _ _ (Ne.symm hWW)];exact y2
      have HW4:=zz9 hw4;clear hs hs4 b4 D1 D2 hv hw4;dsimp only
      go_upto_region 11 with fail
      rw [HW4.out]
      go_upto_region 12 with fail
      clear m0 m1 m2 m3 m4 m5 y0 y1 y2 d0 d1 d2 d3 d4 d5
      go_wp2_with (refine zm rfl (.tmp 6) (.tmp 58) rfl rfl (w.heap.size+1) rfl v.t v.n A v.s.length cp rfl HZ5.out ?_;intro w6 g1)
      refine bodyPost_ret (qH Tryz.results47 _ _ (w.heap.size+1) rfl g1.here) rfl ?_;exact qQ (v:=v) H3.out HS5.out HM5.out HV5.out (by omega) HZ5.out g1 HN.out
end
end Go.Proofs.YtcilgkdnjgmogaaGreatDoor
