/- Texts of one kind, one behind the other: each says ahead of itself what it shows. -/
import Derived.Test.YteclpnfckjfibaaGreatDoorDah
import Derived.WalkKit
import Derived.OwnWalk
import Derived.Maps.AppendAt
import Derived.Lib.AppendStr
import Derived.Deep.LoopGhost
import Derived.Test.YteclpnfckjfibaaGreatDoorDad
import Derived.Test.YteclpnfckjfibaaGreatDoorDac
import Derived.Test.YteclpnfckjfibaaGreatDoorDab
import Derived.BigGuardPart
import Derived.Deep.DeepCutAuto
import Derived.Deep.QuietTactic
import Derived.BigQuiet
import Derived.Laws.AppendOwnNone
namespace Go.Proofs.YteclpnfckjfibaaGreatDoor
open Go.RowKit
set_option maxHeartbeats 12800000
set_option maxRecDepth 20000
theorem zd1 (w0 w:World) (A:Value) (l:List UInt8) (n:Int) (k:Nat) (hk:k≤8) (_h0:0≤n) (_h1:n < 18446744073709551616) (h:OwnB w0 A l w) (hl:l.length≤1000000000):
 Calls Tryz.prog 208 #[A,.int .u64 n,.int .i64 k] w fun e w'=>∃ A',e=.returned A'∧OwnB w0 A' (l++beB n k) w'∧Bx w w':=by
 obtain ⟨i0,hi,hz0,hz1,hz2⟩:=info_parts zf0
 go_enter Tryz.func208,Tryz.ntmps208
 go_wp2_with fail
 go_loopg [0,7] k (fun gg s0 s7 wr=>∃ L:List UInt8,s7=.int .i64 ((gg:Int) - 1)∧OwnB w0 s0 L wr∧gg≤8∧L.length+gg≤1000000008∧Hid (L++beB n gg=l++beB n k)∧Hid (Bx w wr))
 case atStart=>exact ⟨l,rfl,h,hk,by omega,Lib.hid rfl,Lib.hid (Bx.refl _)⟩
 case round=>
  clear h
  obtain ⟨L,rfl,O,hg,hL,HE,HB⟩:=hrel
  cases gk with
  | zero=>
    have HE2:=HE.out
    have e0:L=l++beB n k:=by simpa [beB] using HE2
    subst e0
    have HO:=Lib.hid O
    clear O HE HE2
    go_wp2_with fail
    go_ret
    exact ⟨_,rfl,HO.out,HB.out⟩
  | succ i=>
    have hown:=O.own
    have hlo:=O.lo
    have e1:((i+1:Nat):Int) - 1=i:=by omega
    rw [e1]
    go_wp2_with (at_builtin;refine wpList_append_own _ rfl _ _ 101 rfl w0.heap.size 5 i0 (.int .u8 0) 1 1 Tryz.underlying101 hi hz0 hz1 hz2 rfl (by decide) _ _ _ rfl (hown.alloc _) ⟨wr.heap.size,0,none⟩ 1 1 [_] rfl rfl (cell_one_new _ _ _) ?_ ?_ ?_ ?_ ?_)
    all_goals (try (first | rfl |(unfold maxLen;omega) | omega |(simp;omega) |(intro u hu;simp at hu;subst hu;rfl)))
    intro v' w1 hown' hgrow _
    have O2:=(O.alloc _).say (l':=L++[zb7 n i]) hown' hgrow (by simp) (by rw [zba,zcp _ (zif n i)])
    have HB2:=Lib.hid ((HB.out.trans (Bx.below (zav _ _))).trans ((O.alloc _).bx hgrow))
    have HO:=Lib.hid O2
    have HE2:Hid ((L++[zb7 n i])++beB n i=l++beB n k):=Lib.hid (by rw [← HE.out];simp [beB])
    have hL2:(L++[zb7 n i]).length+i≤1000000008:=by simp;omega
    clear hown hown' hgrow O O2 HE hL HB
    go_wp2_with fail
    go_roundg i
    case measure=>omega
    case rel=>exact ⟨L++[zb7 n i],rfl,HO.out,by omega,hL2,HE2,HB2⟩
theorem zyk (t:ByteArray) (ht:t.size≤2097152):(0:Int)≤t.size∧(t.size:Int) < 18446744073709551616:=by omega
theorem zdh (w0 w:World) (A:Value) (l:List UInt8) (t:ByteArray) (ht:t.size≤2097152) (h:OwnB w0 A l w) (hl:l.length≤900000000):
 Calls Tryz.prog 209 #[A,.string t] w fun e w'=>∃ A',e=.returned A'∧OwnB w0 A' (l++lenB t) w'∧Bx w w':=by
 obtain ⟨i0,hi,hz0,hz1,hz2⟩:=info_parts zf0
 obtain ⟨n,hn⟩:∃ n,n=t.size:=⟨_,rfl⟩
 have hc:Calls Tryz.prog 208 #[A,.int .u64 t.size,.int .i64 4] w fun e w'=>∃ A',e=.returned A'∧OwnB w0 A' (l++beB t.size 4) w'∧Bx w w':=zd1 w0 w A l (t.size:Int) 4 (by omega) (zyk t ht).1 (zyk t ht).2 h (by omega)
 have HC:=Lib.hid hc
 clear h hc
 go_enter Tryz.func209,Tryz.ntmps209
 go_wp2_with (first
  |(go_at_call 208;(with_reducible refine HC.out.mono ?_);rintro e w1 ⟨v1,rfl,O,hbx⟩;have hown:=O.own;have hlo:=O.lo)
  |(at_builtin;refine Lib.wpList_append_own_string _ rfl _ _ 101 9 rfl w0.heap.size 5 i0 Tryz.underlying101 Tryz.underlying9 hi hz0 hz1 hz2 _ _ _ rfl hown t rfl ?_ ?_ hlo ?_))
 all_goals (try (first | rfl |(rw [List.length_append,zbc];unfold maxLen;omega) |(rw [List.length_append,zbc];omega)))
 intro v' w2 hown' hgrow _
 have O2:=O.say (l':=l++lenB t) hown' hgrow (by simp only [lenB,List.length_append,zep];omega) (by unfold lenB;rw [← List.append_assoc,zba (b:=txtB t)];rfl)
 have HB:=Lib.hid (hbx.trans (O.bx hgrow))
 have HO:=Lib.hid O2
 clear hown hown' hgrow O O2 hbx
 go_wp2_with fail
 go_ret
 exact ⟨_,rfl,HO.out,HB.out⟩
theorem zbw (n:Int):((zb7 n 0).toNat:Int)=n % 256:=by
 rw [zif]
 simp
theorem strange {k:Int} (h:zlq k=200):k≠0∧k≠1∧k≠2∧k≠3∧k≠4∧k≠5∧k≠6∧k≠7∧k≠8∧k≠9∧k≠10:=by
 refine ⟨?_,?_,?_,?_,?_,?_,?_,?_,?_,?_,?_⟩ <;> (rintro rfl;revert h;decide)
theorem wrapU (n:Int):IntKind.u64.wrap n=n % 18446744073709551616:=rfl
def zc6 (w0:World) (l:List UInt8) (v:Val) (e:Ending) (w':World):Prop:=∃ A',e=.returned A'∧OwnB w0 A' (l++encP v) w'
theorem encNull (w0 w:World) (A:Value) (l:List UInt8) (b:Bool) (n:Int) (t x:ByteArray) (p:Option Addr) (q:List Val) (cap:Nat) (hf:Fine n t x q.length) (h:OwnB w0 A l w) (hl:l.length≤800000000):
 Calls Tryz.prog 166 #[A,.agg #[.int .i64 0,.bool b,.int .i64 n,.string t,.string x,.slice p q.length cap]] w (zc6 w0 l (.mk 0 b n t x q)):=by
 obtain ⟨i0,hi,hz0,hz1,hz2⟩:=info_parts zf0
 obtain ⟨W0,hW0⟩:∃ W0,W0=w.alloc (.cells #[.int .i64 0,.bool b,.int .i64 n,.string t,.string x,.slice p q.length cap] 48):=⟨_,rfl⟩
 have S:Six W0 w.heap.size 0 b n t x p q.length cap:=by rw [hW0];exact zaj _ rfl
 have hne:=h.ne
 have O:OwnB w0 A l W0:=by rw [hW0];exact h.alloc _
 have hown:=O.own
 have f0:=S.c0
 have HS:Hid (W0.heap.size=w.heap.size+1):=Lib.hid (by rw [hW0];simp)
 have hlo:w0.heap.size≤w.heap.size:=h.lo
 have H0:=Lib.hid hW0
 have HF:=Lib.hid hf
 clear hW0 h hf
 go_enter Tryz.func166,Tryz.ntmps166
 go_wp2_with (at_builtin;rw [← H0.out];refine wpList_append_own _ rfl _ _ 101 rfl w0.heap.size 5 i0 (.int .u8 0) 1 1 Tryz.underlying101 hi hz0 hz1 hz2 rfl (by decide) _ _ _ rfl (hown.alloc _) ⟨w.heap.size+1,0,none⟩ 1 1 [.int .u8 (0)] rfl rfl ?_ ?_ ?_ ?_ ?_ ?_)
 all_goals (try (first | rfl |(unfold maxLen;omega) | omega |(simp [HS.out];omega) |(intro u hu;simp at hu;subst hu;rfl) |(rw [← HS.out];exact cell_one_new _ _ _) |(simp;done)))
 intro v1 w1 hown1 hgrow _
 have O1:=(O.alloc _).say (l':=l++[zb7 0 0]) hown1 hgrow (by simp) (by rw [zba,zcp _ (zbw _)];rfl)
 have S1:=(S.alloc (.cells #[.int .u8 (0)] 5)).grown hgrow hne
 clear hgrow hown1 hown O S f0 H0
 go_wp2_with (first
  |((with_reducible refine zac (.tmp 3) w.heap.size S1 ?_ ?_ ?_ ?_);rfl;rfl;rfl)
  |(go_at_call 156;(with_reducible refine (zau 0 _ _ _ _ _ 164 rfl _).mono ?_);rintro e w2 ⟨rfl,hb2⟩;have O2:=O1.after hb2.is;have S2:=S1.below hb2.is;have f0:=S2.c0;have f1:=S2.c1;have f2:=S2.c2;have f3:=S2.c3;have f4:=S2.c4;have f5:=S2.c5;clear hb2 O1 S1)
  |(simp only [zgb,zgc,zgd,zge,zgf,zjf,zjg,zjh,zji,zgg,Result.andThen_ok]))
 have HO:=Lib.hid O2
 clear O2
 go_wp2_with fail
 go_ret
 exact ⟨_,rfl,by unfold encP;simpa using HO.out⟩
theorem z1m (w0 w:World) (A:Value) (l:List UInt8) (b:Bool) (n:Int) (t x:ByteArray) (p:Option Addr) (q:List Val) (cap:Nat) (hf:Fine n t x q.length) (h:OwnB w0 A l w) (hl:l.length≤800000000):
 Calls Tryz.prog 166 #[A,.agg #[.int .i64 2,.bool b,.int .i64 n,.string t,.string x,.slice p q.length cap]] w (zc6 w0 l (.mk 2 b n t x q)):=by
 obtain ⟨i0,hi,hz0,hz1,hz2⟩:=info_parts zf0
 obtain ⟨W0,hW0⟩:∃ W0,W0=w.alloc (.cells #[.int .i64 2,.bool b,.int .i64 n,.string t,.string x,.slice p q.length cap] 48):=⟨_,rfl⟩
 have S:Six W0 w.heap.size 2 b n t x p q.length cap:=by rw [hW0];exact zaj _ rfl
 have hne:=h.ne
 have O:OwnB w0 A l W0:=by rw [hW0];exact h.alloc _
 have hown:=O.own
 have f0:=S.c0
 have HS:Hid (W0.heap.size=w.heap.size+1):=Lib.hid (by rw [hW0];simp)
 have hlo:w0.heap.size≤w.heap.size:=h.lo
 have H0:=Lib.hid hW0
 have HF:=Lib.hid hf
 clear hW0 h hf
 have hI:∀ W A L,OwnB w0 A L W→L.length≤1000000000→Calls Tryz.prog 208 #[A,.int .u64 (IntKind.u64.wrap n),.int .i64 8] W fun e w'=>∃ A',e=.returned A'∧OwnB w0 A' (L++beB n 8) w'∧Bx W w':=fun W A L hO hL=>by
  have:=zd1 w0 W A L (n % 18446744073709551616) 8 (by omega) (by omega) (by omega) hO hL
  rw [zqf n 8 (by omega),← wrapU n] at this
  exact this
 go_enter Tryz.func166,Tryz.ntmps166
 go_wp2_with (at_builtin;rw [← H0.out];refine wpList_append_own _ rfl _ _ 101 rfl w0.heap.size 5 i0 (.int .u8 0) 1 1 Tryz.underlying101 hi hz0 hz1 hz2 rfl (by decide) _ _ _ rfl (hown.alloc _) ⟨w.heap.size+1,0,none⟩ 1 1 [.int .u8 (2)] rfl rfl ?_ ?_ ?_ ?_ ?_ ?_)
 all_goals (try (first | rfl |(unfold maxLen;omega) | omega |(simp [HS.out];omega) |(intro u hu;simp at hu;subst hu;rfl) |(rw [← HS.out];exact cell_one_new _ _ _) |(simp;done)))
 intro v1 w1 hown1 hgrow _
 have O1:=(O.alloc _).say (l':=l++[zb7 2 0]) hown1 hgrow (by simp) (by rw [zba,zcp _ (zbw _)];rfl)
 have S1:=(S.alloc (.cells #[.int .u8 (2)] 5)).grown hgrow hne
 clear hgrow hown1 hown O S f0 H0
 go_wp2_with (first
  |((with_reducible refine zac (.tmp 3) w.heap.size S1 ?_ ?_ ?_ ?_);rfl;rfl;rfl)
  |(go_at_call 156;(with_reducible refine (zau 2 _ _ _ _ _ 166 rfl _).mono ?_);rintro e w2 ⟨rfl,hb2⟩;have O2:=O1.after hb2.is;have S2:=S1.below hb2.is;have f0:=S2.c0;have f1:=S2.c1;have f2:=S2.c2;have f3:=S2.c3;have f4:=S2.c4;have f5:=S2.c5;clear hb2 O1 S1)
  |(simp only [zjo,zjp,zjq,zjr,Result.andThen_ok])
  |(go_at_call 208;(with_reducible refine (hI _ _ _ O2 (by simp only [List.length_append,List.length_cons,List.length_nil];omega)).mono ?_);rintro e w3 ⟨v3,rfl,O3,hx3⟩;clear f0 f1 f2 f3 f4 f5 O2 S2))
 have HO:=Lib.hid O3
 clear O3
 go_wp2_with fail
 go_ret
 exact ⟨_,rfl,by unfold encP;simpa using HO.out⟩
theorem encNode (w0 w:World) (A:Value) (l:List UInt8) (b:Bool) (n:Int) (t x:ByteArray) (p:Option Addr) (q:List Val) (cap:Nat) (hf:Fine n t x q.length) (h:OwnB w0 A l w) (hl:l.length≤800000000):
 Calls Tryz.prog 166 #[A,.agg #[.int .i64 6,.bool b,.int .i64 n,.string t,.string x,.slice p q.length cap]] w (zc6 w0 l (.mk 6 b n t x q)):=by
 obtain ⟨i0,hi,hz0,hz1,hz2⟩:=info_parts zf0
 obtain ⟨W0,hW0⟩:∃ W0,W0=w.alloc (.cells #[.int .i64 6,.bool b,.int .i64 n,.string t,.string x,.slice p q.length cap] 48):=⟨_,rfl⟩
 have S:Six W0 w.heap.size 6 b n t x p q.length cap:=by rw [hW0];exact zaj _ rfl
 have hne:=h.ne
 have O:OwnB w0 A l W0:=by rw [hW0];exact h.alloc _
 have hown:=O.own
 have f0:=S.c0
 have HS:Hid (W0.heap.size=w.heap.size+1):=Lib.hid (by rw [hW0];simp)
 have hlo:w0.heap.size≤w.heap.size:=h.lo
 have H0:=Lib.hid hW0
 have HF:=Lib.hid hf
 clear hW0 h hf
 have hI:∀ W A L,OwnB w0 A L W→L.length≤1000000000→Calls Tryz.prog 208 #[A,.int .u64 (IntKind.u64.wrap n),.int .i64 8] W fun e w'=>∃ A',e=.returned A'∧OwnB w0 A' (L++beB n 8) w'∧Bx W w':=fun W A L hO hL=>by
  have:=zd1 w0 W A L (n % 18446744073709551616) 8 (by omega) (by omega) (by omega) hO hL
  rw [zqf n 8 (by omega),← wrapU n] at this
  exact this
 go_enter Tryz.func166,Tryz.ntmps166
 go_wp2_with (at_builtin;rw [← H0.out];refine wpList_append_own _ rfl _ _ 101 rfl w0.heap.size 5 i0 (.int .u8 0) 1 1 Tryz.underlying101 hi hz0 hz1 hz2 rfl (by decide) _ _ _ rfl (hown.alloc _) ⟨w.heap.size+1,0,none⟩ 1 1 [.int .u8 (6)] rfl rfl ?_ ?_ ?_ ?_ ?_ ?_)
 all_goals (try (first | rfl |(unfold maxLen;omega) | omega |(simp [HS.out];omega) |(intro u hu;simp at hu;subst hu;rfl) |(rw [← HS.out];exact cell_one_new _ _ _) |(simp;done)))
 intro v1 w1 hown1 hgrow _
 have O1:=(O.alloc _).say (l':=l++[zb7 6 0]) hown1 hgrow (by simp) (by rw [zba,zcp _ (zbw _)];rfl)
 have S1:=(S.alloc (.cells #[.int .u8 (6)] 5)).grown hgrow hne
 clear hgrow hown1 hown O S f0 H0
 go_wp2_with (first
  |((with_reducible refine zac (.tmp 3) w.heap.size S1 ?_ ?_ ?_ ?_);rfl;rfl;rfl)
  |(go_at_call 156;(with_reducible refine (zau 6 _ _ _ _ _ 167 rfl _).mono ?_);rintro e w2 ⟨rfl,hb2⟩;have O2:=O1.after hb2.is;have S2:=S1.below hb2.is;have f0:=S2.c0;have f1:=S2.c1;have f2:=S2.c2;have f3:=S2.c3;have f4:=S2.c4;have f5:=S2.c5;clear hb2 O1 S1)
  |(simp only [zgn,zgo,zgp,zgq,Result.andThen_ok])
  |(go_at_call 208;(with_reducible refine (hI _ _ _ O2 (by simp only [List.length_append,List.length_cons,List.length_nil];omega)).mono ?_);rintro e w3 ⟨v3,rfl,O3,hx3⟩;clear f0 f1 f2 f3 f4 f5 O2 S2))
 have HO:=Lib.hid O3
 clear O3
 go_wp2_with fail
 go_ret
 exact ⟨_,rfl,by unfold encP;simpa using HO.out⟩
theorem encEdge (w0 w:World) (A:Value) (l:List UInt8) (b:Bool) (n:Int) (t x:ByteArray) (p:Option Addr) (q:List Val) (cap:Nat) (hf:Fine n t x q.length) (h:OwnB w0 A l w) (hl:l.length≤800000000):
 Calls Tryz.prog 166 #[A,.agg #[.int .i64 7,.bool b,.int .i64 n,.string t,.string x,.slice p q.length cap]] w (zc6 w0 l (.mk 7 b n t x q)):=by
 obtain ⟨i0,hi,hz0,hz1,hz2⟩:=info_parts zf0
 obtain ⟨W0,hW0⟩:∃ W0,W0=w.alloc (.cells #[.int .i64 7,.bool b,.int .i64 n,.string t,.string x,.slice p q.length cap] 48):=⟨_,rfl⟩
 have S:Six W0 w.heap.size 7 b n t x p q.length cap:=by rw [hW0];exact zaj _ rfl
 have hne:=h.ne
 have O:OwnB w0 A l W0:=by rw [hW0];exact h.alloc _
 have hown:=O.own
 have f0:=S.c0
 have HS:Hid (W0.heap.size=w.heap.size+1):=Lib.hid (by rw [hW0];simp)
 have hlo:w0.heap.size≤w.heap.size:=h.lo
 have H0:=Lib.hid hW0
 have HF:=Lib.hid hf
 clear hW0 h hf
 have hI:∀ W A L,OwnB w0 A L W→L.length≤1000000000→Calls Tryz.prog 208 #[A,.int .u64 (IntKind.u64.wrap n),.int .i64 8] W fun e w'=>∃ A',e=.returned A'∧OwnB w0 A' (L++beB n 8) w'∧Bx W w':=fun W A L hO hL=>by
  have:=zd1 w0 W A L (n % 18446744073709551616) 8 (by omega) (by omega) (by omega) hO hL
  rw [zqf n 8 (by omega),← wrapU n] at this
  exact this
 go_enter Tryz.func166,Tryz.ntmps166
 go_wp2_with (at_builtin;rw [← H0.out];refine wpList_append_own _ rfl _ _ 101 rfl w0.heap.size 5 i0 (.int .u8 0) 1 1 Tryz.underlying101 hi hz0 hz1 hz2 rfl (by decide) _ _ _ rfl (hown.alloc _) ⟨w.heap.size+1,0,none⟩ 1 1 [.int .u8 (7)] rfl rfl ?_ ?_ ?_ ?_ ?_ ?_)
 all_goals (try (first | rfl |(unfold maxLen;omega) | omega |(simp [HS.out];omega) |(intro u hu;simp at hu;subst hu;rfl) |(rw [← HS.out];exact cell_one_new _ _ _) |(simp;done)))
 intro v1 w1 hown1 hgrow _
 have O1:=(O.alloc _).say (l':=l++[zb7 7 0]) hown1 hgrow (by simp) (by rw [zba,zcp _ (zbw _)];rfl)
 have S1:=(S.alloc (.cells #[.int .u8 (7)] 5)).grown hgrow hne
 clear hgrow hown1 hown O S f0 H0
 go_wp2_with (first
  |((with_reducible refine zac (.tmp 3) w.heap.size S1 ?_ ?_ ?_ ?_);rfl;rfl;rfl)
  |(go_at_call 156;(with_reducible refine (zau 7 _ _ _ _ _ 168 rfl _).mono ?_);rintro e w2 ⟨rfl,hb2⟩;have O2:=O1.after hb2.is;have S2:=S1.below hb2.is;have f0:=S2.c0;have f1:=S2.c1;have f2:=S2.c2;have f3:=S2.c3;have f4:=S2.c4;have f5:=S2.c5;clear hb2 O1 S1)
  |(simp only [zgt,zgu,zgv,zgw,Result.andThen_ok])
  |(go_at_call 208;(with_reducible refine (hI _ _ _ O2 (by simp only [List.length_append,List.length_cons,List.length_nil];omega)).mono ?_);rintro e w3 ⟨v3,rfl,O3,hx3⟩;clear f0 f1 f2 f3 f4 f5 O2 S2))
 have HO:=Lib.hid O3
 clear O3
 go_wp2_with fail
 go_ret
 exact ⟨_,rfl,by unfold encP;simpa using HO.out⟩
theorem z1n (w0 w:World) (A:Value) (l:List UInt8) (b:Bool) (n:Int) (t x:ByteArray) (p:Option Addr) (q:List Val) (cap:Nat) (hf:Fine n t x q.length) (h:OwnB w0 A l w) (hl:l.length≤800000000):
 Calls Tryz.prog 166 #[A,.agg #[.int .i64 3,.bool b,.int .i64 n,.string t,.string x,.slice p q.length cap]] w (zc6 w0 l (.mk 3 b n t x q)):=by
 obtain ⟨i0,hi,hz0,hz1,hz2⟩:=info_parts zf0
 obtain ⟨W0,hW0⟩:∃ W0,W0=w.alloc (.cells #[.int .i64 3,.bool b,.int .i64 n,.string t,.string x,.slice p q.length cap] 48):=⟨_,rfl⟩
 have S:Six W0 w.heap.size 3 b n t x p q.length cap:=by rw [hW0];exact zaj _ rfl
 have hne:=h.ne
 have O:OwnB w0 A l W0:=by rw [hW0];exact h.alloc _
 have hown:=O.own
 have f0:=S.c0
 have HS:Hid (W0.heap.size=w.heap.size+1):=Lib.hid (by rw [hW0];simp)
 have hlo:w0.heap.size≤w.heap.size:=h.lo
 have H0:=Lib.hid hW0
 have HF:=Lib.hid hf
 clear hW0 h hf
 go_enter Tryz.func166,Tryz.ntmps166
 go_wp2_with (at_builtin;rw [← H0.out];refine wpList_append_own _ rfl _ _ 101 rfl w0.heap.size 5 i0 (.int .u8 0) 1 1 Tryz.underlying101 hi hz0 hz1 hz2 rfl (by decide) _ _ _ rfl (hown.alloc _) ⟨w.heap.size+1,0,none⟩ 1 1 [.int .u8 (3)] rfl rfl ?_ ?_ ?_ ?_ ?_ ?_)
 all_goals (try (first | rfl |(unfold maxLen;omega) | omega |(simp [HS.out];omega) |(intro u hu;simp at hu;subst hu;rfl) |(rw [← HS.out];exact cell_one_new _ _ _) |(simp;done)))
 intro v1 w1 hown1 hgrow _
 have O1:=(O.alloc _).say (l':=l++[zb7 3 0]) hown1 hgrow (by simp) (by rw [zba,zcp _ (zbw _)];rfl)
 have S1:=(S.alloc (.cells #[.int .u8 (3)] 5)).grown hgrow hne
 clear hgrow hown1 hown O S f0 H0
 go_wp2_with (first
  |((with_reducible refine zac (.tmp 3) w.heap.size S1 ?_ ?_ ?_ ?_);rfl;rfl;rfl)
  |(go_at_call 156;(with_reducible refine (zau 3 _ _ _ _ _ 169 rfl _).mono ?_);rintro e w2 ⟨rfl,hb2⟩;have O2:=O1.after hb2.is;have S2:=S1.below hb2.is;have f0:=S2.c0;have f1:=S2.c1;have f2:=S2.c2;have f3:=S2.c3;have f4:=S2.c4;have f5:=S2.c5;clear hb2 O1 S1)
  |(simp only [zgz,zg0,zg1,zg2,zg3,zj5,zj6,zj7,Result.andThen_ok])
  |(go_at_call 209;(with_reducible refine (zdh w0 _ _ _ t HF.out.ht O2 (by simp only [List.length_append,List.length_cons,List.length_nil];omega)).mono ?_);rintro e w3 ⟨v3,rfl,O3,hx3⟩;clear f0 f1 f2 f3 f4 f5 O2 S2))
 have HO:=Lib.hid O3
 clear O3
 go_wp2_with fail
 go_ret
 exact ⟨_,rfl,by unfold encP;simpa using HO.out⟩
theorem encText (w0 w:World) (A:Value) (l:List UInt8) (b:Bool) (n:Int) (t x:ByteArray) (p:Option Addr) (q:List Val) (cap:Nat) (hf:Fine n t x q.length) (h:OwnB w0 A l w) (hl:l.length≤800000000):
 Calls Tryz.prog 166 #[A,.agg #[.int .i64 4,.bool b,.int .i64 n,.string t,.string x,.slice p q.length cap]] w (zc6 w0 l (.mk 4 b n t x q)):=by
 obtain ⟨i0,hi,hz0,hz1,hz2⟩:=info_parts zf0
 obtain ⟨W0,hW0⟩:∃ W0,W0=w.alloc (.cells #[.int .i64 4,.bool b,.int .i64 n,.string t,.string x,.slice p q.length cap] 48):=⟨_,rfl⟩
 have S:Six W0 w.heap.size 4 b n t x p q.length cap:=by rw [hW0];exact zaj _ rfl
 have hne:=h.ne
 have O:OwnB w0 A l W0:=by rw [hW0];exact h.alloc _
 have hown:=O.own
 have f0:=S.c0
 have HS:Hid (W0.heap.size=w.heap.size+1):=Lib.hid (by rw [hW0];simp)
 have hlo:w0.heap.size≤w.heap.size:=h.lo
 have H0:=Lib.hid hW0
 have HF:=Lib.hid hf
 clear hW0 h hf
 go_enter Tryz.func166,Tryz.ntmps166
 go_wp2_with (at_builtin;rw [← H0.out];refine wpList_append_own _ rfl _ _ 101 rfl w0.heap.size 5 i0 (.int .u8 0) 1 1 Tryz.underlying101 hi hz0 hz1 hz2 rfl (by decide) _ _ _ rfl (hown.alloc _) ⟨w.heap.size+1,0,none⟩ 1 1 [.int .u8 (4)] rfl rfl ?_ ?_ ?_ ?_ ?_ ?_)
 all_goals (try (first | rfl |(unfold maxLen;omega) | omega |(simp [HS.out];omega) |(intro u hu;simp at hu;subst hu;rfl) |(rw [← HS.out];exact cell_one_new _ _ _) |(simp;done)))
 intro v1 w1 hown1 hgrow _
 have O1:=(O.alloc _).say (l':=l++[zb7 4 0]) hown1 hgrow (by simp) (by rw [zba,zcp _ (zbw _)];rfl)
 have S1:=(S.alloc (.cells #[.int .u8 (4)] 5)).grown hgrow hne
 clear hgrow hown1 hown O S f0 H0
 go_wp2_with (first
  |((with_reducible refine zac (.tmp 3) w.heap.size S1 ?_ ?_ ?_ ?_);rfl;rfl;rfl)
  |(go_at_call 156;(with_reducible refine (zau 4 _ _ _ _ _ 170 rfl _).mono ?_);rintro e w2 ⟨rfl,hb2⟩;have O2:=O1.after hb2.is;have S2:=S1.below hb2.is;have f0:=S2.c0;have f1:=S2.c1;have f2:=S2.c2;have f3:=S2.c3;have f4:=S2.c4;have f5:=S2.c5;clear hb2 O1 S1)
  |(simp only [zg5,zg6,zg7,zg8,zg9,zka,zkb,zkc,Result.andThen_ok])
  |(go_at_call 209;(with_reducible refine (zdh w0 _ _ _ t HF.out.ht O2 (by simp only [List.length_append,List.length_cons,List.length_nil];omega)).mono ?_);rintro e w3 ⟨v3,rfl,O3,hx3⟩;clear f0 f1 f2 f3 f4 f5 O2 S2))
 have HO:=Lib.hid O3
 clear O3
 go_wp2_with fail
 go_ret
 exact ⟨_,rfl,by unfold encP;simpa using HO.out⟩
theorem encIri (w0 w:World) (A:Value) (l:List UInt8) (b:Bool) (n:Int) (t x:ByteArray) (p:Option Addr) (q:List Val) (cap:Nat) (hf:Fine n t x q.length) (h:OwnB w0 A l w) (hl:l.length≤800000000):
 Calls Tryz.prog 166 #[A,.agg #[.int .i64 8,.bool b,.int .i64 n,.string t,.string x,.slice p q.length cap]] w (zc6 w0 l (.mk 8 b n t x q)):=by
 obtain ⟨i0,hi,hz0,hz1,hz2⟩:=info_parts zf0
 obtain ⟨W0,hW0⟩:∃ W0,W0=w.alloc (.cells #[.int .i64 8,.bool b,.int .i64 n,.string t,.string x,.slice p q.length cap] 48):=⟨_,rfl⟩
 have S:Six W0 w.heap.size 8 b n t x p q.length cap:=by rw [hW0];exact zaj _ rfl
 have hne:=h.ne
 have O:OwnB w0 A l W0:=by rw [hW0];exact h.alloc _
 have hown:=O.own
 have f0:=S.c0
 have HS:Hid (W0.heap.size=w.heap.size+1):=Lib.hid (by rw [hW0];simp)
 have hlo:w0.heap.size≤w.heap.size:=h.lo
 have H0:=Lib.hid hW0
 have HF:=Lib.hid hf
 clear hW0 h hf
 go_enter Tryz.func166,Tryz.ntmps166
 go_wp2_with (at_builtin;rw [← H0.out];refine wpList_append_own _ rfl _ _ 101 rfl w0.heap.size 5 i0 (.int .u8 0) 1 1 Tryz.underlying101 hi hz0 hz1 hz2 rfl (by decide) _ _ _ rfl (hown.alloc _) ⟨w.heap.size+1,0,none⟩ 1 1 [.int .u8 (8)] rfl rfl ?_ ?_ ?_ ?_ ?_ ?_)
 all_goals (try (first | rfl |(unfold maxLen;omega) | omega |(simp [HS.out];omega) |(intro u hu;simp at hu;subst hu;rfl) |(rw [← HS.out];exact cell_one_new _ _ _) |(simp;done)))
 intro v1 w1 hown1 hgrow _
 have O1:=(O.alloc _).say (l':=l++[zb7 8 0]) hown1 hgrow (by simp) (by rw [zba,zcp _ (zbw _)];rfl)
 have S1:=(S.alloc (.cells #[.int .u8 (8)] 5)).grown hgrow hne
 clear hgrow hown1 hown O S f0 H0
 go_wp2_with (first
  |((with_reducible refine zac (.tmp 3) w.heap.size S1 ?_ ?_ ?_ ?_);rfl;rfl;rfl)
  |(go_at_call 156;(with_reducible refine (zau 8 _ _ _ _ _ 171 rfl _).mono ?_);rintro e w2 ⟨rfl,hb2⟩;have O2:=O1.after hb2.is;have S2:=S1.below hb2.is;have f0:=S2.c0;have f1:=S2.c1;have f2:=S2.c2;have f3:=S2.c3;have f4:=S2.c4;have f5:=S2.c5;clear hb2 O1 S1)
  |(simp only [zhb,zhc,zhd,zhe,zhf,zkf,zkg,zkh,Result.andThen_ok])
  |(go_at_call 209;(with_reducible refine (zdh w0 _ _ _ t HF.out.ht O2 (by simp only [List.length_append,List.length_cons,List.length_nil];omega)).mono ?_);rintro e w3 ⟨v3,rfl,O3,hx3⟩;clear f0 f1 f2 f3 f4 f5 O2 S2))
 have HO:=Lib.hid O3
 clear O3
 go_wp2_with fail
 go_ret
 exact ⟨_,rfl,by unfold encP;simpa using HO.out⟩
theorem z1o (w0 w:World) (A:Value) (l:List UInt8) (b:Bool) (n:Int) (t x:ByteArray) (p:Option Addr) (q:List Val) (cap:Nat) (hf:Fine n t x q.length) (h:OwnB w0 A l w) (hl:l.length≤800000000):
 Calls Tryz.prog 166 #[A,.agg #[.int .i64 9,.bool b,.int .i64 n,.string t,.string x,.slice p q.length cap]] w (zc6 w0 l (.mk 9 b n t x q)):=by
 obtain ⟨i0,hi,hz0,hz1,hz2⟩:=info_parts zf0
 obtain ⟨W0,hW0⟩:∃ W0,W0=w.alloc (.cells #[.int .i64 9,.bool b,.int .i64 n,.string t,.string x,.slice p q.length cap] 48):=⟨_,rfl⟩
 have S:Six W0 w.heap.size 9 b n t x p q.length cap:=by rw [hW0];exact zaj _ rfl
 have hne:=h.ne
 have O:OwnB w0 A l W0:=by rw [hW0];exact h.alloc _
 have hown:=O.own
 have f0:=S.c0
 have HS:Hid (W0.heap.size=w.heap.size+1):=Lib.hid (by rw [hW0];simp)
 have hlo:w0.heap.size≤w.heap.size:=h.lo
 have H0:=Lib.hid hW0
 have HF:=Lib.hid hf
 clear hW0 h hf
 go_enter Tryz.func166,Tryz.ntmps166
 go_wp2_with (at_builtin;rw [← H0.out];refine wpList_append_own _ rfl _ _ 101 rfl w0.heap.size 5 i0 (.int .u8 0) 1 1 Tryz.underlying101 hi hz0 hz1 hz2 rfl (by decide) _ _ _ rfl (hown.alloc _) ⟨w.heap.size+1,0,none⟩ 1 1 [.int .u8 (9)] rfl rfl ?_ ?_ ?_ ?_ ?_ ?_)
 all_goals (try (first | rfl |(unfold maxLen;omega) | omega |(simp [HS.out];omega) |(intro u hu;simp at hu;subst hu;rfl) |(rw [← HS.out];exact cell_one_new _ _ _) |(simp;done)))
 intro v1 w1 hown1 hgrow _
 have O1:=(O.alloc _).say (l':=l++[zb7 9 0]) hown1 hgrow (by simp) (by rw [zba,zcp _ (zbw _)];rfl)
 have S1:=(S.alloc (.cells #[.int .u8 (9)] 5)).grown hgrow hne
 clear hgrow hown1 hown O S f0 H0
 go_wp2_with (first
  |((with_reducible refine zac (.tmp 3) w.heap.size S1 ?_ ?_ ?_ ?_);rfl;rfl;rfl)
  |(go_at_call 156;(with_reducible refine (zau 9 _ _ _ _ _ 172 rfl _).mono ?_);rintro e w2 ⟨rfl,hb2⟩;have O2:=O1.after hb2.is;have S2:=S1.below hb2.is;have f0:=S2.c0;have f1:=S2.c1;have f2:=S2.c2;have f3:=S2.c3;have f4:=S2.c4;have f5:=S2.c5;clear hb2 O1 S1)
  |(simp only [zhh,zhi,zhj,zhk,zhl,zkk,zkl,zkm,Result.andThen_ok])
  |(go_at_call 209;(with_reducible refine (zdh w0 _ _ _ t HF.out.ht O2 (by simp only [List.length_append,List.length_cons,List.length_nil];omega)).mono ?_);rintro e w3 ⟨v3,rfl,O3,hx3⟩;clear f0 f1 f2 f3 f4 f5 O2 S2))
 have HO:=Lib.hid O3
 clear O3
 go_wp2_with fail
 go_ret
 exact ⟨_,rfl,by unfold encP;simpa using HO.out⟩
theorem zs6 (w0 w:World) (A:Value) (l:List UInt8) (k:Int) (b:Bool) (n:Int) (t x:ByteArray) (p:Option Addr) (q:List Val) (cap:Nat) (hf:Fine n t x q.length) (h:OwnB w0 A l w) (hl:l.length≤800000000) (hk:zlq k=200):
 Calls Tryz.prog 166 #[A,.agg #[.int .i64 k,.bool b,.int .i64 n,.string t,.string x,.slice p q.length cap]] w (zc6 w0 l (.mk k b n t x q)):=by
 obtain ⟨i0,hi,hz0,hz1,hz2⟩:=info_parts zf0
 obtain ⟨W0,hW0⟩:∃ W0,W0=w.alloc (.cells #[.int .i64 k,.bool b,.int .i64 n,.string t,.string x,.slice p q.length cap] 48):=⟨_,rfl⟩
 have S:Six W0 w.heap.size k b n t x p q.length cap:=by rw [hW0];exact zaj _ rfl
 have hne:=h.ne
 have O:OwnB w0 A l W0:=by rw [hW0];exact h.alloc _
 have hown:=O.own
 have f0:=S.c0
 have HS:Hid (W0.heap.size=w.heap.size+1):=Lib.hid (by rw [hW0];simp)
 have hlo:w0.heap.size≤w.heap.size:=h.lo
 have H0:=Lib.hid hW0
 have HF:=Lib.hid hf
 clear hW0 h hf
 go_enter Tryz.func166,Tryz.ntmps166
 go_wp2_with (at_builtin;rw [← H0.out];refine wpList_append_own _ rfl _ _ 101 rfl w0.heap.size 5 i0 (.int .u8 0) 1 1 Tryz.underlying101 hi hz0 hz1 hz2 rfl (by decide) _ _ _ rfl (hown.alloc _) ⟨w.heap.size+1,0,none⟩ 1 1 [.int .u8 (k % 256)] rfl rfl ?_ ?_ ?_ ?_ ?_ ?_)
 all_goals (try (first | rfl |(unfold maxLen;omega) | omega |(simp [HS.out];omega) |(intro u hu;simp at hu;subst hu;rfl) |(rw [← HS.out];exact cell_one_new _ _ _) |(simp;done)))
 intro v1 w1 hown1 hgrow _
 have O1:=(O.alloc _).say (l':=l++[zb7 k 0]) hown1 hgrow (by simp) (by rw [zba,zcp _ (zbw _)])
 have S1:=(S.alloc (.cells #[.int .u8 (k % 256)] 5)).grown hgrow hne
 clear hgrow hown1 hown O S f0 H0
 go_wp2_with (first
  |((with_reducible refine zac (.tmp 3) w.heap.size S1 ?_ ?_ ?_ ?_);rfl;rfl;rfl)
  |(go_at_call 156;(with_reducible refine (zau k _ _ _ _ _ 200 hk.symm _).mono ?_);rintro e w2 ⟨rfl,hb2⟩;have O2:=O1.after hb2.is;have S2:=S1.below hb2.is;have f0:=S2.c0;have f1:=S2.c1;have f2:=S2.c2;have f3:=S2.c3;have f4:=S2.c4;have f5:=S2.c5;clear hb2 O1 S1)
  |(simp only [zko,zkp,zkq,zkr,zks,znj,znk,znl,znm,zkt,Result.andThen_ok]))
 have HO:=Lib.hid O2
 clear O2
 go_wp2_with fail
 go_ret
 exact ⟨_,rfl,by have hk2:=strange hk;unfold encP;simpa [hk2] using HO.out⟩
theorem zs7 (w0 w:World) (A:Value) (l:List UInt8) (n:Int) (t x:ByteArray) (p:Option Addr) (q:List Val) (cap:Nat) (hf:Fine n t x q.length) (h:OwnB w0 A l w) (hl:l.length≤800000000):
 Calls Tryz.prog 166 #[A,.agg #[.int .i64 1,.bool true,.int .i64 n,.string t,.string x,.slice p q.length cap]] w (zc6 w0 l (.mk 1 true n t x q)):=by
 obtain ⟨i0,hi,hz0,hz1,hz2⟩:=info_parts zf0
 obtain ⟨W0,hW0⟩:∃ W0,W0=w.alloc (.cells #[.int .i64 1,.bool true,.int .i64 n,.string t,.string x,.slice p q.length cap] 48):=⟨_,rfl⟩
 have S:Six W0 w.heap.size 1 true n t x p q.length cap:=by rw [hW0];exact zaj _ rfl
 have hne:=h.ne
 have O:OwnB w0 A l W0:=by rw [hW0];exact h.alloc _
 have hown:=O.own
 have f0:=S.c0
 have HS:Hid (W0.heap.size=w.heap.size+1):=Lib.hid (by rw [hW0];simp)
 have hlo:w0.heap.size≤w.heap.size:=h.lo
 have H0:=Lib.hid hW0
 have HF:=Lib.hid hf
 clear hW0 h hf
 have hT:∀ W,Calls Tryz.prog 207 #[.bool true] W fun e w'=>e=.returned (.int .i64 1)∧W=w':=fun W=>by
  have:=zqz true W
  simpa using this
 go_enter Tryz.func166,Tryz.ntmps166
 go_wp2_with (at_builtin;rw [← H0.out];refine wpList_append_own _ rfl _ _ 101 rfl w0.heap.size 5 i0 (.int .u8 0) 1 1 Tryz.underlying101 hi hz0 hz1 hz2 rfl (by decide) _ _ _ rfl (hown.alloc _) ⟨w.heap.size+1,0,none⟩ 1 1 [.int .u8 (1)] rfl rfl ?_ ?_ ?_ ?_ ?_ ?_)
 all_goals (try (first | rfl |(unfold maxLen;omega) | omega |(simp [HS.out];omega) |(intro u hu;simp at hu;subst hu;rfl) |(rw [← HS.out];exact cell_one_new _ _ _) |(simp;done)))
 intro v1 w1 hown1 hgrow _
 have O1:=(O.alloc _).say (l':=l++[zb7 1 0]) hown1 hgrow (by simp) (by rw [zba,zcp _ (zbw _)];rfl)
 have S1:=(S.alloc (.cells #[.int .u8 (1)] 5)).grown hgrow hne
 clear hgrow hown1 hown O S f0 H0
 go_wp2_with (first
  |((with_reducible refine zac (.tmp 3) w.heap.size S1 ?_ ?_ ?_ ?_);rfl;rfl;rfl)
  |(go_at_call 156;(with_reducible refine (zau 1 _ _ _ _ _ 165 rfl _).mono ?_);rintro e w2 ⟨rfl,hb2⟩;have O2:=O1.after hb2.is;have S2:=S1.below hb2.is;have f0:=S2.c0;have f1:=S2.c1;have f2:=S2.c2;have f3:=S2.c3;have f4:=S2.c4;have f5:=S2.c5;clear hb2 O1 S1)
  |(simp only [zgh,Result.andThen_ok])
  |(go_at_call 207;(with_reducible refine (hT _).mono ?_);rintro e w3 ⟨rfl,rfl⟩;have O3:=O2;have hown3:=O3.own;have hlo3:=O3.lo)
  |(at_builtin;refine wpList_append_own _ rfl _ _ 101 rfl w0.heap.size 5 i0 (.int .u8 0) 1 1 Tryz.underlying101 hi hz0 hz1 hz2 rfl (by decide) _ _ _ rfl (hown3.alloc _) ⟨w2.heap.size,0,none⟩ 1 1 [_] rfl rfl (cell_one_new _ (.int .u8 1) _) ?_ ?_ ?_ ?_ ?_))
 all_goals (try (first | rfl |(simp only [List.length_append,List.length_cons,List.length_nil];unfold maxLen;omega) |(simp;omega) |(intro u hu;simp at hu;subst hu;rfl)))
 intro v3 w3 hown4 hgrow4 _
 have HO:=Lib.hid ((O3.alloc _).say (l':=l++[zb7 1 0]++[1]) hown4 hgrow4 (by simp) (by rw [zba (a:=l++[zb7 1 0])];rfl))
 clear hown4 hgrow4 hown3 O3 O2 S2
 go_wp2_with fail
 go_ret
 exact ⟨_,rfl,by unfold encP;simpa using HO.out⟩
theorem zrc (w0 w:World) (A:Value) (l:List UInt8) (n:Int) (t x:ByteArray) (p:Option Addr) (q:List Val) (cap:Nat) (hf:Fine n t x q.length) (h:OwnB w0 A l w) (hl:l.length≤800000000):
 Calls Tryz.prog 166 #[A,.agg #[.int .i64 1,.bool false,.int .i64 n,.string t,.string x,.slice p q.length cap]] w (zc6 w0 l (.mk 1 false n t x q)):=by
 obtain ⟨i0,hi,hz0,hz1,hz2⟩:=info_parts zf0
 obtain ⟨W0,hW0⟩:∃ W0,W0=w.alloc (.cells #[.int .i64 1,.bool false,.int .i64 n,.string t,.string x,.slice p q.length cap] 48):=⟨_,rfl⟩
 have S:Six W0 w.heap.size 1 false n t x p q.length cap:=by rw [hW0];exact zaj _ rfl
 have hne:=h.ne
 have O:OwnB w0 A l W0:=by rw [hW0];exact h.alloc _
 have hown:=O.own
 have f0:=S.c0
 have HS:Hid (W0.heap.size=w.heap.size+1):=Lib.hid (by rw [hW0];simp)
 have hlo:w0.heap.size≤w.heap.size:=h.lo
 have H0:=Lib.hid hW0
 have HF:=Lib.hid hf
 clear hW0 h hf
 have hT:∀ W,Calls Tryz.prog 207 #[.bool false] W fun e w'=>e=.returned (.int .i64 0)∧W=w':=fun W=>by
  have:=zqz false W
  simpa using this
 go_enter Tryz.func166,Tryz.ntmps166
 go_wp2_with (at_builtin;rw [← H0.out];refine wpList_append_own _ rfl _ _ 101 rfl w0.heap.size 5 i0 (.int .u8 0) 1 1 Tryz.underlying101 hi hz0 hz1 hz2 rfl (by decide) _ _ _ rfl (hown.alloc _) ⟨w.heap.size+1,0,none⟩ 1 1 [.int .u8 (1)] rfl rfl ?_ ?_ ?_ ?_ ?_ ?_)
 all_goals (try (first | rfl |(unfold maxLen;omega) | omega |(simp [HS.out];omega) |(intro u hu;simp at hu;subst hu;rfl) |(rw [← HS.out];exact cell_one_new _ _ _) |(simp;done)))
 intro v1 w1 hown1 hgrow _
 have O1:=(O.alloc _).say (l':=l++[zb7 1 0]) hown1 hgrow (by simp) (by rw [zba,zcp _ (zbw _)];rfl)
 have S1:=(S.alloc (.cells #[.int .u8 (1)] 5)).grown hgrow hne
 clear hgrow hown1 hown O S f0 H0
 go_wp2_with (first
  |((with_reducible refine zac (.tmp 3) w.heap.size S1 ?_ ?_ ?_ ?_);rfl;rfl;rfl)
  |(go_at_call 156;(with_reducible refine (zau 1 _ _ _ _ _ 165 rfl _).mono ?_);rintro e w2 ⟨rfl,hb2⟩;have O2:=O1.after hb2.is;have S2:=S1.below hb2.is;have f0:=S2.c0;have f1:=S2.c1;have f2:=S2.c2;have f3:=S2.c3;have f4:=S2.c4;have f5:=S2.c5;clear hb2 O1 S1)
  |(simp only [zgh,Result.andThen_ok])
  |(go_at_call 207;(with_reducible refine (hT _).mono ?_);rintro e w3 ⟨rfl,rfl⟩;have O3:=O2;have hown3:=O3.own;have hlo3:=O3.lo)
  |(at_builtin;refine wpList_append_own _ rfl _ _ 101 rfl w0.heap.size 5 i0 (.int .u8 0) 1 1 Tryz.underlying101 hi hz0 hz1 hz2 rfl (by decide) _ _ _ rfl (hown3.alloc _) ⟨w2.heap.size,0,none⟩ 1 1 [_] rfl rfl (cell_one_new _ (.int .u8 0) _) ?_ ?_ ?_ ?_ ?_))
 all_goals (try (first | rfl |(simp only [List.length_append,List.length_cons,List.length_nil];unfold maxLen;omega) |(simp;omega) |(intro u hu;simp at hu;subst hu;rfl)))
 intro v3 w3 hown4 hgrow4 _
 have HO:=Lib.hid ((O3.alloc _).say (l':=l++[zb7 1 0]++[0]) hown4 hgrow4 (by simp) (by rw [zba (a:=l++[zb7 1 0])];rfl))
 clear hown4 hgrow4 hown3 O3 O2 S2
 go_wp2_with fail
 go_ret
 exact ⟨_,rfl,by unfold encP;simpa using HO.out⟩
theorem encLit (w0 w:World) (A:Value) (l:List UInt8) (b:Bool) (n:Int) (t x:ByteArray) (p:Option Addr) (q:List Val) (cap:Nat) (hf:Fine n t x q.length) (h:OwnB w0 A l w) (hl:l.length≤800000000):
 Calls Tryz.prog 166 #[A,.agg #[.int .i64 10,.bool b,.int .i64 n,.string t,.string x,.slice p q.length cap]] w (zc6 w0 l (.mk 10 b n t x q)):=by
 obtain ⟨i0,hi,hz0,hz1,hz2⟩:=info_parts zf0
 obtain ⟨W0,hW0⟩:∃ W0,W0=w.alloc (.cells #[.int .i64 10,.bool b,.int .i64 n,.string t,.string x,.slice p q.length cap] 48):=⟨_,rfl⟩
 have S:Six W0 w.heap.size 10 b n t x p q.length cap:=by rw [hW0];exact zaj _ rfl
 have hne:=h.ne
 have O:OwnB w0 A l W0:=by rw [hW0];exact h.alloc _
 have hown:=O.own
 have f0:=S.c0
 have HS:Hid (W0.heap.size=w.heap.size+1):=Lib.hid (by rw [hW0];simp)
 have hlo:w0.heap.size≤w.heap.size:=h.lo
 have H0:=Lib.hid hW0
 have HF:=Lib.hid hf
 clear hW0 h hf
 go_enter Tryz.func166,Tryz.ntmps166
 go_wp2_with (at_builtin;rw [← H0.out];refine wpList_append_own _ rfl _ _ 101 rfl w0.heap.size 5 i0 (.int .u8 0) 1 1 Tryz.underlying101 hi hz0 hz1 hz2 rfl (by decide) _ _ _ rfl (hown.alloc _) ⟨w.heap.size+1,0,none⟩ 1 1 [.int .u8 (10)] rfl rfl ?_ ?_ ?_ ?_ ?_ ?_)
 all_goals (try (first | rfl |(unfold maxLen;omega) | omega |(simp [HS.out];omega) |(intro u hu;simp at hu;subst hu;rfl) |(rw [← HS.out];exact cell_one_new _ _ _) |(simp;done)))
 intro v1 w1 hown1 hgrow _
 have O1:=(O.alloc _).say (l':=l++[zb7 10 0]) hown1 hgrow (by simp) (by rw [zba,zcp _ (zbw _)];rfl)
 have S1:=(S.alloc (.cells #[.int .u8 (10)] 5)).grown hgrow hne
 clear hgrow hown1 hown O S f0 H0
 go_upto_region 10 with (first
  |((with_reducible refine zac (.tmp 3) w.heap.size S1 ?_ ?_ ?_ ?_);rfl;rfl;rfl)
  |(go_at_call 156;(with_reducible refine (zau 10 _ _ _ _ _ 173 rfl _).mono ?_);rintro e w2 ⟨rfl,hb2⟩;have O2:=O1.after hb2.is;have S2:=S1.below hb2.is;have f0:=S2.c0;have f1:=S2.c1;have f2:=S2.c2;have f3:=S2.c3;have f4:=S2.c4;have f5:=S2.c5;clear hb2 O1 S1)
  |(simp only [ze4,ze5,ze6,ze7,ze8,zho,zhp,zhq,zhr,Result.andThen_ok]))
 have HO2:=Lib.hid O2
 have Z2:=S2.lt
 clear f0 f1 f2 f3 f4 f5
 refine wp_region_held_drew (S:=fun W=>Six W w.heap.size 10 b n t x p q.length cap) (by kernel_rfl) S2 (fun hHeld=>?_)
 have O3:OwnB w0 v1 (l++[zb7 10 0]) w2.drew:=HO2.out.drew
 clear HO2 O2 S2
 refine tg (i:=0) v1 rfl hHeld ?_
 refine tg (i:=1) ((.pointer (some ⟨w.heap.size,3,none⟩))) rfl hHeld ?_
 refine tg (i:=4) ((.pointer (some ⟨w.heap.size,4,none⟩))) rfl hHeld ?_
 refine tk (i:=2) (v:=(.string t)) rfl (Or.inl ⟨by rfl,fun W h=>by have c0:=h.c3;go_simp⟩) hHeld ?_
 refine tk (i:=5) (v:=(.string x)) rfl (Or.inl ⟨by rfl,fun W h=>by have c0:=h.c4;go_simp⟩) hHeld ?_
 refine tr 3 rfl (fun K hK=>?_)
 rw [if_pos (by rfl)]
 go_simp
 refine (zdh w0 _ _ _ t HF.out.ht O3 (by simp only [List.length_append,List.length_cons,List.length_nil];omega)).mono ?_
 rintro e w3 ⟨v3,rfl,O4,hx3⟩
 have hb3:=hHeld.bx hx3
 refine hK.out _ _ hb3 (fun hHeld2=>?_)
 clear hK K hHeld
 try simp only [putS]
 refine tr 6 rfl (fun K hK=>?_)
 rw [if_pos (by rfl)]
 go_simp
 refine (zdh w0 _ _ _ x HF.out.hx O4 (by have:=HF.out.ht;simp only [List.length_append,List.length_cons,List.length_nil,zfs];omega)).mono ?_
 rintro e w4 ⟨v4,rfl,O5,hx4⟩
 have hb4:=hb3.bx hx4
 refine hK.out _ _ hb4 (fun hHeld3=>?_)
 clear hK K hHeld2
 try simp only [putS]
 refine tg (i:=7) v4 rfl hHeld3 ?_
 refine wpAnyH_done (by kernel_rfl) ?_ _
 have HO:=Lib.hid O5
 clear O5 O4 O3
 go_wp2_with fail
 go_ret
 exact ⟨_,rfl,by unfold encP;simpa using HO.out⟩
def zyl (v:Val):Prop:=∀ (w0 w:World) (A:Value) (l:List UInt8) (k:Int) (b:Bool) (n:Int) (t x:ByteArray) (q:List Val) (p:Option Addr) (cap:Nat),v=.mk k b n t x q→Fine n t x q.length→Held w0 (.slice p q.length cap) q→OwnB w0 A l w→l.length+13*wOne v≤800000000→
 Calls Tryz.prog 166 #[A,.agg #[.int .i64 k,.bool b,.int .i64 n,.string t,.string x,.slice p q.length cap]] w (zc6 w0 l v)
theorem encList (w0 w:World) (A:Value) (l:List UInt8) (b:Bool) (n:Int) (t x:ByteArray) (g off:Nat) (q:List Val) (cap:Nat) (hf:Fine n t x q.length) (h:OwnB w0 A l w) (hl:l.length≤800000000) (hh:zbp w0 g off q) (hw:l.length+13*wAll q≤799999987) (each:∀ u∈q,zyl u):
 Calls Tryz.prog 166 #[A,.agg #[.int .i64 5,.bool b,.int .i64 n,.string t,.string x,.slice (some ⟨g,off,none⟩) q.length cap]] w (zc6 w0 l (.mk 5 b n t x q)):=by
 obtain ⟨i0,hi,hz0,hz1,hz2⟩:=info_parts zf0
 obtain ⟨W0,hW0⟩:∃ W0,W0=w.alloc (.cells #[.int .i64 5,.bool b,.int .i64 n,.string t,.string x,.slice (some ⟨g,off,none⟩) q.length cap] 48):=⟨_,rfl⟩
 have S:Six W0 w.heap.size 5 b n t x (some ⟨g,off,none⟩) q.length cap:=by rw [hW0];exact zaj _ rfl
 have hne:=h.ne
 have O:OwnB w0 A l W0:=by rw [hW0];exact h.alloc _
 have hown:=O.own
 have f0:=S.c0
 have HS:Hid (W0.heap.size=w.heap.size+1):=Lib.hid (by rw [hW0];simp)
 have hlo:w0.heap.size≤w.heap.size:=h.lo
 have H0:=Lib.hid hW0
 have HF:=Lib.hid hf
 have HH:=Lib.hid hh
 have HWT:=Lib.hid hw
 have HE:=Lib.hid each
 clear hW0 h hf hh hw each
 have hI:∀ W A L,OwnB w0 A L W→L.length≤1000000000→Calls Tryz.prog 208 #[A,.int .u64 q.length,.int .i64 4] W fun e w'=>∃ A',e=.returned A'∧OwnB w0 A' (L++beB q.length 4) w'∧Bx W w':=fun W A L hO hL=>by
  have hb:(q.length:Int) < 18446744073709551616:=by have:=HF.out.hn;omega
  exact zd1 w0 W A L q.length 4 (by omega) (by omega) hb hO hL
 have hI:=Lib.hid hI
 have hn1:=HF.out.hn
 go_enter Tryz.func166,Tryz.ntmps166
 go_wp2_with (at_builtin;rw [← H0.out];refine wpList_append_own _ rfl _ _ 101 rfl w0.heap.size 5 i0 (.int .u8 0) 1 1 Tryz.underlying101 hi hz0 hz1 hz2 rfl (by decide) _ _ _ rfl (hown.alloc _) ⟨w.heap.size+1,0,none⟩ 1 1 [.int .u8 (5)] rfl rfl ?_ ?_ ?_ ?_ ?_ ?_)
 all_goals (try (first | rfl |(unfold maxLen;omega) | omega |(simp [HS.out];omega) |(intro u hu;simp at hu;subst hu;rfl) |(rw [← HS.out];exact cell_one_new _ _ _) |(simp;done)))
 intro v1 w1 hown1 hgrow _
 have O1:=(O.alloc _).say (l':=l++[zb7 5 0]) hown1 hgrow (by simp) (by rw [zba,zcp _ (zbw _)];rfl)
 have S1:=(S.alloc (.cells #[.int .u8 (5)] 5)).grown hgrow hne
 clear hgrow hown1 hown O S f0 H0
 go_wp2_with (first
  |((with_reducible refine zac (.tmp 3) w.heap.size S1 ?_ ?_ ?_ ?_);rfl;rfl;rfl)
  |(go_at_call 156;(with_reducible refine (zau 5 _ _ _ _ _ 174 rfl _).mono ?_);rintro e w2 ⟨rfl,hb2⟩;have O2:=O1.after hb2.is;have S2:=S1.below hb2.is;have f0:=S2.c0;have f1:=S2.c1;have f2:=S2.c2;have f3:=S2.c3;have f4:=S2.c4;have f5:=S2.c5;clear hb2 O1 S1)
  |(simp only [zfa,zfb,zfc,zfd,zfe,zht,zhu,zhv,zhw,zff,Result.andThen_ok])
  |(go_at_call 208;(with_reducible refine (hI.out _ _ _ O2 (by simp only [List.length_append,List.length_cons,List.length_nil];omega)).mono ?_);rintro e w3 ⟨v3,rfl,O3,hx3⟩;have S3:=S2.bx hx3;have f5:=S3.c5;clear f0 f1 f2 f3 f4 O2 S2))
 have HO:=Lib.hid O3
 clear O3 S3 f5 hI
 go_loopg [0,82] q.length (fun gg s0 s82 wr=>∃ j:Nat,j+gg=q.length∧s82=.int .i64 j∧OwnB w0 s0 (l++[zb7 5 0]++beB q.length 4++zao (q.take j)) wr)
 case atStart=>exact ⟨0,by omega,rfl,by simpa [zao] using HO.out⟩
 case round=>
  obtain ⟨j,hjg,rfl,OR⟩:=hrel
  by_cases hlt:(j:Int) < q.length
  ·have hj1:j < q.length:=by omega
   obtain ⟨k',b',m',t',x',q',p',cp',o⟩:=(zbp.at_ q off HH.out j hj1).opens
   have o1:=o.below OR.bel
   have c0:=o1.c0
   have c1:=o1.c1
   have c2:=o1.c2
   have c3:=o1.c3
   have c4:=o1.c4
   have c5:=o1.c5
   have S6:Six (wr.alloc (.cells #[.int .i64 k',.bool b',.int .i64 m',.string t',.string x',.slice p' q'.length cp'] 48)) wr.heap.size k' b' m' t' x' p' q'.length cp':=zaj _ rfl
   have hlen:(l++[zb7 5 0]++beB q.length 4++zao (q.take j)).length+13*wOne q[j]≤800000000:=by
    have h1:=znu q j hj1
    have h2:=zdg (q.take j)
    have h3:=HWT.out
    simp only [List.length_append,zbc,List.length_cons,List.length_nil]
    omega
   have hc:=HE.out q[j] (List.getElem_mem hj1) w0 _ u0 _ k' b' m' t' x' q' p' cp' o.e o.hf o.hl (OR.alloc (.cells #[.int .i64 k',.bool b',.int .i64 m',.string t',.string x',.slice p' q'.length cp'] 48)) hlen
   have he:zao (q.take (j+1))=zao (q.take j)++encP q[j]:=zi5 q j hj1
   have HEE:=Lib.hid he
   clear o o1 he hlen OR
   go_wp2_with (first
    |((with_reducible refine zax (.tmp 84) g (off+j*6) k' b' m' t' x' (.slice p' q'.length cp') c0 c1 c2 c3 c4 c5 ?_ ?_ ?_ ?_);rfl;rfl;rfl)
    |((with_reducible refine zac (.tmp 6) wr.heap.size S6 ?_ ?_ ?_ ?_);rfl;rfl;rfl)
    |(go_at_call 166;(with_reducible refine hc.mono ?_);rintro e w3 ⟨v3,rfl,O7⟩))
   have O8:=Lib.hid O7
   clear O7 S6 hc c0 c1 c2 c3 c4 c5
   go_roundg (gk - 1)
   case measure=>omega
   case rel=>exact ⟨j+1,by omega,by go_num,by rw [HEE.out,← List.append_assoc];exact O8.out⟩
  ·have e:q.take j=q:=by rw [List.take_of_length_le];omega
   rw [e] at OR
   have HO:=Lib.hid OR
   clear OR
   go_wp2_with fail
   go_ret
   exact ⟨_,rfl,by unfold encP;simpa using HO.out⟩
theorem zv0 (w0 w:World) (A:Value) (l:List UInt8) (b:Bool) (n:Int) (t x:ByteArray) (p:Option Addr) (cap:Nat) (hf:Fine n t x 0) (h:OwnB w0 A l w) (hl:l.length≤800000000):
 Calls Tryz.prog 166 #[A,.agg #[.int .i64 5,.bool b,.int .i64 n,.string t,.string x,.slice p 0 cap]] w (zc6 w0 l (.mk 5 b n t x [])):=by
 obtain ⟨i0,hi,hz0,hz1,hz2⟩:=info_parts zf0
 obtain ⟨W0,hW0⟩:∃ W0,W0=w.alloc (.cells #[.int .i64 5,.bool b,.int .i64 n,.string t,.string x,.slice p 0 cap] 48):=⟨_,rfl⟩
 have S:Six W0 w.heap.size 5 b n t x p 0 cap:=by rw [hW0];exact zaj _ rfl
 have hne:=h.ne
 have O:OwnB w0 A l W0:=by rw [hW0];exact h.alloc _
 have hown:=O.own
 have f0:=S.c0
 have HS:Hid (W0.heap.size=w.heap.size+1):=Lib.hid (by rw [hW0];simp)
 have hlo:w0.heap.size≤w.heap.size:=h.lo
 have H0:=Lib.hid hW0
 have HF:=Lib.hid hf
 clear hW0 h hf
 have hI:∀ W A L,OwnB w0 A L W→L.length≤1000000000→Calls Tryz.prog 208 #[A,.int .u64 0,.int .i64 4] W fun e w'=>∃ A',e=.returned A'∧OwnB w0 A' (L++beB 0 4) w'∧Bx W w':=fun W A L hO hL=>by
  have hb:(0:Int) < 18446744073709551616:=by decide
  exact zd1 w0 W A L 0 4 (by omega) (by omega) hb hO hL
 have hI:=Lib.hid hI
 go_enter Tryz.func166,Tryz.ntmps166
 go_wp2_with (at_builtin;rw [← H0.out];refine wpList_append_own _ rfl _ _ 101 rfl w0.heap.size 5 i0 (.int .u8 0) 1 1 Tryz.underlying101 hi hz0 hz1 hz2 rfl (by decide) _ _ _ rfl (hown.alloc _) ⟨w.heap.size+1,0,none⟩ 1 1 [.int .u8 (5)] rfl rfl ?_ ?_ ?_ ?_ ?_ ?_)
 all_goals (try (first | rfl |(unfold maxLen;omega) | omega |(simp [HS.out];omega) |(intro u hu;simp at hu;subst hu;rfl) |(rw [← HS.out];exact cell_one_new _ _ _) |(simp;done)))
 intro v1 w1 hown1 hgrow _
 have O1:=(O.alloc _).say (l':=l++[zb7 5 0]) hown1 hgrow (by simp) (by rw [zba,zcp _ (zbw _)];rfl)
 have S1:=(S.alloc (.cells #[.int .u8 (5)] 5)).grown hgrow hne
 clear hgrow hown1 hown O S f0 H0
 go_wp2_with (first
  |((with_reducible refine zac (.tmp 3) w.heap.size S1 ?_ ?_ ?_ ?_);rfl;rfl;rfl)
  |(go_at_call 156;(with_reducible refine (zau 5 _ _ _ _ _ 174 rfl _).mono ?_);rintro e w2 ⟨rfl,hb2⟩;have O2:=O1.after hb2.is;have S2:=S1.below hb2.is;have f0:=S2.c0;have f1:=S2.c1;have f2:=S2.c2;have f3:=S2.c3;have f4:=S2.c4;have f5:=S2.c5;clear hb2 O1 S1)
  |(simp only [zfa,zfb,zfc,zfd,zfe,zht,zhu,zhv,zhw,zff,Result.andThen_ok])
  |(go_at_call 208;(with_reducible refine (hI.out _ _ _ O2 (by simp only [List.length_append,List.length_cons,List.length_nil];omega)).mono ?_);rintro e w3 ⟨v3,rfl,O3,hx3⟩;have S3:=S2.bx hx3;have f5:=S3.c5;clear f0 f1 f2 f3 f4 O2 S2))
 have HO:=Lib.hid O3
 clear O3 S3 f5 hI
 go_loopg [0,82] 0 (fun gg s0 s82 wr=>gg=0∧s82=.int .i64 0∧OwnB w0 s0 (l++[zb7 5 0]++beB 0 4) wr)
 case atStart=>exact ⟨rfl,rfl,by simpa using HO.out⟩
 case round=>
  obtain ⟨_,rfl,OR⟩:=hrel
  have HO:=Lib.hid OR
  clear OR
  go_wp2_with fail
  go_ret
  exact ⟨_,rfl,by unfold encP;simpa [zao] using HO.out⟩
theorem encStep (v:Val) (k:Int) (b:Bool) (n:Int) (t x:ByteArray) (q:List Val) (ev:v=.mk k b n t x q) (each:∀ u∈q,zyl u):zyl v:=by
 subst ev
 intro w0 w A l k1 b1 n1 t1 x1 q1 p cap e hf hl hO hw
 cases e
 have hw':=hw
 unfold wOne at hw'
 have hl8:l.length≤800000000:=by omega
 by_cases h0:k=0
 ·subst h0;exact encNull w0 w A l b n t x p q cap hf hO hl8
 by_cases h1:k=1
 ·subst h1
  cases b with
  | true=>exact zs7 w0 w A l n t x p q cap hf hO hl8
  | false=>exact zrc w0 w A l n t x p q cap hf hO hl8
 by_cases h2:k=2
 ·subst h2;exact z1m w0 w A l b n t x p q cap hf hO hl8
 by_cases h3:k=3
 ·subst h3;exact z1n w0 w A l b n t x p q cap hf hO hl8
 by_cases h4:k=4
 ·subst h4;exact encText w0 w A l b n t x p q cap hf hO hl8
 by_cases h5:k=5
 ·subst h5
  cases q with
  | nil=>exact zv0 w0 w A l b n t x p cap hf hO hl8
  | cons v r=>
    obtain ⟨g,off,rfl,hh⟩:=hl.form
    exact encList w0 w A l b n t x g off (v::r) cap hf hO hl8 hh (by omega) each
 by_cases h6:k=6
 ·subst h6;exact encNode w0 w A l b n t x p q cap hf hO hl8
 by_cases h7:k=7
 ·subst h7;exact encEdge w0 w A l b n t x p q cap hf hO hl8
 by_cases h8:k=8
 ·subst h8;exact encIri w0 w A l b n t x p q cap hf hO hl8
 by_cases h9:k=9
 ·subst h9;exact z1o w0 w A l b n t x p q cap hf hO hl8
 by_cases h10:k=10
 ·subst h10;exact encLit w0 w A l b n t x p q cap hf hO hl8
 exact zs6 w0 w A l k b n t x p q cap hf hO hl8 (by simp [zlq,h0,h1,h2,h3,h4,h5,h6,h7,h8,h9,h10])
mutual
theorem z3t:(v:Val)→zyl v
 | .mk k b n t x q=>encStep _ k b n t x q rfl (zym q)
theorem zym:(q:List Val)→∀ u∈q,zyl u
 | [],_,h=>absurd h (by simp)
 | v::r,u,h=>by
   rcases List.mem_cons.1 h with h | h
   ·rw [h];exact z3t v
   ·exact zym r u h
end
theorem z3u (s:ByteArray) (w:World) (hs:s.size≤maxLen):
 Calls Tryz.prog 155 #[.string s] w fun e w'=>e=.returned (.bool (zcw s))∧w=w':=by
 unfold maxLen at hs
 by_cases h0:s.size=0
 ·have hv:zcw s=false:=by
   unfold zcw
   rw [decide_eq_false_iff_not]
   omega
  rw [hv]
  go_enter Tryz.func155,Tryz.ntmps155
  go_wp2_with fail
  go_ret
  exact ⟨rfl,rfl⟩
 ·by_cases hbig:(1048576:Int) < s.size
  ·have hv:zcw s=false:=by
    unfold zcw
    rw [decide_eq_false_iff_not]
    omega
   have h1:¬ (s.size:Int) < 1:=by omega
   rw [hv]
   go_enter Tryz.func155,Tryz.ntmps155
   go_wp2_with fail
   go_ret
   exact ⟨rfl,rfl⟩
  ·have h1:¬ (s.size:Int) < 1:=by omega
   go_enter Tryz.func155,Tryz.ntmps155
   go_wp2_with fail
   go_loop [3] (fun i=>∃ k:Nat,k≤s.size∧i=.int .i64 k∧∀ j (h:j < s.size),j < k→zjd s[j]=true) (fun i=>s.size - (intOf i).toNat)
   case atStart=>exact ⟨0,Nat.zero_le _,rfl,fun j _ h=>absurd h (by omega)⟩
   case round=>
    obtain ⟨k,hk,rfl,hall⟩:=hrel
    have HA:=Lib.hid hall
    clear hall
    by_cases hlt:k < s.size
    ·by_cases h1:(s[k].toNat:Int)≤32
     ·go_wp2_with fail
      go_ret
      exact ⟨by rw [zlr hlt (by simp [zjd];omega)];rfl,rfl⟩
     ·by_cases h2:(s[k].toNat:Int)=60
      ·go_wp2_with fail
       go_ret
       exact ⟨by rw [zlr hlt (by simp [zjd];omega)];rfl,rfl⟩
      ·by_cases h3:(s[k].toNat:Int)=62
       ·go_wp2_with fail
        go_ret
        exact ⟨by rw [zlr hlt (by simp [zjd];omega)];rfl,rfl⟩
       ·go_wp2_with fail
        go_round
        case rel=>exact ⟨k+1,by omega,by go_num,zga (p:=fun _=>zjd) hlt HA.out (by simp [zjd];omega)⟩
        case measure=>simp [intOf];omega
    ·go_wp2_with fail
     go_ret
     have hv:zcw s=true:=by
      unfold zcw
      rw [decide_eq_true_eq]
      exact ⟨by omega,by omega,fun j hj=>HA.out j hj (by omega)⟩
     exact ⟨by rw [hv];rfl,rfl⟩
theorem zyn (s:ByteArray) (w:World) (hs:s.size≤maxLen):
 Calls Tryz.prog 61 #[.string s] w fun e w'=>e=.returned (.bool (zcc s))∧w=w':=by
 unfold maxLen at hs
 by_cases h0:s.size=0
 ·have hv:zcc s=false:=by
   unfold zcc
   rw [decide_eq_false_iff_not]
   omega
  rw [hv]
  go_enter Tryz.func61,Tryz.ntmps61
  go_wp2_with fail
  go_ret
  exact ⟨rfl,rfl⟩
 have hpos:0 < s.size:=by omega
 have hlow:¬ (s.size:Int) < 1:=by omega
 by_cases hbig:(64:Int) < s.size
 ·have hv:zcc s=false:=by
   unfold zcc
   rw [decide_eq_false_iff_not]
   omega
  rw [hv]
  go_enter Tryz.func61,Tryz.ntmps61
  go_wp2_with fail
  go_ret
  exact ⟨rfl,rfl⟩
 by_cases hd:(48:Int)≤s[0].toNat∧(s[0].toNat:Int)≤57
 ·have hv:zcc s=false:=zi1 hpos (by simp [zek,zdn];omega)
  rw [hv]
  obtain ⟨d1,d2⟩:=hd
  go_enter Tryz.func61,Tryz.ntmps61
  go_wp2_with fail
  go_ret
  exact ⟨rfl,rfl⟩
 have HD:=Lib.hid hd
 have hdd:¬ (48:Int)≤s[0].toNat∨¬ (s[0].toNat:Int)≤57:=by omega
 clear hd
 rcases hdd with hdd | hdd
 all_goals
  go_enter Tryz.func61,Tryz.ntmps61
  go_wp2_with fail
  all_goals
   go_loop [3] (fun i=>∃ k:Nat,k≤s.size∧i=.int .i64 k∧∀ j (h:j < s.size),j < k→zek j s[j]=true) (fun i=>s.size - (intOf i).toNat)
   case atStart=>exact ⟨0,Nat.zero_le _,rfl,fun j _ h=>absurd h (by omega)⟩
   case round=>
    clear hdd
    obtain ⟨k,hk,rfl,hall⟩:=hrel
    have HA:=Lib.hid hall
    clear hall
    by_cases hlt:k < s.size
    ·by_cases a1:(97:Int)≤s[k].toNat
     ·by_cases a2:(s[k].toNat:Int)≤122
      ·go_wp2_with fail
       go_round
       case rel=>exact ⟨k+1,by omega,by go_num,zga (p:=zek) hlt HA.out (by simp [zek,zdn];omega)⟩
       case measure=>simp [intOf];omega
      ·have a3:(65:Int)≤s[k].toNat:=by omega
       have a4:¬ (s[k].toNat:Int)≤90:=by omega
       have a5:(48:Int)≤s[k].toNat:=by omega
       have a6:¬ (s[k].toNat:Int)≤57:=by omega
       have a7:¬ (s[k].toNat:Int)=95:=by omega
       have e7:((s[k].toNat:Int) == 95)=false:=by simpa using a7
       go_wp2_with fail
       go_ret
       exact ⟨by rw [zi1 hlt (by simp [zek,zdn,zf9];omega)];rfl,rfl⟩
     ·by_cases a3:(65:Int)≤s[k].toNat
      ·by_cases a4:(s[k].toNat:Int)≤90
       ·go_wp2_with fail
        go_round
        case rel=>exact ⟨k+1,by omega,by go_num,zga (p:=zek) hlt HA.out (by simp [zek,zdn];omega)⟩
        case measure=>simp [intOf];omega
       ·have a5:(48:Int)≤s[k].toNat:=by omega
        have a6:¬ (s[k].toNat:Int)≤57:=by omega
        by_cases a7:(s[k].toNat:Int)=95
        ·have e7:((s[k].toNat:Int) == 95)=true:=by simpa using a7
         go_wp2_with fail
         go_round
         case rel=>exact ⟨k+1,by omega,by go_num,zga (p:=zek) hlt HA.out (by simp [zek,zdn];omega)⟩
         case measure=>simp [intOf];omega
        ·have e7:((s[k].toNat:Int) == 95)=false:=by simpa using a7
         go_wp2_with fail
         go_ret
         exact ⟨by rw [zi1 hlt (by simp [zek,zdn,zf9];omega)];rfl,rfl⟩
      ·by_cases a5:(48:Int)≤s[k].toNat
       ·by_cases a6:(s[k].toNat:Int)≤57
        ·have hk0:k≠0:=by
          rintro rfl
          exact HD.out ⟨a5,a6⟩
         go_wp2_with fail
         go_round
         case rel=>exact ⟨k+1,by omega,by go_num,zga (p:=zek) hlt HA.out (by simp [zek,zf9,hk0];omega)⟩
         case measure=>simp [intOf];omega
        ·have a7:¬ (s[k].toNat:Int)=95:=by omega
         have e7:((s[k].toNat:Int) == 95)=false:=by simpa using a7
         go_wp2_with fail
         go_ret
         exact ⟨by rw [zi1 hlt (by simp [zek,zdn,zf9];omega)];rfl,rfl⟩
       ·have a7:¬ (s[k].toNat:Int)=95:=by omega
        have e7:((s[k].toNat:Int) == 95)=false:=by simpa using a7
        go_wp2_with fail
        go_ret
        exact ⟨by rw [zi1 hlt (by simp [zek,zdn,zf9];omega)];rfl,rfl⟩
    ·go_wp2_with fail
     go_ret
     have hv:zcc s=true:=by
      unfold zcc
      rw [decide_eq_true_eq]
      exact ⟨hpos,by omega,fun j hj=>HA.out j hj (by omega)⟩
     exact ⟨by rw [hv];rfl,rfl⟩
def Strs (w:World) (b off n:Nat) (S:Nat→ByteArray):Prop:=∀ i,i < n→w.cell? ⟨b,off+i,none⟩=some (.string (S i))
theorem Strs.below {w w':World} {b off n:Nat} {S:Nat→ByteArray} (h:Strs w b off n S) (k:Below w.heap.size w w'):Strs w' b off n S:=fun i hi=>
 (k.cell (p:=⟨b,off+i,none⟩) (World.block_lt_of_cell? w _ (h i hi))).trans (h i hi)
theorem chk_len {l:List UInt8} (h:chk l=true):l.length≤62:=by
 obtain ⟨n,a,b,hsp,ha,hb,la,lb,hw,_⟩:=zm8 l h
 unfold wr at hw
 simp only at hw
 split at hw
 ·cases hw
 ·rename_i hl
  have h1:(orN (Lib.trimLeftB a 48)).length≤40:=zp1 (by omega) (by omega)
  have h2:(orN (Lib.trimRightB b 48)).length≤20:=zp1 (by omega) (by omega)
  rw [← Option.some.inj hw]
  simp only [List.length_append,List.length_cons]
  split <;> simp <;> omega
structure Inv (w:World) (b off n cap:Nat) (S:Nat→ByteArray) (wr:World):Prop where
 cell:wr.cell? ⟨w.heap.size,0,none⟩=some (.slice (some ⟨b,off,none⟩) n cap)
 lt:w.heap.size < wr.heap.size
 bel:Low w.heap.size w wr
 g:Gd wr
 t:Tab wr
 s:Strs wr b off n S
def vT:Nat→(Nat→Nat)→Nat
 | 0,_=>0
 | n+1,f=>vT n f+f n*10 ^ n
theorem vT_lt (f:Nat→Nat) (h:∀ j,f j≤9):∀ n,vT n f < 10 ^ n
 | 0=>by simp [vT]
 | n+1=>by
   have:=vT_lt f h n
   have h2:f n*10 ^ n≤9*10 ^ n:=Nat.mul_le_mul_right _ (h n)
   show vT n f+f n*10 ^ n < 10 ^ (n+1)
   rw [Nat.pow_succ];omega
theorem vT_eq (f g:Nat→Nat):∀ n,(∀ j,j < n→f j=g j)→vT n f=vT n g
 | 0,_=>rfl
 | n+1,h=>by
   show vT n f+f n*10 ^ n=vT n g+g n*10 ^ n
   rw [vT_eq f g n (fun j hj=>h j (by omega)),h n (by omega)]
theorem z3v (f:Nat→Nat) (n:Nat) (h:∀ j,n≤j→f j=0):∀ m,n≤m→vT m f=vT n f
 | 0,hm=>by rw [Nat.le_zero.1 hm]
 | m+1,hm=>by
   by_cases e:n=m+1
   ·rw [e]
   ·show vT m f+f m*10 ^ m=_
    rw [z3v f n h m (by omega),h m (by omega)];simp
def dig (ds:List Nat) (j:Nat):Nat:=ds.getD j 0
theorem zlv {ds:List Nat} {j:Nat} (h:ds.length≤j):dig ds j=0:=by simp [dig,List.getD,h]
def zcy (ds:List Nat):Nat:=vT ds.length (dig ds)
def zec (ds:List Nat):Prop:=∀ j,dig ds j≤9
theorem zh5 (ds:List Nat) {m:Nat} (h:ds.length≤m):vT m (dig ds)=zcy ds:=z3v _ _ (fun _ hj=>zlv hj) m h
def Ints (w:World) (v:Value) (ds:List Nat):Prop:=
 (v=.slice none 0 0∧ds=[])∨∃ b off cap,v=.slice (some ⟨b,off,none⟩) ds.length cap∧(∀ i,i < ds.length→w.cell? ⟨b,off+i,none⟩=some (.int .i64 (dig ds i)))∧∃ cs,w.heap[b]?=some (.cells cs 3 (0,0))
theorem Ints.below {w w':World} {v:Value} {ds:List Nat} (h:Ints w v ds) (k:Below w.heap.size w w'):Ints w' v ds:=by
 rcases h with h | ⟨b,off,cap,e,hc,cs,hk⟩
 ·exact .inl h
 ·exact .inr ⟨b,off,cap,e,fun i hi=>(k.cell (p:=⟨b,off+i,none⟩) (World.block_lt_of_cell? w _ (hc i hi))).trans (hc i hi),cs,(k.block b (zaa hk)).trans hk⟩
theorem Ints.only {w w':World} {v:Value} {ds:List Nat} {g:Nat} {cs:Array Value} {t:TypeId} (h:Ints w v ds) (k:Only g w w') (hg:w.heap[g]?=some (.cells cs t (0,0))) (ht:t≠3):Ints w' v ds:=by
 rcases h with h | ⟨b,off,cap,e,hc,cs2,hk⟩
 ·exact .inl h
 ·have hne:b≠g:=fun x=>by
   rw [x,hg] at hk
   injection hk with hk
   injection hk with _ h2 _
   exact ht h2
  have hb:=(k.block b (zaa hk) hne)
  exact .inr ⟨b,off,cap,e,fun i hi=>(World.cell?_of_block (w:=w) (a:=⟨b,off+i,none⟩) hb).trans (hc i hi),cs2,hb.trans hk⟩
theorem zo5 (c:Nat) (w:World) (hc:c < 256):Calls Tryz.prog 247 #[.int .u8 c] w fun e w'=>e=.returned (.bool (decide (48≤c∧c≤57)))∧w=w':=by
 by_cases h1:(48:Int)≤c
 ·by_cases h2:(c:Int)≤57
  ·have:decide (48≤c∧c≤57)=true:=by simp;omega
   rw [this]
   go_enter Tryz.func247,Tryz.ntmps247
   go_wp2
   go_ret
   exact ⟨rfl,rfl⟩
  ·have:decide (48≤c∧c≤57)=false:=by simp;omega
   rw [this]
   go_enter Tryz.func247,Tryz.ntmps247
   go_wp2
   go_ret
   exact ⟨by simp,rfl⟩
 ·have:decide (48≤c∧c≤57)=false:=by simp;omega
  rw [this]
  go_enter Tryz.func247,Tryz.ntmps247
  go_wp2
  go_ret
  exact ⟨by simp,rfl⟩
def dgI (ds:List Nat) (i:Int):Nat:=if i < 0 then 0 else dig ds i.toNat
theorem refAt (v:Value) (ds:List Nat) (i:Int) (w:World) (h:Ints w v ds):Calls Tryz.prog 248 #[v,.int .i64 i] w fun e w'=>e=.returned (.int .i64 (dgI ds i))∧w=w':=by
 unfold dgI
 by_cases h0:i < 0
 ·rw [if_pos h0]
  rcases h with ⟨rfl,rfl⟩ | ⟨b,off,cap,rfl,hc,hty⟩
  ·go_enter Tryz.func248,Tryz.ntmps248
   go_wp2
   go_ret
   exact ⟨rfl,rfl⟩
  ·clear hc
   go_enter Tryz.func248,Tryz.ntmps248
   go_wp2
   go_ret
   exact ⟨rfl,rfl⟩
 ·rw [if_neg h0]
  obtain ⟨k,rfl⟩:=Int.eq_ofNat_of_zero_le (Int.not_lt.1 h0)
  rw [show ((k:Int)).toNat=k by omega]
  rcases h with ⟨rfl,rfl⟩ | ⟨b,off,cap,rfl,hc,hty⟩
  ·rw [zlv (by simp)]
   have hk:(k:Int) ≥ 0:=by omega
   go_enter Tryz.func248,Tryz.ntmps248
   go_wp2
   go_ret
   exact ⟨rfl,rfl⟩
  ·by_cases hl:(ds.length:Int)≤k
   ·rw [zlv (by omega)]
    clear hc
    generalize ds.length=n at*
    go_enter Tryz.func248,Tryz.ntmps248
    go_wp2
    go_ret
    exact ⟨rfl,rfl⟩
   ·have c1:=hc k (by omega)
    clear hc
    generalize dig ds k=x at*
    generalize ds.length=n at*
    go_enter Tryz.func248,Tryz.ntmps248
    go_wp2
    go_ret
    exact ⟨rfl,rfl⟩
theorem zv1 (ds:List Nat):zcy ds=0↔∀ j,j < ds.length→dig ds j=0:=by
 unfold zcy
 generalize dig ds=f
 generalize ds.length=n
 induction n with
 | zero=>simp [vT]
 | succ n ih=>
   show vT n f+f n*10 ^ n=0↔_
   have hp:0 < 10 ^ n:=Nat.pow_pos (show 0 < 10 by decide)
   constructor
   ·intro h j hj
    have h1:vT n f=0:=by omega
    have h2:f n*10 ^ n=0:=by omega
    rcases Nat.lt_or_ge j n with h3 | h3
    ·exact ih.1 h1 j h3
    ·obtain rfl:j=n:=by omega
     rcases Nat.mul_eq_zero.1 h2 with h4 | h4
     ·exact h4
     ·omega
   ·intro h
    rw [ih.2 (fun j hj=>h j (by omega)),h n (by omega)];simp
theorem zyo (v:Value) (ds:List Nat) (w:World) (h:Ints w v ds) (hn:ds.length≤9223372036854775807) (d:Bool) (hd:d=decide (zcy ds=0)):Calls Tryz.prog 215 #[v] w fun e w'=>e=.returned (.bool d)∧w=w':=by
 rcases h with ⟨rfl,rfl⟩ | ⟨b,off,cap,rfl,hc,hty⟩
 ·obtain rfl:d=true:=by rw [hd];rfl
  clear hd
  go_enter Tryz.func215,Tryz.ntmps215
  go_wp2_with fail
  go_loopg [3] 0 (fun gg s3 wr=>gg=0∧s3=.int .i64 0∧wr=w)
  case atStart=>exact ⟨rfl,rfl,rfl⟩
  case round=>
   obtain ⟨_,rfl,rfl⟩:=hrel
   go_wp2
   go_ret
   exact ⟨rfl,rfl⟩
 ·have hz:=zv1 ds
  have HZ:=Lib.hid hz
  have HD:=Lib.hid hd
  clear hz hd
  go_enter Tryz.func215,Tryz.ntmps215
  go_wp2_with fail
  go_loopg [3] ds.length (fun gg s3 wr=>∃ i:Nat,i+gg=ds.length∧s3=.int .i64 i∧wr=w∧Aside (∀ j,j < i→dig ds j=0))
  case atStart=>exact ⟨0,by omega,rfl,rfl,fun j hj=>absurd hj (Nat.not_lt_zero j)⟩
  case round=>
   obtain ⟨i,hi,rfl,rfl,hall⟩:=hrel
   have HA:=Lib.hid hall.out
   clear hall
   by_cases hlt:(i:Int) < ds.length
   ·have c1:=hc i (by omega)
    by_cases hx:dig ds i=0
    ·rw [hx] at c1
     have hall2:∀ j,j < i+1→dig ds j=0:=fun j hj=>by
      rcases Nat.lt_or_ge j i with h3 | h3
      ·exact HA.out j h3
      ·rw [show j=i by omega];exact hx
     have HA2:=Lib.hid hall2
     clear hall2 HA hc hx
     generalize ds.length=n at*
     go_wp2_with fail
     go_roundg (gk - 1)
     case measure=>omega
     case rel=>exact ⟨i+1,by omega,by go_num,rfl,HA2.out⟩
    ·obtain rfl:d=false:=by
      rw [HD.out]
      have:=mt HZ.out.1 (fun h=>hx (h i (by omega)))
      simp [this]
     have hx1:¬ (dig ds i:Int)=0:=by omega
     clear hc HA hx HD HZ
     generalize dig ds i=x at*
     generalize ds.length=n at*
     go_wp2_with fail
     go_ret
     exact ⟨rfl,rfl⟩
   ·obtain rfl:d=true:=by
     rw [HD.out]
     have:=HZ.out.2 (fun j hj=>HA.out j (by omega))
     simp [this]
    clear hc HA HD HZ
    generalize ds.length=n at*
    go_wp2_with fail
    go_ret
    exact ⟨rfl,rfl⟩
theorem dgI_nat (ds:List Nat) (k:Nat):dgI ds k=dig ds k:=by unfold dgI;rw [if_neg (by omega)];congr 1
theorem zun (v:Value) (ds:List Nat) (k:Nat) (x:Nat) (w:World) (h:Ints w v ds) (hx:Hid (x=dig ds k)):Calls Tryz.prog 248 #[v,.int .i64 k] w fun e w'=>e=.returned (.int .i64 x)∧w=w':=
 (refAt v ds k w h).mono fun _ _ ⟨h1,h2⟩=>⟨by rw [h1,dgI_nat,hx.out],h2⟩
theorem Ints.form {w:World} {v:Value} {ds:List Nat} (h:Ints w v ds):∃ p cap,v=.slice p ds.length cap:=by
 rcases h with ⟨rfl,rfl⟩ | ⟨b,off,cap,rfl,_,_⟩
 ·exact ⟨_,_,rfl⟩
 ·exact ⟨_,_,rfl⟩
theorem info3:(Tryz.prog.info? 3).map (fun i=>(i.zero,i.size,i.bytes))=some (some (.int .i64 0),1,8):=by kernel_rfl
def zcq (ds:List Nat):List Value:=ds.map fun (d:Nat)=>Value.int .i64 (d:Int)
theorem zo6 {ds:List Nat} {d j:Nat} (h:j < ds.length):dig (ds++[d]) j=dig ds j:=by
 simp [dig,List.getD,List.getElem?_append_left h]
theorem zo7 (ds:List Nat) (d:Nat):dig (ds++[d]) ds.length=d:=by
 simp [dig,List.getD]
theorem zyp {ds:List Nat} {d:Nat} (h:zec ds) (hd:d≤9):zec (ds++[d]):=by
 intro j
 rcases Nat.lt_trichotomy j ds.length with k | k | k
 ·rw [zo6 k];exact h j
 ·rw [k,zo7];exact hd
 ·rw [zlv (by simp;omega)];omega
theorem vT_app (ds:List Nat) (d:Nat):vT (ds.length+1) (dig (ds++[d]))=vT ds.length (dig ds)+d*10 ^ ds.length:=by
 show vT ds.length (dig (ds++[d]))+dig (ds++[d]) ds.length*10 ^ ds.length=_
 rw [vT_eq (dig (ds++[d])) (dig ds) ds.length (fun j hj=>zo6 hj),zo7]
theorem zmg {w:World} {base n:Nat} {v:Value} {ds:List Nat} (h:w.ownsRow base 3 1 v n (zcq ds)) (hn:n=ds.length):Ints w v ds:=by
 subst hn
 rcases h.2 with ⟨e,h0⟩ | ⟨g,cap,cur,e,_,hk,_⟩
 ·exact .inl ⟨e,List.length_eq_zero_iff.1 h0⟩
 ·refine .inr ⟨g,0,cap,e,fun i hi=>?_,cur,hk⟩
  subst e
  have:=h.cellAt i (by omega)
  rw [Nat.zero_add,this]
  unfold zcq dig
  rw [List.getElem?_map,List.getElem?_eq_getElem hi]
  simp [List.getD,hi]
structure Added (xs ys:List Nat) (i c:Nat) (zs:List Nat):Prop where
 len:zs.length=i
 small:zec zs
 car:c≤1
 val:vT i (dig zs)+c*10 ^ i=vT i (dig xs)+vT i (dig ys)
 done:xs.length < i→ys.length < i→c=0
theorem Added.all {xs ys zs:List Nat} {i:Nat} (h:Added xs ys i 0 zs) (hx:xs.length≤i) (hy:ys.length≤i):zcy zs=zcy xs+zcy ys:=by
 have v:=h.val
 rw [zh5 xs hx,zh5 ys hy] at v
 unfold zcy
 rw [h.len]
 unfold zcy at v
 omega
theorem z3w (f:Nat→Nat) (n:Nat):∀ m,n≤m→vT m f < 10 ^ n→vT m f=vT n f
 | 0,h,_=>by rw [Nat.le_zero.1 h]
 | m+1,h,k=>by
   by_cases e:n=m+1
   ·rw [e]
   ·have h1:10 ^ n≤10 ^ m:=Nat.pow_le_pow_right (by omega) (by omega)
    have k':vT m f+f m*10 ^ m < 10 ^ n:=k
    have h2:f m=0:=by
     rcases Nat.eq_zero_or_pos (f m) with z | z
     ·exact z
     ·have:1*10 ^ m≤f m*10 ^ m:=Nat.mul_le_mul_right _ z
      omega
    have e2:vT (m+1) f=vT m f:=by show vT m f+f m*10 ^ m=_;rw [h2];simp
    rw [e2]
    exact z3w f n m (by omega) (by rw [e2] at k;exact k)
structure Taken (xs ys:List Nat) (i c:Nat) (zs:List Nat):Prop where
 len:zs.length=i
 small:zec zs
 car:c≤1
 val:vT i (dig zs)+vT i (dig ys)=vT i (dig xs)+c*10 ^ i
theorem Taken.all {xs ys zs:List Nat} {c:Nat} (h:Taken xs ys xs.length c zs) (hx:zec xs) (_hy:zec ys) (hle:zcy ys≤zcy xs):zcy zs+zcy ys=zcy xs:=by
 have v:=h.val
 have lx:vT xs.length (dig xs) < 10 ^ xs.length:=vT_lt _ hx _
 have lz:vT xs.length (dig zs) < 10 ^ xs.length:=vT_lt _ h.small _
 have ez:zcy zs=vT xs.length (dig zs):=by unfold zcy;rw [h.len]
 have ex:zcy xs=vT xs.length (dig xs):=rfl
 have ey:zcy ys=vT xs.length (dig ys):=by
  have e:=zh5 ys (m:=xs.length+ys.length) (by omega)
  rw [← e]
  exact z3w _ _ _ (by omega) (by rw [e];omega)
 have hc:=h.car
 have h0:c=0:=by
  rcases Nat.eq_zero_or_pos c with z | z
  ·exact z
  ·obtain rfl:c=1:=by omega
   rw [Nat.one_mul] at v
   omega
 subst h0
 rw [ez,ex,ey]
 omega
def numR (neg:Bool) (v:Value) (sc:Nat):Value:=.agg #[.bool neg,v,.int .i64 sc]
theorem z1p (a b:List Nat):zcq (a++b)=zcq a++zcq b:=by simp [zcq]
theorem zs8 (x t:List UInt8) (h:x.all za8=true):Lib.cut (x++t) [46]=(x++(Lib.cut t [46]).1,(Lib.cut t [46]).2.1,(Lib.cut t [46]).2.2):=by
 induction x with
 | nil=>rfl
 | cons c r ih=>
   rw [List.all_cons,Bool.and_eq_true] at h
   have hc:c≠46:=fun e=>by rw [e] at h;exact absurd h.1 (by decide)
   rw [List.cons_append,zpy c _ hc,ih h.2]
   rfl
def okP (r:List UInt8):Bool:=digs (Lib.cut r [46]).1 && (!(Lib.cut r [46]).2.2 || digs (Lib.cut r [46]).2.1)
theorem zyq (l:List UInt8):zdf l=if okP (sgn l).2 then some ((sgn l).1,(Lib.cut (sgn l).2 [46]).1,(Lib.cut (sgn l).2 [46]).2.1) else none:=rfl
def Seen (t:List UInt8) (p:Int):Prop:=
 (p=-1∧t.all za8=true)∨∃ x y,t=x++46::y∧p=x.length∧x.all za8=true∧y.all za8=true
theorem Seen.start:Seen [] (-1):=.inl ⟨rfl,rfl⟩
theorem Seen.digit {t:List UInt8} {p:Int} {c:UInt8} (h:Seen t p) (hc:za8 c=true):Seen (t++[c]) p:=by
 rcases h with ⟨e,h⟩ | ⟨x,y,e,hp,hx,hy⟩
 ·exact .inl ⟨e,by rw [List.all_append,h];simp [hc]⟩
 ·exact .inr ⟨x,y++[c],by rw [e];simp,hp,hx,by rw [List.all_append,hy];simp [hc]⟩
theorem Seen.point {t:List UInt8} {p:Int} (h:Seen t p) (hp:p < 0):Seen (t++[46]) t.length:=by
 rcases h with ⟨_,h⟩ | ⟨x,y,_,e,_⟩
 ·exact .inr ⟨t,[],rfl,rfl,h,rfl⟩
 ·omega
theorem zyr {x:List UInt8} {c:UInt8} (hc:za8 c=false) (t:List UInt8):digs (x++c::t)=false:=by
 unfold digs
 rw [List.all_append,List.all_cons,hc]
 simp
theorem Seen.bad {t u:List UInt8} {p:Int} {c:UInt8} (h:Seen t p) (hc:za8 c=false) (hp:c≠46∨0≤p):okP (t++c::u)=false:=by
 unfold okP
 rcases h with ⟨e,h⟩ | ⟨x,y,e,hp',hx,hy⟩
 ·have hn:c≠46:=by rcases hp with k | k
                   ·exact k
                   ·omega
  rw [zs8 t _ h,zpy c u hn]
  simp only
  rw [zyr hc]
  rfl
 ·rw [e,show x++46::y++c::u=x++46::(y++c::u) by simp,zpz x _ hx]
  simp only
  rw [zyr hc]
  simp
theorem Seen.all {t:List UInt8} {p:Int} (h:Seen t p):okP t=decide (t.length≠0∧p≠0∧p≠(t.length:Int) - 1):=by
 unfold okP
 rcases h with ⟨e,h⟩ | ⟨x,y,e,hp',hx,hy⟩
 ·have:=zs8 t [] h
  rw [List.append_nil,zw6,List.append_nil] at this
  rw [this,e]
  unfold digs
  cases t with
  | nil=>rfl
  | cons c r=>simp [h]
 ·rw [e,zpz x y hx,hp']
  simp only
  unfold digs
  rw [hx,hy]
  cases x with
  | nil=>simp
  | cons c r=>
    cases y with
    | nil=>simp
    | cons d q=>simp;omega
theorem Seen.parts {t:List UInt8} {p:Int} (h:Seen t p):(t.filter (· != 46))=(Lib.cut t [46]).1++(Lib.cut t [46]).2.1∧((Lib.cut t [46]).2.1.length:Int)=if p < 0 then 0 else (t.length:Int) - 1 - p:=by
 have keep:∀ l:List UInt8,l.all za8=true→l.filter (· != 46)=l:=fun l hl=>by
  rw [List.filter_eq_self]
  intro c hc
  have:=List.all_eq_true.1 hl c hc
  simp only [bne_iff_ne,ne_eq]
  intro e;rw [e] at this;exact absurd this (by decide)
 rcases h with ⟨e,h⟩ | ⟨x,y,e,hp',hx,hy⟩
 ·have:=zs8 t [] h
  rw [List.append_nil,zw6,List.append_nil] at this
  rw [this,e]
  simp [keep t h]
 ·rw [e,zpz x y hx,hp']
  simp only [List.filter_append,keep x hx]
  rw [List.filter_cons_of_neg (by simp),keep y hy]
  refine ⟨rfl,?_⟩
  rw [if_neg (by omega)]
  simp;omega
def revD (l:List UInt8):List Nat:=(l.map fun c=>c.toNat - 48).reverse
theorem znv (c:UInt8) (l:List UInt8):revD (c::l)=revD l++[c.toNat - 48]:=by simp [revD]
theorem zkx (l:List UInt8):(revD l).length=l.length:=by simp [revD]
theorem zys (l:List UInt8):zcy (revD l)=valD l:=by
 induction l with
 | nil=>rfl
 | cons c r ih=>
   have e:=vT_app (revD r) (c.toNat - 48)
   rw [znv]
   unfold zcy
   rw [show (revD r++[c.toNat - 48]).length=(revD r).length+1 by simp,e]
   show zcy (revD r)+_=_
   rw [ih,zkx]
   show _=(c.toNat - 48)*10 ^ r.length+valD r
   omega
theorem znw (l:List UInt8) (h:l.all za8=true):zec (revD l):=by
 induction l with
 | nil=>intro j;simp [revD,dig]
 | cons c r ih=>
   rw [List.all_cons,Bool.and_eq_true] at h
   rw [znv]
   exact zyp (ih h.2) (by have:=(zc8 c).1 h.1;omega)
theorem zyt:(Tryz.prog.info? 224).map (·.size)=some 3:=by kernel_rfl
def Rec (w:World) (g:Nat) (n:Bool) (v:Value) (sc:Int):Prop:=w.heap[g]?=some (.cells #[.bool n,v,.int .i64 sc] 224)
theorem Rec.lt {w:World} {g:Nat} {n:Bool} {v:Value} {sc:Int} (h:Rec w g n v sc):g < w.heap.size:=zaa h
theorem Rec.below {w w':World} {g:Nat} {n:Bool} {v:Value} {sc:Int} (h:Rec w g n v sc) (k:Below w.heap.size w w'):Rec w' g n v sc:=(k.block g (zaa h)).trans h
theorem Rec.only {w w':World} {g b:Nat} {n:Bool} {v:Value} {sc:Int} (h:Rec w g n v sc) (k:Only b w w') (e:g≠b):Rec w' g n v sc:=(k.block g (zaa h) e).trans h
theorem Rec.alloc {w:World} {g:Nat} {n:Bool} {v:Value} {sc:Int} (h:Rec w g n v sc) (o:Obj):Rec (w.alloc o) g n v sc:=zaq _ h
theorem Rec.c1 {w:World} {g:Nat} {n:Bool} {v:Value} {sc:Int} (h:Rec w g n v sc):w.cell? ⟨g,1,none⟩=some v:=zad h _ rfl
theorem Rec.c2 {w:World} {g:Nat} {n:Bool} {v:Value} {sc:Int} (h:Rec w g n v sc):w.cell? ⟨g,2,none⟩=some (.int .i64 sc):=zad h _ rfl
theorem Rec.set1 {w:World} {g:Nat} {n:Bool} {v:Value} {sc:Int} (h:Rec w g n v sc) (u:Value):Rec (w.setCell ⟨g,1,none⟩ u) g n u sc:=zb8 h 1 _
theorem Rec.set2 {w:World} {g:Nat} {n:Bool} {v:Value} {sc:Int} (h:Rec w g n v sc) (z:Int):Rec (w.setCell ⟨g,2,none⟩ (.int .i64 z)) g n v z:=zb8 h 2 _
theorem zft {ops:Array Oper} {rest:List Oper} {o:Oper} {a:Act} {w:World} {Q:Exit→Act→World→Prop} {n:Bool} {v:Value} {sc:Int} (x:Operand) (g:Nat) (hg:Rec w g n v sc)
 (hgd:o.guard=none) (ho:o.op=.load 224 x) (hx:a.eval x=.pointer (some ⟨g,0,none⟩))
 (h:wpList Tryz.prog ops Q rest (a.put o.dst (.agg #[.bool n,v,.int .i64 sc])) w):wpList Tryz.prog ops Q (o::rest) a w:=
 wpList_load_row hgd 224 x ho g hx 224 _ (0,0) _ hg Tryz.underlying224 rfl (by exact zyt) h
theorem zb1 {ops:Array Oper} {rest:List Oper} {o:Oper} {a:Act} {w:World} {Q:Exit→Act→World→Prop} {n m:Bool} {v u:Value} {sc sd:Int} (x y:Operand) (g:Nat) (hg:Rec w g n v sc) (h1:u.oneCell'=true)
 (hgd:o.guard=none) (ho:o.op=.store 224 x y) (hx:a.eval x=.pointer (some ⟨g,0,none⟩)) (hy:a.eval y=.agg #[.bool m,u,.int .i64 sd])
 (h:∀ w',Only g w w'→Rec w' g m u sd→wpList Tryz.prog ops Q rest (a.put o.dst undef) w'):wpList Tryz.prog ops Q (o::rest) a w:=
 wpList_plain hgd fun _ hK=>by
  unfold Oper.wp execOp
  simp only [ho,hx,hy,Instr.storeAt,Instr.sureAddr,Sem.run_bind,Sem.run_pure,Result.andThen_ok,run_storeVar_row (P:=Tryz.prog) w g 224 224 _ #[.bool m,u,.int .i64 sd] hg (by exact zyt) rfl (by simp [h1];exact ⟨rfl,rfl⟩)]
  exact hK _ _ (h _ (Only.setRow w _) (zdd hg))
theorem zeq {fn:Func} {p q:Tmp} (h:fn.results=#[.cell p 224,.tmp q]) (tmps:Array Value) {w:World} {g:Nat} {n:Bool} {v:Value} {sc:Int} (x:Value)
 (hp:tmps.getD p undef=.pointer (some ⟨g,0,none⟩)) (hq:tmps.getD q undef=x) (hg:Rec w g n v sc):(results fn tmps).run Tryz.prog w=.ok (.tuple #[.agg #[.bool n,v,.int .i64 sc],x]) w:=by
 have hp':tmps[p]?.getD undef=.pointer (some ⟨g,0,none⟩):=by simpa using hp
 have hq':tmps[q]?.getD undef=x:=by simpa using hq
 have hl:=run_loadVar_row (P:=Tryz.prog) w g 224 224 _ (0,0) _ hg Tryz.underlying224 rfl (by exact zyt)
 simp [results,h,hp',hq',asAddr,hl]
end Go.Proofs.YteclpnfckjfibaaGreatDoor
