/- Texts of one kind, one behind the other: each says ahead of itself what it shows. -/
import Derived.Test.YteclpnfckjfibaaGreatDoorCah
import Derived.Test.YteclpnfckjfibaaGreatDoorCad
import Derived.Deep.LoopGhost
import Derived.Test.YteclpnfckjfibaaGreatDoorCac
import Derived.Test.YteclpnfckjfibaaGreatDoorCab
import Derived.BigGuardPart
import Derived.Deep.DeepCutAuto
import Derived.WalkKit
import Derived.OwnWalk
namespace Go.Proofs.YteclpnfckjfibaaGreatDoor
open Go.RowKit
set_option maxHeartbeats 12800000
set_option maxRecDepth 20000
theorem zbt (n:Int):((zb3 n 0).toNat:Int)=n % 256:=by
 rw [zif]
 simp
theorem strange {k:Int} (h:zlm k=200):k≠0∧k≠1∧k≠2∧k≠3∧k≠4∧k≠5∧k≠6∧k≠7∧k≠8∧k≠9∧k≠10:=by
 refine ⟨?_,?_,?_,?_,?_,?_,?_,?_,?_,?_,?_⟩ <;> (rintro rfl;revert h;decide)
theorem wrapU (n:Int):IntKind.u64.wrap n=n % 18446744073709551616:=rfl
def zc5 (w0:World) (l:List UInt8) (v:Val) (e:Ending) (w':World):Prop:=∃ A',e=.returned A'∧OwnB w0 A' (l++encP v) w'
theorem encNull (w0 w:World) (A:Value) (l:List UInt8) (b:Bool) (n:Int) (t x:ByteArray) (p:Option Addr) (q:List Val) (cap:Nat) (hf:Fine n t x q.length) (h:OwnB w0 A l w) (hl:l.length≤800000000):
 Calls Tryz.prog 166 #[A,.agg #[.int .i64 0,.bool b,.int .i64 n,.string t,.string x,.slice p q.length cap]] w (zc5 w0 l (.mk 0 b n t x q)):=by
 obtain ⟨i0,hi,hz0,hz1,hz2⟩:=info_parts zfw
 obtain ⟨W0,hW0⟩:∃ W0,W0=w.alloc (.cells #[.int .i64 0,.bool b,.int .i64 n,.string t,.string x,.slice p q.length cap] 48):=⟨_,rfl⟩
 have S:Six W0 w.heap.size 0 b n t x p q.length cap:=by rw [hW0];exact zaj _ rfl
 have hne:=h.ne
 have O:OwnB w0 A l W0:=by rw [hW0];exact h.alloc _
 have hown:=O.own
 have f0:=S.c0
 have HS:Hid (W0.heap.size=w.heap.size+1):=Lib.hid (by rw [hW0];simp)
 have hlo:w0.heap.size≤w.heap.size:=h.lo
 have H0:=Lib.hid hW0
 have HF:=Lib.hid hf
 clear hW0 h hf
 go_enter Tryz.func166,Tryz.ntmps166
 go_wp2_with (at_builtin;rw [← H0.out];refine wpList_append_own _ rfl _ _ 101 rfl w0.heap.size 5 i0 (.int .u8 0) 1 1 Tryz.underlying101 hi hz0 hz1 hz2 rfl (by decide) _ _ _ rfl (hown.alloc _) ⟨w.heap.size+1,0,none⟩ 1 1 [.int .u8 (0)] rfl rfl ?_ ?_ ?_ ?_ ?_ ?_)
 all_goals (try (first | rfl |(unfold maxLen;omega) | omega |(simp [HS.out];omega) |(intro u hu;simp at hu;subst hu;rfl) |(rw [← HS.out];exact cell_one_new _ _ _) |(simp;done)))
 intro v1 w1 hown1 hgrow _
 have O1:=(O.alloc _).say (l':=l++[zb3 0 0]) hown1 hgrow (by simp) (by rw [zbd,zcj _ (zbt _)];rfl)
 have S1:=(S.alloc (.cells #[.int .u8 (0)] 5)).grown hgrow hne
 clear hgrow hown1 hown O S f0 H0
 go_wp2_with (first
  |((with_reducible refine zac (.tmp 3) w.heap.size S1 ?_ ?_ ?_ ?_);rfl;rfl;rfl)
  |(go_at_call 156;(with_reducible refine (zat 0 _ _ _ _ _ 164 rfl _).mono ?_);rintro e w2 ⟨rfl,hb2⟩;have O2:=O1.after hb2.is;have S2:=S1.below hb2.is;have f0:=S2.c0;have f1:=S2.c1;have f2:=S2.c2;have f3:=S2.c3;have f4:=S2.c4;have f5:=S2.c5;clear hb2 O1 S1)
  |(simp only [zf7,zf8,zf9,zga,zgb,zjf,zjg,zjh,zji,zgc,Result.andThen_ok]))
 have HO:=Lib.hid O2
 clear O2
 go_wp2_with fail
 go_ret
 exact ⟨_,rfl,by unfold encP;simpa using HO.out⟩
theorem z1o (w0 w:World) (A:Value) (l:List UInt8) (b:Bool) (n:Int) (t x:ByteArray) (p:Option Addr) (q:List Val) (cap:Nat) (hf:Fine n t x q.length) (h:OwnB w0 A l w) (hl:l.length≤800000000):
 Calls Tryz.prog 166 #[A,.agg #[.int .i64 2,.bool b,.int .i64 n,.string t,.string x,.slice p q.length cap]] w (zc5 w0 l (.mk 2 b n t x q)):=by
 obtain ⟨i0,hi,hz0,hz1,hz2⟩:=info_parts zfw
 obtain ⟨W0,hW0⟩:∃ W0,W0=w.alloc (.cells #[.int .i64 2,.bool b,.int .i64 n,.string t,.string x,.slice p q.length cap] 48):=⟨_,rfl⟩
 have S:Six W0 w.heap.size 2 b n t x p q.length cap:=by rw [hW0];exact zaj _ rfl
 have hne:=h.ne
 have O:OwnB w0 A l W0:=by rw [hW0];exact h.alloc _
 have hown:=O.own
 have f0:=S.c0
 have HS:Hid (W0.heap.size=w.heap.size+1):=Lib.hid (by rw [hW0];simp)
 have hlo:w0.heap.size≤w.heap.size:=h.lo
 have H0:=Lib.hid hW0
 have HF:=Lib.hid hf
 clear hW0 h hf
 have hI:∀ W A L,OwnB w0 A L W→L.length≤1000000000→Calls Tryz.prog 208 #[A,.int .u64 (IntKind.u64.wrap n),.int .i64 8] W fun e w'=>∃ A',e=.returned A'∧OwnB w0 A' (L++beB n 8) w'∧Bx W w':=fun W A L hO hL=>by
  have:=zdv w0 W A L (n % 18446744073709551616) 8 (by omega) (by omega) (by omega) hO hL
  rw [zqg n 8 (by omega),← wrapU n] at this
  exact this
 go_enter Tryz.func166,Tryz.ntmps166
 go_wp2_with (at_builtin;rw [← H0.out];refine wpList_append_own _ rfl _ _ 101 rfl w0.heap.size 5 i0 (.int .u8 0) 1 1 Tryz.underlying101 hi hz0 hz1 hz2 rfl (by decide) _ _ _ rfl (hown.alloc _) ⟨w.heap.size+1,0,none⟩ 1 1 [.int .u8 (2)] rfl rfl ?_ ?_ ?_ ?_ ?_ ?_)
 all_goals (try (first | rfl |(unfold maxLen;omega) | omega |(simp [HS.out];omega) |(intro u hu;simp at hu;subst hu;rfl) |(rw [← HS.out];exact cell_one_new _ _ _) |(simp;done)))
 intro v1 w1 hown1 hgrow _
 have O1:=(O.alloc _).say (l':=l++[zb3 2 0]) hown1 hgrow (by simp) (by rw [zbd,zcj _ (zbt _)];rfl)
 have S1:=(S.alloc (.cells #[.int .u8 (2)] 5)).grown hgrow hne
 clear hgrow hown1 hown O S f0 H0
 go_wp2_with (first
  |((with_reducible refine zac (.tmp 3) w.heap.size S1 ?_ ?_ ?_ ?_);rfl;rfl;rfl)
  |(go_at_call 156;(with_reducible refine (zat 2 _ _ _ _ _ 166 rfl _).mono ?_);rintro e w2 ⟨rfl,hb2⟩;have O2:=O1.after hb2.is;have S2:=S1.below hb2.is;have f0:=S2.c0;have f1:=S2.c1;have f2:=S2.c2;have f3:=S2.c3;have f4:=S2.c4;have f5:=S2.c5;clear hb2 O1 S1)
  |(simp only [zjo,zjp,zjq,zjr,Result.andThen_ok])
  |(go_at_call 208;(with_reducible refine (hI _ _ _ O2 (by simp only [List.length_append,List.length_cons,List.length_nil];omega)).mono ?_);rintro e w3 ⟨v3,rfl,O3,hx3⟩;clear f0 f1 f2 f3 f4 f5 O2 S2))
 have HO:=Lib.hid O3
 clear O3
 go_wp2_with fail
 go_ret
 exact ⟨_,rfl,by unfold encP;simpa using HO.out⟩
theorem encNode (w0 w:World) (A:Value) (l:List UInt8) (b:Bool) (n:Int) (t x:ByteArray) (p:Option Addr) (q:List Val) (cap:Nat) (hf:Fine n t x q.length) (h:OwnB w0 A l w) (hl:l.length≤800000000):
 Calls Tryz.prog 166 #[A,.agg #[.int .i64 6,.bool b,.int .i64 n,.string t,.string x,.slice p q.length cap]] w (zc5 w0 l (.mk 6 b n t x q)):=by
 obtain ⟨i0,hi,hz0,hz1,hz2⟩:=info_parts zfw
 obtain ⟨W0,hW0⟩:∃ W0,W0=w.alloc (.cells #[.int .i64 6,.bool b,.int .i64 n,.string t,.string x,.slice p q.length cap] 48):=⟨_,rfl⟩
 have S:Six W0 w.heap.size 6 b n t x p q.length cap:=by rw [hW0];exact zaj _ rfl
 have hne:=h.ne
 have O:OwnB w0 A l W0:=by rw [hW0];exact h.alloc _
 have hown:=O.own
 have f0:=S.c0
 have HS:Hid (W0.heap.size=w.heap.size+1):=Lib.hid (by rw [hW0];simp)
 have hlo:w0.heap.size≤w.heap.size:=h.lo
 have H0:=Lib.hid hW0
 have HF:=Lib.hid hf
 clear hW0 h hf
 have hI:∀ W A L,OwnB w0 A L W→L.length≤1000000000→Calls Tryz.prog 208 #[A,.int .u64 (IntKind.u64.wrap n),.int .i64 8] W fun e w'=>∃ A',e=.returned A'∧OwnB w0 A' (L++beB n 8) w'∧Bx W w':=fun W A L hO hL=>by
  have:=zdv w0 W A L (n % 18446744073709551616) 8 (by omega) (by omega) (by omega) hO hL
  rw [zqg n 8 (by omega),← wrapU n] at this
  exact this
 go_enter Tryz.func166,Tryz.ntmps166
 go_wp2_with (at_builtin;rw [← H0.out];refine wpList_append_own _ rfl _ _ 101 rfl w0.heap.size 5 i0 (.int .u8 0) 1 1 Tryz.underlying101 hi hz0 hz1 hz2 rfl (by decide) _ _ _ rfl (hown.alloc _) ⟨w.heap.size+1,0,none⟩ 1 1 [.int .u8 (6)] rfl rfl ?_ ?_ ?_ ?_ ?_ ?_)
 all_goals (try (first | rfl |(unfold maxLen;omega) | omega |(simp [HS.out];omega) |(intro u hu;simp at hu;subst hu;rfl) |(rw [← HS.out];exact cell_one_new _ _ _) |(simp;done)))
 intro v1 w1 hown1 hgrow _
 have O1:=(O.alloc _).say (l':=l++[zb3 6 0]) hown1 hgrow (by simp) (by rw [zbd,zcj _ (zbt _)];rfl)
 have S1:=(S.alloc (.cells #[.int .u8 (6)] 5)).grown hgrow hne
 clear hgrow hown1 hown O S f0 H0
 go_wp2_with (first
  |((with_reducible refine zac (.tmp 3) w.heap.size S1 ?_ ?_ ?_ ?_);rfl;rfl;rfl)
  |(go_at_call 156;(with_reducible refine (zat 6 _ _ _ _ _ 167 rfl _).mono ?_);rintro e w2 ⟨rfl,hb2⟩;have O2:=O1.after hb2.is;have S2:=S1.below hb2.is;have f0:=S2.c0;have f1:=S2.c1;have f2:=S2.c2;have f3:=S2.c3;have f4:=S2.c4;have f5:=S2.c5;clear hb2 O1 S1)
  |(simp only [zgj,zgk,zgl,zgm,Result.andThen_ok])
  |(go_at_call 208;(with_reducible refine (hI _ _ _ O2 (by simp only [List.length_append,List.length_cons,List.length_nil];omega)).mono ?_);rintro e w3 ⟨v3,rfl,O3,hx3⟩;clear f0 f1 f2 f3 f4 f5 O2 S2))
 have HO:=Lib.hid O3
 clear O3
 go_wp2_with fail
 go_ret
 exact ⟨_,rfl,by unfold encP;simpa using HO.out⟩
theorem encEdge (w0 w:World) (A:Value) (l:List UInt8) (b:Bool) (n:Int) (t x:ByteArray) (p:Option Addr) (q:List Val) (cap:Nat) (hf:Fine n t x q.length) (h:OwnB w0 A l w) (hl:l.length≤800000000):
 Calls Tryz.prog 166 #[A,.agg #[.int .i64 7,.bool b,.int .i64 n,.string t,.string x,.slice p q.length cap]] w (zc5 w0 l (.mk 7 b n t x q)):=by
 obtain ⟨i0,hi,hz0,hz1,hz2⟩:=info_parts zfw
 obtain ⟨W0,hW0⟩:∃ W0,W0=w.alloc (.cells #[.int .i64 7,.bool b,.int .i64 n,.string t,.string x,.slice p q.length cap] 48):=⟨_,rfl⟩
 have S:Six W0 w.heap.size 7 b n t x p q.length cap:=by rw [hW0];exact zaj _ rfl
 have hne:=h.ne
 have O:OwnB w0 A l W0:=by rw [hW0];exact h.alloc _
 have hown:=O.own
 have f0:=S.c0
 have HS:Hid (W0.heap.size=w.heap.size+1):=Lib.hid (by rw [hW0];simp)
 have hlo:w0.heap.size≤w.heap.size:=h.lo
 have H0:=Lib.hid hW0
 have HF:=Lib.hid hf
 clear hW0 h hf
 have hI:∀ W A L,OwnB w0 A L W→L.length≤1000000000→Calls Tryz.prog 208 #[A,.int .u64 (IntKind.u64.wrap n),.int .i64 8] W fun e w'=>∃ A',e=.returned A'∧OwnB w0 A' (L++beB n 8) w'∧Bx W w':=fun W A L hO hL=>by
  have:=zdv w0 W A L (n % 18446744073709551616) 8 (by omega) (by omega) (by omega) hO hL
  rw [zqg n 8 (by omega),← wrapU n] at this
  exact this
 go_enter Tryz.func166,Tryz.ntmps166
 go_wp2_with (at_builtin;rw [← H0.out];refine wpList_append_own _ rfl _ _ 101 rfl w0.heap.size 5 i0 (.int .u8 0) 1 1 Tryz.underlying101 hi hz0 hz1 hz2 rfl (by decide) _ _ _ rfl (hown.alloc _) ⟨w.heap.size+1,0,none⟩ 1 1 [.int .u8 (7)] rfl rfl ?_ ?_ ?_ ?_ ?_ ?_)
 all_goals (try (first | rfl |(unfold maxLen;omega) | omega |(simp [HS.out];omega) |(intro u hu;simp at hu;subst hu;rfl) |(rw [← HS.out];exact cell_one_new _ _ _) |(simp;done)))
 intro v1 w1 hown1 hgrow _
 have O1:=(O.alloc _).say (l':=l++[zb3 7 0]) hown1 hgrow (by simp) (by rw [zbd,zcj _ (zbt _)];rfl)
 have S1:=(S.alloc (.cells #[.int .u8 (7)] 5)).grown hgrow hne
 clear hgrow hown1 hown O S f0 H0
 go_wp2_with (first
  |((with_reducible refine zac (.tmp 3) w.heap.size S1 ?_ ?_ ?_ ?_);rfl;rfl;rfl)
  |(go_at_call 156;(with_reducible refine (zat 7 _ _ _ _ _ 168 rfl _).mono ?_);rintro e w2 ⟨rfl,hb2⟩;have O2:=O1.after hb2.is;have S2:=S1.below hb2.is;have f0:=S2.c0;have f1:=S2.c1;have f2:=S2.c2;have f3:=S2.c3;have f4:=S2.c4;have f5:=S2.c5;clear hb2 O1 S1)
  |(simp only [zgp,zgq,zgr,zgs,Result.andThen_ok])
  |(go_at_call 208;(with_reducible refine (hI _ _ _ O2 (by simp only [List.length_append,List.length_cons,List.length_nil];omega)).mono ?_);rintro e w3 ⟨v3,rfl,O3,hx3⟩;clear f0 f1 f2 f3 f4 f5 O2 S2))
 have HO:=Lib.hid O3
 clear O3
 go_wp2_with fail
 go_ret
 exact ⟨_,rfl,by unfold encP;simpa using HO.out⟩
theorem z1p (w0 w:World) (A:Value) (l:List UInt8) (b:Bool) (n:Int) (t x:ByteArray) (p:Option Addr) (q:List Val) (cap:Nat) (hf:Fine n t x q.length) (h:OwnB w0 A l w) (hl:l.length≤800000000):
 Calls Tryz.prog 166 #[A,.agg #[.int .i64 3,.bool b,.int .i64 n,.string t,.string x,.slice p q.length cap]] w (zc5 w0 l (.mk 3 b n t x q)):=by
 obtain ⟨i0,hi,hz0,hz1,hz2⟩:=info_parts zfw
 obtain ⟨W0,hW0⟩:∃ W0,W0=w.alloc (.cells #[.int .i64 3,.bool b,.int .i64 n,.string t,.string x,.slice p q.length cap] 48):=⟨_,rfl⟩
 have S:Six W0 w.heap.size 3 b n t x p q.length cap:=by rw [hW0];exact zaj _ rfl
 have hne:=h.ne
 have O:OwnB w0 A l W0:=by rw [hW0];exact h.alloc _
 have hown:=O.own
 have f0:=S.c0
 have HS:Hid (W0.heap.size=w.heap.size+1):=Lib.hid (by rw [hW0];simp)
 have hlo:w0.heap.size≤w.heap.size:=h.lo
 have H0:=Lib.hid hW0
 have HF:=Lib.hid hf
 clear hW0 h hf
 go_enter Tryz.func166,Tryz.ntmps166
 go_wp2_with (at_builtin;rw [← H0.out];refine wpList_append_own _ rfl _ _ 101 rfl w0.heap.size 5 i0 (.int .u8 0) 1 1 Tryz.underlying101 hi hz0 hz1 hz2 rfl (by decide) _ _ _ rfl (hown.alloc _) ⟨w.heap.size+1,0,none⟩ 1 1 [.int .u8 (3)] rfl rfl ?_ ?_ ?_ ?_ ?_ ?_)
 all_goals (try (first | rfl |(unfold maxLen;omega) | omega |(simp [HS.out];omega) |(intro u hu;simp at hu;subst hu;rfl) |(rw [← HS.out];exact cell_one_new _ _ _) |(simp;done)))
 intro v1 w1 hown1 hgrow _
 have O1:=(O.alloc _).say (l':=l++[zb3 3 0]) hown1 hgrow (by simp) (by rw [zbd,zcj _ (zbt _)];rfl)
 have S1:=(S.alloc (.cells #[.int .u8 (3)] 5)).grown hgrow hne
 clear hgrow hown1 hown O S f0 H0
 go_wp2_with (first
  |((with_reducible refine zac (.tmp 3) w.heap.size S1 ?_ ?_ ?_ ?_);rfl;rfl;rfl)
  |(go_at_call 156;(with_reducible refine (zat 3 _ _ _ _ _ 169 rfl _).mono ?_);rintro e w2 ⟨rfl,hb2⟩;have O2:=O1.after hb2.is;have S2:=S1.below hb2.is;have f0:=S2.c0;have f1:=S2.c1;have f2:=S2.c2;have f3:=S2.c3;have f4:=S2.c4;have f5:=S2.c5;clear hb2 O1 S1)
  |(simp only [zgv,zgw,zgx,zgy,zgz,zj5,zj6,zj7,Result.andThen_ok])
  |(go_at_call 209;(with_reducible refine (zdd w0 _ _ _ t HF.out.ht O2 (by simp only [List.length_append,List.length_cons,List.length_nil];omega)).mono ?_);rintro e w3 ⟨v3,rfl,O3,hx3⟩;clear f0 f1 f2 f3 f4 f5 O2 S2))
 have HO:=Lib.hid O3
 clear O3
 go_wp2_with fail
 go_ret
 exact ⟨_,rfl,by unfold encP;simpa using HO.out⟩
theorem encText (w0 w:World) (A:Value) (l:List UInt8) (b:Bool) (n:Int) (t x:ByteArray) (p:Option Addr) (q:List Val) (cap:Nat) (hf:Fine n t x q.length) (h:OwnB w0 A l w) (hl:l.length≤800000000):
 Calls Tryz.prog 166 #[A,.agg #[.int .i64 4,.bool b,.int .i64 n,.string t,.string x,.slice p q.length cap]] w (zc5 w0 l (.mk 4 b n t x q)):=by
 obtain ⟨i0,hi,hz0,hz1,hz2⟩:=info_parts zfw
 obtain ⟨W0,hW0⟩:∃ W0,W0=w.alloc (.cells #[.int .i64 4,.bool b,.int .i64 n,.string t,.string x,.slice p q.length cap] 48):=⟨_,rfl⟩
 have S:Six W0 w.heap.size 4 b n t x p q.length cap:=by rw [hW0];exact zaj _ rfl
 have hne:=h.ne
 have O:OwnB w0 A l W0:=by rw [hW0];exact h.alloc _
 have hown:=O.own
 have f0:=S.c0
 have HS:Hid (W0.heap.size=w.heap.size+1):=Lib.hid (by rw [hW0];simp)
 have hlo:w0.heap.size≤w.heap.size:=h.lo
 have H0:=Lib.hid hW0
 have HF:=Lib.hid hf
 clear hW0 h hf
 go_enter Tryz.func166,Tryz.ntmps166
 go_wp2_with (at_builtin;rw [← H0.out];refine wpList_append_own _ rfl _ _ 101 rfl w0.heap.size 5 i0 (.int .u8 0) 1 1 Tryz.underlying101 hi hz0 hz1 hz2 rfl (by decide) _ _ _ rfl (hown.alloc _) ⟨w.heap.size+1,0,none⟩ 1 1 [.int .u8 (4)] rfl rfl ?_ ?_ ?_ ?_ ?_ ?_)
 all_goals (try (first | rfl |(unfold maxLen;omega) | omega |(simp [HS.out];omega) |(intro u hu;simp at hu;subst hu;rfl) |(rw [← HS.out];exact cell_one_new _ _ _) |(simp;done)))
 intro v1 w1 hown1 hgrow _
 have O1:=(O.alloc _).say (l':=l++[zb3 4 0]) hown1 hgrow (by simp) (by rw [zbd,zcj _ (zbt _)];rfl)
 have S1:=(S.alloc (.cells #[.int .u8 (4)] 5)).grown hgrow hne
 clear hgrow hown1 hown O S f0 H0
 go_wp2_with (first
  |((with_reducible refine zac (.tmp 3) w.heap.size S1 ?_ ?_ ?_ ?_);rfl;rfl;rfl)
  |(go_at_call 156;(with_reducible refine (zat 4 _ _ _ _ _ 170 rfl _).mono ?_);rintro e w2 ⟨rfl,hb2⟩;have O2:=O1.after hb2.is;have S2:=S1.below hb2.is;have f0:=S2.c0;have f1:=S2.c1;have f2:=S2.c2;have f3:=S2.c3;have f4:=S2.c4;have f5:=S2.c5;clear hb2 O1 S1)
  |(simp only [zg1,zg2,zg3,zg4,zg5,zka,zkb,zkc,Result.andThen_ok])
  |(go_at_call 209;(with_reducible refine (zdd w0 _ _ _ t HF.out.ht O2 (by simp only [List.length_append,List.length_cons,List.length_nil];omega)).mono ?_);rintro e w3 ⟨v3,rfl,O3,hx3⟩;clear f0 f1 f2 f3 f4 f5 O2 S2))
 have HO:=Lib.hid O3
 clear O3
 go_wp2_with fail
 go_ret
 exact ⟨_,rfl,by unfold encP;simpa using HO.out⟩
theorem encIri (w0 w:World) (A:Value) (l:List UInt8) (b:Bool) (n:Int) (t x:ByteArray) (p:Option Addr) (q:List Val) (cap:Nat) (hf:Fine n t x q.length) (h:OwnB w0 A l w) (hl:l.length≤800000000):
 Calls Tryz.prog 166 #[A,.agg #[.int .i64 8,.bool b,.int .i64 n,.string t,.string x,.slice p q.length cap]] w (zc5 w0 l (.mk 8 b n t x q)):=by
 obtain ⟨i0,hi,hz0,hz1,hz2⟩:=info_parts zfw
 obtain ⟨W0,hW0⟩:∃ W0,W0=w.alloc (.cells #[.int .i64 8,.bool b,.int .i64 n,.string t,.string x,.slice p q.length cap] 48):=⟨_,rfl⟩
 have S:Six W0 w.heap.size 8 b n t x p q.length cap:=by rw [hW0];exact zaj _ rfl
 have hne:=h.ne
 have O:OwnB w0 A l W0:=by rw [hW0];exact h.alloc _
 have hown:=O.own
 have f0:=S.c0
 have HS:Hid (W0.heap.size=w.heap.size+1):=Lib.hid (by rw [hW0];simp)
 have hlo:w0.heap.size≤w.heap.size:=h.lo
 have H0:=Lib.hid hW0
 have HF:=Lib.hid hf
 clear hW0 h hf
 go_enter Tryz.func166,Tryz.ntmps166
 go_wp2_with (at_builtin;rw [← H0.out];refine wpList_append_own _ rfl _ _ 101 rfl w0.heap.size 5 i0 (.int .u8 0) 1 1 Tryz.underlying101 hi hz0 hz1 hz2 rfl (by decide) _ _ _ rfl (hown.alloc _) ⟨w.heap.size+1,0,none⟩ 1 1 [.int .u8 (8)] rfl rfl ?_ ?_ ?_ ?_ ?_ ?_)
 all_goals (try (first | rfl |(unfold maxLen;omega) | omega |(simp [HS.out];omega) |(intro u hu;simp at hu;subst hu;rfl) |(rw [← HS.out];exact cell_one_new _ _ _) |(simp;done)))
 intro v1 w1 hown1 hgrow _
 have O1:=(O.alloc _).say (l':=l++[zb3 8 0]) hown1 hgrow (by simp) (by rw [zbd,zcj _ (zbt _)];rfl)
 have S1:=(S.alloc (.cells #[.int .u8 (8)] 5)).grown hgrow hne
 clear hgrow hown1 hown O S f0 H0
 go_wp2_with (first
  |((with_reducible refine zac (.tmp 3) w.heap.size S1 ?_ ?_ ?_ ?_);rfl;rfl;rfl)
  |(go_at_call 156;(with_reducible refine (zat 8 _ _ _ _ _ 171 rfl _).mono ?_);rintro e w2 ⟨rfl,hb2⟩;have O2:=O1.after hb2.is;have S2:=S1.below hb2.is;have f0:=S2.c0;have f1:=S2.c1;have f2:=S2.c2;have f3:=S2.c3;have f4:=S2.c4;have f5:=S2.c5;clear hb2 O1 S1)
  |(simp only [zg7,zg8,zg9,zha,zhb,zkf,zkg,zkh,Result.andThen_ok])
  |(go_at_call 209;(with_reducible refine (zdd w0 _ _ _ t HF.out.ht O2 (by simp only [List.length_append,List.length_cons,List.length_nil];omega)).mono ?_);rintro e w3 ⟨v3,rfl,O3,hx3⟩;clear f0 f1 f2 f3 f4 f5 O2 S2))
 have HO:=Lib.hid O3
 clear O3
 go_wp2_with fail
 go_ret
 exact ⟨_,rfl,by unfold encP;simpa using HO.out⟩
theorem z1q (w0 w:World) (A:Value) (l:List UInt8) (b:Bool) (n:Int) (t x:ByteArray) (p:Option Addr) (q:List Val) (cap:Nat) (hf:Fine n t x q.length) (h:OwnB w0 A l w) (hl:l.length≤800000000):
 Calls Tryz.prog 166 #[A,.agg #[.int .i64 9,.bool b,.int .i64 n,.string t,.string x,.slice p q.length cap]] w (zc5 w0 l (.mk 9 b n t x q)):=by
 obtain ⟨i0,hi,hz0,hz1,hz2⟩:=info_parts zfw
 obtain ⟨W0,hW0⟩:∃ W0,W0=w.alloc (.cells #[.int .i64 9,.bool b,.int .i64 n,.string t,.string x,.slice p q.length cap] 48):=⟨_,rfl⟩
 have S:Six W0 w.heap.size 9 b n t x p q.length cap:=by rw [hW0];exact zaj _ rfl
 have hne:=h.ne
 have O:OwnB w0 A l W0:=by rw [hW0];exact h.alloc _
 have hown:=O.own
 have f0:=S.c0
 have HS:Hid (W0.heap.size=w.heap.size+1):=Lib.hid (by rw [hW0];simp)
 have hlo:w0.heap.size≤w.heap.size:=h.lo
 have H0:=Lib.hid hW0
 have HF:=Lib.hid hf
 clear hW0 h hf
 go_enter Tryz.func166,Tryz.ntmps166
 go_wp2_with (at_builtin;rw [← H0.out];refine wpList_append_own _ rfl _ _ 101 rfl w0.heap.size 5 i0 (.int .u8 0) 1 1 Tryz.underlying101 hi hz0 hz1 hz2 rfl (by decide) _ _ _ rfl (hown.alloc _) ⟨w.heap.size+1,0,none⟩ 1 1 [.int .u8 (9)] rfl rfl ?_ ?_ ?_ ?_ ?_ ?_)
 all_goals (try (first | rfl |(unfold maxLen;omega) | omega |(simp [HS.out];omega) |(intro u hu;simp at hu;subst hu;rfl) |(rw [← HS.out];exact cell_one_new _ _ _) |(simp;done)))
 intro v1 w1 hown1 hgrow _
 have O1:=(O.alloc _).say (l':=l++[zb3 9 0]) hown1 hgrow (by simp) (by rw [zbd,zcj _ (zbt _)];rfl)
 have S1:=(S.alloc (.cells #[.int .u8 (9)] 5)).grown hgrow hne
 clear hgrow hown1 hown O S f0 H0
 go_wp2_with (first
  |((with_reducible refine zac (.tmp 3) w.heap.size S1 ?_ ?_ ?_ ?_);rfl;rfl;rfl)
  |(go_at_call 156;(with_reducible refine (zat 9 _ _ _ _ _ 172 rfl _).mono ?_);rintro e w2 ⟨rfl,hb2⟩;have O2:=O1.after hb2.is;have S2:=S1.below hb2.is;have f0:=S2.c0;have f1:=S2.c1;have f2:=S2.c2;have f3:=S2.c3;have f4:=S2.c4;have f5:=S2.c5;clear hb2 O1 S1)
  |(simp only [zhd,zhe,zhf,zhg,zhh,zkk,zkl,zkm,Result.andThen_ok])
  |(go_at_call 209;(with_reducible refine (zdd w0 _ _ _ t HF.out.ht O2 (by simp only [List.length_append,List.length_cons,List.length_nil];omega)).mono ?_);rintro e w3 ⟨v3,rfl,O3,hx3⟩;clear f0 f1 f2 f3 f4 f5 O2 S2))
 have HO:=Lib.hid O3
 clear O3
 go_wp2_with fail
 go_ret
 exact ⟨_,rfl,by unfold encP;simpa using HO.out⟩
theorem zs7 (w0 w:World) (A:Value) (l:List UInt8) (k:Int) (b:Bool) (n:Int) (t x:ByteArray) (p:Option Addr) (q:List Val) (cap:Nat) (hf:Fine n t x q.length) (h:OwnB w0 A l w) (hl:l.length≤800000000) (hk:zlm k=200):
 Calls Tryz.prog 166 #[A,.agg #[.int .i64 k,.bool b,.int .i64 n,.string t,.string x,.slice p q.length cap]] w (zc5 w0 l (.mk k b n t x q)):=by
 obtain ⟨i0,hi,hz0,hz1,hz2⟩:=info_parts zfw
 obtain ⟨W0,hW0⟩:∃ W0,W0=w.alloc (.cells #[.int .i64 k,.bool b,.int .i64 n,.string t,.string x,.slice p q.length cap] 48):=⟨_,rfl⟩
 have S:Six W0 w.heap.size k b n t x p q.length cap:=by rw [hW0];exact zaj _ rfl
 have hne:=h.ne
 have O:OwnB w0 A l W0:=by rw [hW0];exact h.alloc _
 have hown:=O.own
 have f0:=S.c0
 have HS:Hid (W0.heap.size=w.heap.size+1):=Lib.hid (by rw [hW0];simp)
 have hlo:w0.heap.size≤w.heap.size:=h.lo
 have H0:=Lib.hid hW0
 have HF:=Lib.hid hf
 clear hW0 h hf
 go_enter Tryz.func166,Tryz.ntmps166
 go_wp2_with (at_builtin;rw [← H0.out];refine wpList_append_own _ rfl _ _ 101 rfl w0.heap.size 5 i0 (.int .u8 0) 1 1 Tryz.underlying101 hi hz0 hz1 hz2 rfl (by decide) _ _ _ rfl (hown.alloc _) ⟨w.heap.size+1,0,none⟩ 1 1 [.int .u8 (k % 256)] rfl rfl ?_ ?_ ?_ ?_ ?_ ?_)
 all_goals (try (first | rfl |(unfold maxLen;omega) | omega |(simp [HS.out];omega) |(intro u hu;simp at hu;subst hu;rfl) |(rw [← HS.out];exact cell_one_new _ _ _) |(simp;done)))
 intro v1 w1 hown1 hgrow _
 have O1:=(O.alloc _).say (l':=l++[zb3 k 0]) hown1 hgrow (by simp) (by rw [zbd,zcj _ (zbt _)])
 have S1:=(S.alloc (.cells #[.int .u8 (k % 256)] 5)).grown hgrow hne
 clear hgrow hown1 hown O S f0 H0
 go_wp2_with (first
  |((with_reducible refine zac (.tmp 3) w.heap.size S1 ?_ ?_ ?_ ?_);rfl;rfl;rfl)
  |(go_at_call 156;(with_reducible refine (zat k _ _ _ _ _ 200 hk.symm _).mono ?_);rintro e w2 ⟨rfl,hb2⟩;have O2:=O1.after hb2.is;have S2:=S1.below hb2.is;have f0:=S2.c0;have f1:=S2.c1;have f2:=S2.c2;have f3:=S2.c3;have f4:=S2.c4;have f5:=S2.c5;clear hb2 O1 S1)
  |(simp only [zko,zkp,zkq,zkr,zks,zng,znh,zni,znj,zkt,Result.andThen_ok]))
 have HO:=Lib.hid O2
 clear O2
 go_wp2_with fail
 go_ret
 exact ⟨_,rfl,by have hk2:=strange hk;unfold encP;simpa [hk2] using HO.out⟩
theorem zs8 (w0 w:World) (A:Value) (l:List UInt8) (n:Int) (t x:ByteArray) (p:Option Addr) (q:List Val) (cap:Nat) (hf:Fine n t x q.length) (h:OwnB w0 A l w) (hl:l.length≤800000000):
 Calls Tryz.prog 166 #[A,.agg #[.int .i64 1,.bool true,.int .i64 n,.string t,.string x,.slice p q.length cap]] w (zc5 w0 l (.mk 1 true n t x q)):=by
 obtain ⟨i0,hi,hz0,hz1,hz2⟩:=info_parts zfw
 obtain ⟨W0,hW0⟩:∃ W0,W0=w.alloc (.cells #[.int .i64 1,.bool true,.int .i64 n,.string t,.string x,.slice p q.length cap] 48):=⟨_,rfl⟩
 have S:Six W0 w.heap.size 1 true n t x p q.length cap:=by rw [hW0];exact zaj _ rfl
 have hne:=h.ne
 have O:OwnB w0 A l W0:=by rw [hW0];exact h.alloc _
 have hown:=O.own
 have f0:=S.c0
 have HS:Hid (W0.heap.size=w.heap.size+1):=Lib.hid (by rw [hW0];simp)
 have hlo:w0.heap.size≤w.heap.size:=h.lo
 have H0:=Lib.hid hW0
 have HF:=Lib.hid hf
 clear hW0 h hf
 have hT:∀ W,Calls Tryz.prog 207 #[.bool true] W fun e w'=>e=.returned (.int .i64 1)∧W=w':=fun W=>by
  have:=zq9 true W
  simpa using this
 go_enter Tryz.func166,Tryz.ntmps166
 go_wp2_with (at_builtin;rw [← H0.out];refine wpList_append_own _ rfl _ _ 101 rfl w0.heap.size 5 i0 (.int .u8 0) 1 1 Tryz.underlying101 hi hz0 hz1 hz2 rfl (by decide) _ _ _ rfl (hown.alloc _) ⟨w.heap.size+1,0,none⟩ 1 1 [.int .u8 (1)] rfl rfl ?_ ?_ ?_ ?_ ?_ ?_)
 all_goals (try (first | rfl |(unfold maxLen;omega) | omega |(simp [HS.out];omega) |(intro u hu;simp at hu;subst hu;rfl) |(rw [← HS.out];exact cell_one_new _ _ _) |(simp;done)))
 intro v1 w1 hown1 hgrow _
 have O1:=(O.alloc _).say (l':=l++[zb3 1 0]) hown1 hgrow (by simp) (by rw [zbd,zcj _ (zbt _)];rfl)
 have S1:=(S.alloc (.cells #[.int .u8 (1)] 5)).grown hgrow hne
 clear hgrow hown1 hown O S f0 H0
 go_wp2_with (first
  |((with_reducible refine zac (.tmp 3) w.heap.size S1 ?_ ?_ ?_ ?_);rfl;rfl;rfl)
  |(go_at_call 156;(with_reducible refine (zat 1 _ _ _ _ _ 165 rfl _).mono ?_);rintro e w2 ⟨rfl,hb2⟩;have O2:=O1.after hb2.is;have S2:=S1.below hb2.is;have f0:=S2.c0;have f1:=S2.c1;have f2:=S2.c2;have f3:=S2.c3;have f4:=S2.c4;have f5:=S2.c5;clear hb2 O1 S1)
  |(simp only [zgd,Result.andThen_ok])
  |(go_at_call 207;(with_reducible refine (hT _).mono ?_);rintro e w3 ⟨rfl,rfl⟩;have O3:=O2;have hown3:=O3.own;have hlo3:=O3.lo)
  |(at_builtin;refine wpList_append_own _ rfl _ _ 101 rfl w0.heap.size 5 i0 (.int .u8 0) 1 1 Tryz.underlying101 hi hz0 hz1 hz2 rfl (by decide) _ _ _ rfl (hown3.alloc _) ⟨w2.heap.size,0,none⟩ 1 1 [_] rfl rfl (cell_one_new _ (.int .u8 1) _) ?_ ?_ ?_ ?_ ?_))
 all_goals (try (first | rfl |(simp only [List.length_append,List.length_cons,List.length_nil];unfold maxLen;omega) |(simp;omega) |(intro u hu;simp at hu;subst hu;rfl)))
 intro v3 w3 hown4 hgrow4 _
 have HO:=Lib.hid ((O3.alloc _).say (l':=l++[zb3 1 0]++[1]) hown4 hgrow4 (by simp) (by rw [zbd (a:=l++[zb3 1 0])];rfl))
 clear hown4 hgrow4 hown3 O3 O2 S2
 go_wp2_with fail
 go_ret
 exact ⟨_,rfl,by unfold encP;simpa using HO.out⟩
theorem zrh (w0 w:World) (A:Value) (l:List UInt8) (n:Int) (t x:ByteArray) (p:Option Addr) (q:List Val) (cap:Nat) (hf:Fine n t x q.length) (h:OwnB w0 A l w) (hl:l.length≤800000000):
 Calls Tryz.prog 166 #[A,.agg #[.int .i64 1,.bool false,.int .i64 n,.string t,.string x,.slice p q.length cap]] w (zc5 w0 l (.mk 1 false n t x q)):=by
 obtain ⟨i0,hi,hz0,hz1,hz2⟩:=info_parts zfw
 obtain ⟨W0,hW0⟩:∃ W0,W0=w.alloc (.cells #[.int .i64 1,.bool false,.int .i64 n,.string t,.string x,.slice p q.length cap] 48):=⟨_,rfl⟩
 have S:Six W0 w.heap.size 1 false n t x p q.length cap:=by rw [hW0];exact zaj _ rfl
 have hne:=h.ne
 have O:OwnB w0 A l W0:=by rw [hW0];exact h.alloc _
 have hown:=O.own
 have f0:=S.c0
 have HS:Hid (W0.heap.size=w.heap.size+1):=Lib.hid (by rw [hW0];simp)
 have hlo:w0.heap.size≤w.heap.size:=h.lo
 have H0:=Lib.hid hW0
 have HF:=Lib.hid hf
 clear hW0 h hf
 have hT:∀ W,Calls Tryz.prog 207 #[.bool false] W fun e w'=>e=.returned (.int .i64 0)∧W=w':=fun W=>by
  have:=zq9 false W
  simpa using this
 go_enter Tryz.func166,Tryz.ntmps166
 go_wp2_with (at_builtin;rw [← H0.out];refine wpList_append_own _ rfl _ _ 101 rfl w0.heap.size 5 i0 (.int .u8 0) 1 1 Tryz.underlying101 hi hz0 hz1 hz2 rfl (by decide) _ _ _ rfl (hown.alloc _) ⟨w.heap.size+1,0,none⟩ 1 1 [.int .u8 (1)] rfl rfl ?_ ?_ ?_ ?_ ?_ ?_)
 all_goals (try (first | rfl |(unfold maxLen;omega) | omega |(simp [HS.out];omega) |(intro u hu;simp at hu;subst hu;rfl) |(rw [← HS.out];exact cell_one_new _ _ _) |(simp;done)))
 intro v1 w1 hown1 hgrow _
 have O1:=(O.alloc _).say (l':=l++[zb3 1 0]) hown1 hgrow (by simp) (by rw [zbd,zcj _ (zbt _)];rfl)
 have S1:=(S.alloc (.cells #[.int .u8 (1)] 5)).grown hgrow hne
 clear hgrow hown1 hown O S f0 H0
 go_wp2_with (first
  |((with_reducible refine zac (.tmp 3) w.heap.size S1 ?_ ?_ ?_ ?_);rfl;rfl;rfl)
  |(go_at_call 156;(with_reducible refine (zat 1 _ _ _ _ _ 165 rfl _).mono ?_);rintro e w2 ⟨rfl,hb2⟩;have O2:=O1.after hb2.is;have S2:=S1.below hb2.is;have f0:=S2.c0;have f1:=S2.c1;have f2:=S2.c2;have f3:=S2.c3;have f4:=S2.c4;have f5:=S2.c5;clear hb2 O1 S1)
  |(simp only [zgd,Result.andThen_ok])
  |(go_at_call 207;(with_reducible refine (hT _).mono ?_);rintro e w3 ⟨rfl,rfl⟩;have O3:=O2;have hown3:=O3.own;have hlo3:=O3.lo)
  |(at_builtin;refine wpList_append_own _ rfl _ _ 101 rfl w0.heap.size 5 i0 (.int .u8 0) 1 1 Tryz.underlying101 hi hz0 hz1 hz2 rfl (by decide) _ _ _ rfl (hown3.alloc _) ⟨w2.heap.size,0,none⟩ 1 1 [_] rfl rfl (cell_one_new _ (.int .u8 0) _) ?_ ?_ ?_ ?_ ?_))
 all_goals (try (first | rfl |(simp only [List.length_append,List.length_cons,List.length_nil];unfold maxLen;omega) |(simp;omega) |(intro u hu;simp at hu;subst hu;rfl)))
 intro v3 w3 hown4 hgrow4 _
 have HO:=Lib.hid ((O3.alloc _).say (l':=l++[zb3 1 0]++[0]) hown4 hgrow4 (by simp) (by rw [zbd (a:=l++[zb3 1 0])];rfl))
 clear hown4 hgrow4 hown3 O3 O2 S2
 go_wp2_with fail
 go_ret
 exact ⟨_,rfl,by unfold encP;simpa using HO.out⟩
theorem encLit (w0 w:World) (A:Value) (l:List UInt8) (b:Bool) (n:Int) (t x:ByteArray) (p:Option Addr) (q:List Val) (cap:Nat) (hf:Fine n t x q.length) (h:OwnB w0 A l w) (hl:l.length≤800000000):
 Calls Tryz.prog 166 #[A,.agg #[.int .i64 10,.bool b,.int .i64 n,.string t,.string x,.slice p q.length cap]] w (zc5 w0 l (.mk 10 b n t x q)):=by
 obtain ⟨i0,hi,hz0,hz1,hz2⟩:=info_parts zfw
 obtain ⟨W0,hW0⟩:∃ W0,W0=w.alloc (.cells #[.int .i64 10,.bool b,.int .i64 n,.string t,.string x,.slice p q.length cap] 48):=⟨_,rfl⟩
 have S:Six W0 w.heap.size 10 b n t x p q.length cap:=by rw [hW0];exact zaj _ rfl
 have hne:=h.ne
 have O:OwnB w0 A l W0:=by rw [hW0];exact h.alloc _
 have hown:=O.own
 have f0:=S.c0
 have HS:Hid (W0.heap.size=w.heap.size+1):=Lib.hid (by rw [hW0];simp)
 have hlo:w0.heap.size≤w.heap.size:=h.lo
 have H0:=Lib.hid hW0
 have HF:=Lib.hid hf
 clear hW0 h hf
 go_enter Tryz.func166,Tryz.ntmps166
 go_wp2_with (at_builtin;rw [← H0.out];refine wpList_append_own _ rfl _ _ 101 rfl w0.heap.size 5 i0 (.int .u8 0) 1 1 Tryz.underlying101 hi hz0 hz1 hz2 rfl (by decide) _ _ _ rfl (hown.alloc _) ⟨w.heap.size+1,0,none⟩ 1 1 [.int .u8 (10)] rfl rfl ?_ ?_ ?_ ?_ ?_ ?_)
 all_goals (try (first | rfl |(unfold maxLen;omega) | omega |(simp [HS.out];omega) |(intro u hu;simp at hu;subst hu;rfl) |(rw [← HS.out];exact cell_one_new _ _ _) |(simp;done)))
 intro v1 w1 hown1 hgrow _
 have O1:=(O.alloc _).say (l':=l++[zb3 10 0]) hown1 hgrow (by simp) (by rw [zbd,zcj _ (zbt _)];rfl)
 have S1:=(S.alloc (.cells #[.int .u8 (10)] 5)).grown hgrow hne
 clear hgrow hown1 hown O S f0 H0
 go_upto_region 10 with (first
  |((with_reducible refine zac (.tmp 3) w.heap.size S1 ?_ ?_ ?_ ?_);rfl;rfl;rfl)
  |(go_at_call 156;(with_reducible refine (zat 10 _ _ _ _ _ 173 rfl _).mono ?_);rintro e w2 ⟨rfl,hb2⟩;have O2:=O1.after hb2.is;have S2:=S1.below hb2.is;have f0:=S2.c0;have f1:=S2.c1;have f2:=S2.c2;have f3:=S2.c3;have f4:=S2.c4;have f5:=S2.c5;clear hb2 O1 S1)
  |(simp only [zeu,zev,zew,zex,zey,zhk,zhl,zhm,zhn,Result.andThen_ok]))
 have HO2:=Lib.hid O2
 have Z2:=S2.lt
 clear f0 f1 f2 f3 f4 f5
 refine wp_region_held_drew (S:=fun W=>Six W w.heap.size 10 b n t x p q.length cap) (by kernel_rfl) S2 (fun hHeld=>?_)
 have O3:OwnB w0 v1 (l++[zb3 10 0]) w2.drew:=HO2.out.drew
 clear HO2 O2 S2
 refine tg (i:=0) v1 rfl hHeld ?_
 refine tg (i:=1) ((.pointer (some ⟨w.heap.size,3,none⟩))) rfl hHeld ?_
 refine tg (i:=4) ((.pointer (some ⟨w.heap.size,4,none⟩))) rfl hHeld ?_
 refine tk (i:=2) (v:=(.string t)) rfl (Or.inl ⟨by rfl,fun W h=>by have c0:=h.c3;go_simp⟩) hHeld ?_
 refine tk (i:=5) (v:=(.string x)) rfl (Or.inl ⟨by rfl,fun W h=>by have c0:=h.c4;go_simp⟩) hHeld ?_
 refine tr 3 rfl (fun K hK=>?_)
 rw [if_pos (by rfl)]
 go_simp
 refine (zdd w0 _ _ _ t HF.out.ht O3 (by simp only [List.length_append,List.length_cons,List.length_nil];omega)).mono ?_
 rintro e w3 ⟨v3,rfl,O4,hx3⟩
 have hb3:=hHeld.bx hx3
 refine hK.out _ _ hb3 (fun hHeld2=>?_)
 clear hK K hHeld
 try simp only [putS]
 refine tr 6 rfl (fun K hK=>?_)
 rw [if_pos (by rfl)]
 go_simp
 refine (zdd w0 _ _ _ x HF.out.hx O4 (by have:=HF.out.ht;simp only [List.length_append,List.length_cons,List.length_nil,zfi];omega)).mono ?_
 rintro e w4 ⟨v4,rfl,O5,hx4⟩
 have hb4:=hb3.bx hx4
 refine hK.out _ _ hb4 (fun hHeld3=>?_)
 clear hK K hHeld2
 try simp only [putS]
 refine tg (i:=7) v4 rfl hHeld3 ?_
 refine wpAnyH_done (by kernel_rfl) ?_ _
 have HO:=Lib.hid O5
 clear O5 O4 O3
 go_wp2_with fail
 go_ret
 exact ⟨_,rfl,by unfold encP;simpa using HO.out⟩
def zyl (v:Val):Prop:=∀ (w0 w:World) (A:Value) (l:List UInt8) (k:Int) (b:Bool) (n:Int) (t x:ByteArray) (q:List Val) (p:Option Addr) (cap:Nat),v=.mk k b n t x q→Fine n t x q.length→Held w0 (.slice p q.length cap) q→OwnB w0 A l w→l.length+13*wOne v≤800000000→
 Calls Tryz.prog 166 #[A,.agg #[.int .i64 k,.bool b,.int .i64 n,.string t,.string x,.slice p q.length cap]] w (zc5 w0 l v)
theorem encList (w0 w:World) (A:Value) (l:List UInt8) (b:Bool) (n:Int) (t x:ByteArray) (g off:Nat) (q:List Val) (cap:Nat) (hf:Fine n t x q.length) (h:OwnB w0 A l w) (hl:l.length≤800000000) (hh:zbk w0 g off q) (hw:l.length+13*wAll q≤799999987) (each:∀ u∈q,zyl u):
 Calls Tryz.prog 166 #[A,.agg #[.int .i64 5,.bool b,.int .i64 n,.string t,.string x,.slice (some ⟨g,off,none⟩) q.length cap]] w (zc5 w0 l (.mk 5 b n t x q)):=by
 obtain ⟨i0,hi,hz0,hz1,hz2⟩:=info_parts zfw
 obtain ⟨W0,hW0⟩:∃ W0,W0=w.alloc (.cells #[.int .i64 5,.bool b,.int .i64 n,.string t,.string x,.slice (some ⟨g,off,none⟩) q.length cap] 48):=⟨_,rfl⟩
 have S:Six W0 w.heap.size 5 b n t x (some ⟨g,off,none⟩) q.length cap:=by rw [hW0];exact zaj _ rfl
 have hne:=h.ne
 have O:OwnB w0 A l W0:=by rw [hW0];exact h.alloc _
 have hown:=O.own
 have f0:=S.c0
 have HS:Hid (W0.heap.size=w.heap.size+1):=Lib.hid (by rw [hW0];simp)
 have hlo:w0.heap.size≤w.heap.size:=h.lo
 have H0:=Lib.hid hW0
 have HF:=Lib.hid hf
 have HH:=Lib.hid hh
 have HWT:=Lib.hid hw
 have HE:=Lib.hid each
 clear hW0 h hf hh hw each
 have hI:∀ W A L,OwnB w0 A L W→L.length≤1000000000→Calls Tryz.prog 208 #[A,.int .u64 q.length,.int .i64 4] W fun e w'=>∃ A',e=.returned A'∧OwnB w0 A' (L++beB q.length 4) w'∧Bx W w':=fun W A L hO hL=>by
  have hb:(q.length:Int) < 18446744073709551616:=by have:=HF.out.hn;omega
  exact zdv w0 W A L q.length 4 (by omega) (by omega) hb hO hL
 have hI:=Lib.hid hI
 have hn1:=HF.out.hn
 go_enter Tryz.func166,Tryz.ntmps166
 go_wp2_with (at_builtin;rw [← H0.out];refine wpList_append_own _ rfl _ _ 101 rfl w0.heap.size 5 i0 (.int .u8 0) 1 1 Tryz.underlying101 hi hz0 hz1 hz2 rfl (by decide) _ _ _ rfl (hown.alloc _) ⟨w.heap.size+1,0,none⟩ 1 1 [.int .u8 (5)] rfl rfl ?_ ?_ ?_ ?_ ?_ ?_)
 all_goals (try (first | rfl |(unfold maxLen;omega) | omega |(simp [HS.out];omega) |(intro u hu;simp at hu;subst hu;rfl) |(rw [← HS.out];exact cell_one_new _ _ _) |(simp;done)))
 intro v1 w1 hown1 hgrow _
 have O1:=(O.alloc _).say (l':=l++[zb3 5 0]) hown1 hgrow (by simp) (by rw [zbd,zcj _ (zbt _)];rfl)
 have S1:=(S.alloc (.cells #[.int .u8 (5)] 5)).grown hgrow hne
 clear hgrow hown1 hown O S f0 H0
 go_wp2_with (first
  |((with_reducible refine zac (.tmp 3) w.heap.size S1 ?_ ?_ ?_ ?_);rfl;rfl;rfl)
  |(go_at_call 156;(with_reducible refine (zat 5 _ _ _ _ _ 174 rfl _).mono ?_);rintro e w2 ⟨rfl,hb2⟩;have O2:=O1.after hb2.is;have S2:=S1.below hb2.is;have f0:=S2.c0;have f1:=S2.c1;have f2:=S2.c2;have f3:=S2.c3;have f4:=S2.c4;have f5:=S2.c5;clear hb2 O1 S1)
  |(simp only [ze0,ze1,ze2,ze3,ze4,zhp,zhq,zhr,zhs,ze5,Result.andThen_ok])
  |(go_at_call 208;(with_reducible refine (hI.out _ _ _ O2 (by simp only [List.length_append,List.length_cons,List.length_nil];omega)).mono ?_);rintro e w3 ⟨v3,rfl,O3,hx3⟩;have S3:=S2.bx hx3;have f5:=S3.c5;clear f0 f1 f2 f3 f4 O2 S2))
 have HO:=Lib.hid O3
 clear O3 S3 f5 hI
 go_loopg [0,82] q.length (fun gg s0 s82 wr=>∃ j:Nat,j+gg=q.length∧s82=.int .i64 j∧OwnB w0 s0 (l++[zb3 5 0]++beB q.length 4++zar (q.take j)) wr)
 case atStart=>exact ⟨0,by omega,rfl,by simpa [zar] using HO.out⟩
 case round=>
  obtain ⟨j,hjg,rfl,OR⟩:=hrel
  by_cases hlt:(j:Int) < q.length
  ·have hj1:j < q.length:=by omega
   obtain ⟨k',b',m',t',x',q',p',cp',o⟩:=(zbk.at_ q off HH.out j hj1).opens
   have o1:=o.below OR.bel
   have c0:=o1.c0
   have c1:=o1.c1
   have c2:=o1.c2
   have c3:=o1.c3
   have c4:=o1.c4
   have c5:=o1.c5
   have S6:Six (wr.alloc (.cells #[.int .i64 k',.bool b',.int .i64 m',.string t',.string x',.slice p' q'.length cp'] 48)) wr.heap.size k' b' m' t' x' p' q'.length cp':=zaj _ rfl
   have hlen:(l++[zb3 5 0]++beB q.length 4++zar (q.take j)).length+13*wOne q[j]≤800000000:=by
    have h1:=zns q j hj1
    have h2:=zdu (q.take j)
    have h3:=HWT.out
    simp only [List.length_append,zbf,List.length_cons,List.length_nil]
    omega
   have hc:=HE.out q[j] (List.getElem_mem hj1) w0 _ u0 _ k' b' m' t' x' q' p' cp' o.e o.hf o.hl (OR.alloc (.cells #[.int .i64 k',.bool b',.int .i64 m',.string t',.string x',.slice p' q'.length cp'] 48)) hlen
   have he:zar (q.take (j+1))=zar (q.take j)++encP q[j]:=zi6 q j hj1
   have HEE:=Lib.hid he
   clear o o1 he hlen OR
   go_wp2_with (first
    |((with_reducible refine zaz (.tmp 84) g (off+j*6) k' b' m' t' x' (.slice p' q'.length cp') c0 c1 c2 c3 c4 c5 ?_ ?_ ?_ ?_);rfl;rfl;rfl)
    |((with_reducible refine zac (.tmp 6) wr.heap.size S6 ?_ ?_ ?_ ?_);rfl;rfl;rfl)
    |(go_at_call 166;(with_reducible refine hc.mono ?_);rintro e w3 ⟨v3,rfl,O7⟩))
   have O8:=Lib.hid O7
   clear O7 S6 hc c0 c1 c2 c3 c4 c5
   go_roundg (gk - 1)
   case measure=>omega
   case rel=>exact ⟨j+1,by omega,by go_num,by rw [HEE.out,← List.append_assoc];exact O8.out⟩
  ·have e:q.take j=q:=by rw [List.take_of_length_le];omega
   rw [e] at OR
   have HO:=Lib.hid OR
   clear OR
   go_wp2_with fail
   go_ret
   exact ⟨_,rfl,by unfold encP;simpa using HO.out⟩
theorem zv9 (w0 w:World) (A:Value) (l:List UInt8) (b:Bool) (n:Int) (t x:ByteArray) (p:Option Addr) (cap:Nat) (hf:Fine n t x 0) (h:OwnB w0 A l w) (hl:l.length≤800000000):
 Calls Tryz.prog 166 #[A,.agg #[.int .i64 5,.bool b,.int .i64 n,.string t,.string x,.slice p 0 cap]] w (zc5 w0 l (.mk 5 b n t x [])):=by
 obtain ⟨i0,hi,hz0,hz1,hz2⟩:=info_parts zfw
 obtain ⟨W0,hW0⟩:∃ W0,W0=w.alloc (.cells #[.int .i64 5,.bool b,.int .i64 n,.string t,.string x,.slice p 0 cap] 48):=⟨_,rfl⟩
 have S:Six W0 w.heap.size 5 b n t x p 0 cap:=by rw [hW0];exact zaj _ rfl
 have hne:=h.ne
 have O:OwnB w0 A l W0:=by rw [hW0];exact h.alloc _
 have hown:=O.own
 have f0:=S.c0
 have HS:Hid (W0.heap.size=w.heap.size+1):=Lib.hid (by rw [hW0];simp)
 have hlo:w0.heap.size≤w.heap.size:=h.lo
 have H0:=Lib.hid hW0
 have HF:=Lib.hid hf
 clear hW0 h hf
 have hI:∀ W A L,OwnB w0 A L W→L.length≤1000000000→Calls Tryz.prog 208 #[A,.int .u64 0,.int .i64 4] W fun e w'=>∃ A',e=.returned A'∧OwnB w0 A' (L++beB 0 4) w'∧Bx W w':=fun W A L hO hL=>by
  have hb:(0:Int) < 18446744073709551616:=by decide
  exact zdv w0 W A L 0 4 (by omega) (by omega) hb hO hL
 have hI:=Lib.hid hI
 go_enter Tryz.func166,Tryz.ntmps166
 go_wp2_with (at_builtin;rw [← H0.out];refine wpList_append_own _ rfl _ _ 101 rfl w0.heap.size 5 i0 (.int .u8 0) 1 1 Tryz.underlying101 hi hz0 hz1 hz2 rfl (by decide) _ _ _ rfl (hown.alloc _) ⟨w.heap.size+1,0,none⟩ 1 1 [.int .u8 (5)] rfl rfl ?_ ?_ ?_ ?_ ?_ ?_)
 all_goals (try (first | rfl |(unfold maxLen;omega) | omega |(simp [HS.out];omega) |(intro u hu;simp at hu;subst hu;rfl) |(rw [← HS.out];exact cell_one_new _ _ _) |(simp;done)))
 intro v1 w1 hown1 hgrow _
 have O1:=(O.alloc _).say (l':=l++[zb3 5 0]) hown1 hgrow (by simp) (by rw [zbd,zcj _ (zbt _)];rfl)
 have S1:=(S.alloc (.cells #[.int .u8 (5)] 5)).grown hgrow hne
 clear hgrow hown1 hown O S f0 H0
 go_wp2_with (first
  |((with_reducible refine zac (.tmp 3) w.heap.size S1 ?_ ?_ ?_ ?_);rfl;rfl;rfl)
  |(go_at_call 156;(with_reducible refine (zat 5 _ _ _ _ _ 174 rfl _).mono ?_);rintro e w2 ⟨rfl,hb2⟩;have O2:=O1.after hb2.is;have S2:=S1.below hb2.is;have f0:=S2.c0;have f1:=S2.c1;have f2:=S2.c2;have f3:=S2.c3;have f4:=S2.c4;have f5:=S2.c5;clear hb2 O1 S1)
  |(simp only [ze0,ze1,ze2,ze3,ze4,zhp,zhq,zhr,zhs,ze5,Result.andThen_ok])
  |(go_at_call 208;(with_reducible refine (hI.out _ _ _ O2 (by simp only [List.length_append,List.length_cons,List.length_nil];omega)).mono ?_);rintro e w3 ⟨v3,rfl,O3,hx3⟩;have S3:=S2.bx hx3;have f5:=S3.c5;clear f0 f1 f2 f3 f4 O2 S2))
 have HO:=Lib.hid O3
 clear O3 S3 f5 hI
 go_loopg [0,82] 0 (fun gg s0 s82 wr=>gg=0∧s82=.int .i64 0∧OwnB w0 s0 (l++[zb3 5 0]++beB 0 4) wr)
 case atStart=>exact ⟨rfl,rfl,by simpa using HO.out⟩
 case round=>
  obtain ⟨_,rfl,OR⟩:=hrel
  have HO:=Lib.hid OR
  clear OR
  go_wp2_with fail
  go_ret
  exact ⟨_,rfl,by unfold encP;simpa [zar] using HO.out⟩
theorem encStep (v:Val) (k:Int) (b:Bool) (n:Int) (t x:ByteArray) (q:List Val) (ev:v=.mk k b n t x q) (each:∀ u∈q,zyl u):zyl v:=by
 subst ev
 intro w0 w A l k1 b1 n1 t1 x1 q1 p cap e hf hl hO hw
 cases e
 have hw':=hw
 unfold wOne at hw'
 have hl8:l.length≤800000000:=by omega
 by_cases h0:k=0
 ·subst h0;exact encNull w0 w A l b n t x p q cap hf hO hl8
 by_cases h1:k=1
 ·subst h1
  cases b with
  | true=>exact zs8 w0 w A l n t x p q cap hf hO hl8
  | false=>exact zrh w0 w A l n t x p q cap hf hO hl8
 by_cases h2:k=2
 ·subst h2;exact z1o w0 w A l b n t x p q cap hf hO hl8
 by_cases h3:k=3
 ·subst h3;exact z1p w0 w A l b n t x p q cap hf hO hl8
 by_cases h4:k=4
 ·subst h4;exact encText w0 w A l b n t x p q cap hf hO hl8
 by_cases h5:k=5
 ·subst h5
  cases q with
  | nil=>exact zv9 w0 w A l b n t x p cap hf hO hl8
  | cons v r=>
    obtain ⟨g,off,rfl,hh⟩:=hl.form
    exact encList w0 w A l b n t x g off (v::r) cap hf hO hl8 hh (by omega) each
 by_cases h6:k=6
 ·subst h6;exact encNode w0 w A l b n t x p q cap hf hO hl8
 by_cases h7:k=7
 ·subst h7;exact encEdge w0 w A l b n t x p q cap hf hO hl8
 by_cases h8:k=8
 ·subst h8;exact encIri w0 w A l b n t x p q cap hf hO hl8
 by_cases h9:k=9
 ·subst h9;exact z1q w0 w A l b n t x p q cap hf hO hl8
 by_cases h10:k=10
 ·subst h10;exact encLit w0 w A l b n t x p q cap hf hO hl8
 exact zs7 w0 w A l k b n t x p q cap hf hO hl8 (by simp [zlm,h0,h1,h2,h3,h4,h5,h6,h7,h8,h9,h10])
mutual
theorem z3u:(v:Val)→zyl v
 | .mk k b n t x q=>encStep _ k b n t x q rfl (zym q)
theorem zym:(q:List Val)→∀ u∈q,zyl u
 | [],_,h=>absurd h (by simp)
 | v::r,u,h=>by
   rcases List.mem_cons.1 h with h | h
   ·rw [h];exact z3u v
   ·exact zym r u h
end
theorem z3v (s:ByteArray) (w:World) (hs:s.size≤maxLen):
 Calls Tryz.prog 155 #[.string s] w fun e w'=>e=.returned (.bool (zcs s))∧w=w':=by
 unfold maxLen at hs
 by_cases h0:s.size=0
 ·have hv:zcs s=false:=by
   unfold zcs
   rw [decide_eq_false_iff_not]
   omega
  rw [hv]
  go_enter Tryz.func155,Tryz.ntmps155
  go_wp2_with fail
  go_ret
  exact ⟨rfl,rfl⟩
 ·by_cases hbig:(1048576:Int) < s.size
  ·have hv:zcs s=false:=by
    unfold zcs
    rw [decide_eq_false_iff_not]
    omega
   have h1:¬ (s.size:Int) < 1:=by omega
   rw [hv]
   go_enter Tryz.func155,Tryz.ntmps155
   go_wp2_with fail
   go_ret
   exact ⟨rfl,rfl⟩
  ·have h1:¬ (s.size:Int) < 1:=by omega
   go_enter Tryz.func155,Tryz.ntmps155
   go_wp2_with fail
   go_loop [3] (fun i=>∃ k:Nat,k≤s.size∧i=.int .i64 k∧∀ j (h:j < s.size),j < k→zjd s[j]=true) (fun i=>s.size - (intOf i).toNat)
   case atStart=>exact ⟨0,Nat.zero_le _,rfl,fun j _ h=>absurd h (by omega)⟩
   case round=>
    obtain ⟨k,hk,rfl,hall⟩:=hrel
    have HA:=Lib.hid hall
    clear hall
    by_cases hlt:k < s.size
    ·by_cases h1:(s[k].toNat:Int)≤32
     ·go_wp2_with fail
      go_ret
      exact ⟨by rw [zln hlt (by simp [zjd];omega)];rfl,rfl⟩
     ·by_cases h2:(s[k].toNat:Int)=60
      ·go_wp2_with fail
       go_ret
       exact ⟨by rw [zln hlt (by simp [zjd];omega)];rfl,rfl⟩
      ·by_cases h3:(s[k].toNat:Int)=62
       ·go_wp2_with fail
        go_ret
        exact ⟨by rw [zln hlt (by simp [zjd];omega)];rfl,rfl⟩
       ·go_wp2_with fail
        go_round
        case rel=>exact ⟨k+1,by omega,by go_num,zf6 (p:=fun _=>zjd) hlt HA.out (by simp [zjd];omega)⟩
        case measure=>simp [intOf];omega
    ·go_wp2_with fail
     go_ret
     have hv:zcs s=true:=by
      unfold zcs
      rw [decide_eq_true_eq]
      exact ⟨by omega,by omega,fun j hj=>HA.out j hj (by omega)⟩
     exact ⟨by rw [hv];rfl,rfl⟩
theorem zyn (s:ByteArray) (w:World) (hs:s.size≤maxLen):
 Calls Tryz.prog 61 #[.string s] w fun e w'=>e=.returned (.bool (zcc s))∧w=w':=by
 unfold maxLen at hs
 by_cases h0:s.size=0
 ·have hv:zcc s=false:=by
   unfold zcc
   rw [decide_eq_false_iff_not]
   omega
  rw [hv]
  go_enter Tryz.func61,Tryz.ntmps61
  go_wp2_with fail
  go_ret
  exact ⟨rfl,rfl⟩
 have hpos:0 < s.size:=by omega
 have hlow:¬ (s.size:Int) < 1:=by omega
 by_cases hbig:(64:Int) < s.size
 ·have hv:zcc s=false:=by
   unfold zcc
   rw [decide_eq_false_iff_not]
   omega
  rw [hv]
  go_enter Tryz.func61,Tryz.ntmps61
  go_wp2_with fail
  go_ret
  exact ⟨rfl,rfl⟩
 by_cases hd:(48:Int)≤s[0].toNat∧(s[0].toNat:Int)≤57
 ·have hv:zcc s=false:=zi0 hpos (by simp [zed,zdi];omega)
  rw [hv]
  obtain ⟨d1,d2⟩:=hd
  go_enter Tryz.func61,Tryz.ntmps61
  go_wp2_with fail
  go_ret
  exact ⟨rfl,rfl⟩
 have HD:=Lib.hid hd
 have hdd:¬ (48:Int)≤s[0].toNat∨¬ (s[0].toNat:Int)≤57:=by omega
 clear hd
 rcases hdd with hdd | hdd
 all_goals
  go_enter Tryz.func61,Tryz.ntmps61
  go_wp2_with fail
  all_goals
   go_loop [3] (fun i=>∃ k:Nat,k≤s.size∧i=.int .i64 k∧∀ j (h:j < s.size),j < k→zed j s[j]=true) (fun i=>s.size - (intOf i).toNat)
   case atStart=>exact ⟨0,Nat.zero_le _,rfl,fun j _ h=>absurd h (by omega)⟩
   case round=>
    clear hdd
    obtain ⟨k,hk,rfl,hall⟩:=hrel
    have HA:=Lib.hid hall
    clear hall
    by_cases hlt:k < s.size
    ·by_cases a1:(97:Int)≤s[k].toNat
     ·by_cases a2:(s[k].toNat:Int)≤122
      ·go_wp2_with fail
       go_round
       case rel=>exact ⟨k+1,by omega,by go_num,zf6 (p:=zed) hlt HA.out (by simp [zed,zdi];omega)⟩
       case measure=>simp [intOf];omega
      ·have a3:(65:Int)≤s[k].toNat:=by omega
       have a4:¬ (s[k].toNat:Int)≤90:=by omega
       have a5:(48:Int)≤s[k].toNat:=by omega
       have a6:¬ (s[k].toNat:Int)≤57:=by omega
       have a7:¬ (s[k].toNat:Int)=95:=by omega
       have e7:((s[k].toNat:Int) == 95)=false:=by simpa using a7
       go_wp2_with fail
       go_ret
       exact ⟨by rw [zi0 hlt (by simp [zed,zdi,zf5];omega)];rfl,rfl⟩
     ·by_cases a3:(65:Int)≤s[k].toNat
      ·by_cases a4:(s[k].toNat:Int)≤90
       ·go_wp2_with fail
        go_round
        case rel=>exact ⟨k+1,by omega,by go_num,zf6 (p:=zed) hlt HA.out (by simp [zed,zdi];omega)⟩
        case measure=>simp [intOf];omega
       ·have a5:(48:Int)≤s[k].toNat:=by omega
        have a6:¬ (s[k].toNat:Int)≤57:=by omega
        by_cases a7:(s[k].toNat:Int)=95
        ·have e7:((s[k].toNat:Int) == 95)=true:=by simpa using a7
         go_wp2_with fail
         go_round
         case rel=>exact ⟨k+1,by omega,by go_num,zf6 (p:=zed) hlt HA.out (by simp [zed,zdi];omega)⟩
         case measure=>simp [intOf];omega
        ·have e7:((s[k].toNat:Int) == 95)=false:=by simpa using a7
         go_wp2_with fail
         go_ret
         exact ⟨by rw [zi0 hlt (by simp [zed,zdi,zf5];omega)];rfl,rfl⟩
      ·by_cases a5:(48:Int)≤s[k].toNat
       ·by_cases a6:(s[k].toNat:Int)≤57
        ·have hk0:k≠0:=by
          rintro rfl
          exact HD.out ⟨a5,a6⟩
         go_wp2_with fail
         go_round
         case rel=>exact ⟨k+1,by omega,by go_num,zf6 (p:=zed) hlt HA.out (by simp [zed,zf5,hk0];omega)⟩
         case measure=>simp [intOf];omega
        ·have a7:¬ (s[k].toNat:Int)=95:=by omega
         have e7:((s[k].toNat:Int) == 95)=false:=by simpa using a7
         go_wp2_with fail
         go_ret
         exact ⟨by rw [zi0 hlt (by simp [zed,zdi,zf5];omega)];rfl,rfl⟩
       ·have a7:¬ (s[k].toNat:Int)=95:=by omega
        have e7:((s[k].toNat:Int) == 95)=false:=by simpa using a7
        go_wp2_with fail
        go_ret
        exact ⟨by rw [zi0 hlt (by simp [zed,zdi,zf5];omega)];rfl,rfl⟩
    ·go_wp2_with fail
     go_ret
     have hv:zcc s=true:=by
      unfold zcc
      rw [decide_eq_true_eq]
      exact ⟨hpos,by omega,fun j hj=>HA.out j hj (by omega)⟩
     exact ⟨by rw [hv];rfl,rfl⟩
def Strs (w:World) (b off n:Nat) (S:Nat→ByteArray):Prop:=∀ i,i < n→w.cell? ⟨b,off+i,none⟩=some (.string (S i))
theorem Strs.below {w w':World} {b off n:Nat} {S:Nat→ByteArray} (h:Strs w b off n S) (k:Below w.heap.size w w'):Strs w' b off n S:=fun i hi=>
 (k.cell (p:=⟨b,off+i,none⟩) (World.block_lt_of_cell? w _ (h i hi))).trans (h i hi)
theorem chk_len {l:List UInt8} (h:chk l=true):l.length≤62:=by
 obtain ⟨n,a,b,hsp,ha,hb,la,lb,hw,_⟩:=zm6 l h
 unfold wr at hw
 simp only at hw
 split at hw
 ·cases hw
 ·rename_i hl
  have h1:(orN (Lib.trimLeftB a 48)).length≤40:=zp3 (by omega) (by omega)
  have h2:(orN (Lib.trimRightB b 48)).length≤20:=zp3 (by omega) (by omega)
  rw [← Option.some.inj hw]
  simp only [List.length_append,List.length_cons]
  split <;> simp <;> omega
structure Inv (w:World) (b off n cap:Nat) (S:Nat→ByteArray) (wr:World):Prop where
 cell:wr.cell? ⟨w.heap.size,0,none⟩=some (.slice (some ⟨b,off,none⟩) n cap)
 lt:w.heap.size < wr.heap.size
 bel:Low w.heap.size w wr
 g:Gd wr
 t:Tab wr
 s:Strs wr b off n S
def vT:Nat→(Nat→Nat)→Nat
 | 0,_=>0
 | n+1,f=>vT n f+f n*10 ^ n
theorem z1r (f:Nat→Nat) (h:∀ j,f j≤9):∀ n,vT n f < 10 ^ n
 | 0=>by simp [vT]
 | n+1=>by
   have:=z1r f h n
   have h2:f n*10 ^ n≤9*10 ^ n:=Nat.mul_le_mul_right _ (h n)
   show vT n f+f n*10 ^ n < 10 ^ (n+1)
   rw [Nat.pow_succ];omega
theorem vT_eq (f g:Nat→Nat):∀ n,(∀ j,j < n→f j=g j)→vT n f=vT n g
 | 0,_=>rfl
 | n+1,h=>by
   show vT n f+f n*10 ^ n=vT n g+g n*10 ^ n
   rw [vT_eq f g n (fun j hj=>h j (by omega)),h n (by omega)]
theorem z3w (f g:Nat→Nat) (hf:∀ j,f j≤9) (k:Nat) (hk:f k < g k):∀ n,k < n→(∀ j,k < j→j < n→f j=g j)→vT n f < vT n g
 | n+1,h,e=>by
   show vT n f+f n*10 ^ n < vT n g+g n*10 ^ n
   by_cases hn:k=n
   ·subst hn
    have h1:=z1r f hf k
    have h2:(f k+1)*10 ^ k≤g k*10 ^ k:=Nat.mul_le_mul_right _ hk
    rw [Nat.add_mul,Nat.one_mul] at h2
    omega
   ·have:=z3w f g hf k hk n (by omega) (fun j a b=>e j a (by omega))
    rw [e n (by omega) (by omega)]
    omega
theorem z3x (f:Nat→Nat) (n:Nat) (h:∀ j,n≤j→f j=0):∀ m,n≤m→vT m f=vT n f
 | 0,hm=>by rw [Nat.le_zero.1 hm]
 | m+1,hm=>by
   by_cases e:n=m+1
   ·rw [e]
   ·show vT m f+f m*10 ^ m=_
    rw [z3x f n h m (by omega),h m (by omega)];simp
def dig (ds:List Nat) (j:Nat):Nat:=ds.getD j 0
theorem zep {ds:List Nat} {j:Nat} (h:ds.length≤j):dig ds j=0:=by simp [dig,List.getD,h]
def za4 (ds:List Nat):Nat:=vT ds.length (dig ds)
def zcb (ds:List Nat):Prop:=∀ j,dig ds j≤9
theorem zdl (ds:List Nat) {m:Nat} (h:ds.length≤m):vT m (dig ds)=za4 ds:=z3x _ _ (fun _ hj=>zep hj) m h
def Ints (w:World) (v:Value) (ds:List Nat):Prop:=
 (v=.slice none 0 0∧ds=[])∨∃ b off cap,v=.slice (some ⟨b,off,none⟩) ds.length cap∧(∀ i,i < ds.length→w.cell? ⟨b,off+i,none⟩=some (.int .i64 (dig ds i)))∧∃ cs,w.heap[b]?=some (.cells cs 3 (0,0))
theorem Ints.below {w w':World} {v:Value} {ds:List Nat} (h:Ints w v ds) (k:Below w.heap.size w w'):Ints w' v ds:=by
 rcases h with h | ⟨b,off,cap,e,hc,cs,hk⟩
 ·exact .inl h
 ·exact .inr ⟨b,off,cap,e,fun i hi=>(k.cell (p:=⟨b,off+i,none⟩) (World.block_lt_of_cell? w _ (hc i hi))).trans (hc i hi),cs,(k.block b (zaa hk)).trans hk⟩
theorem Ints.only {w w':World} {v:Value} {ds:List Nat} {g:Nat} {cs:Array Value} {t:TypeId} (h:Ints w v ds) (k:Only g w w') (hg:w.heap[g]?=some (.cells cs t (0,0))) (ht:t≠3):Ints w' v ds:=by
 rcases h with h | ⟨b,off,cap,e,hc,cs2,hk⟩
 ·exact .inl h
 ·have hne:b≠g:=fun x=>by
   rw [x,hg] at hk
   injection hk with hk
   injection hk with _ h2 _
   exact ht h2
  have hb:=(k.block b (zaa hk) hne)
  exact .inr ⟨b,off,cap,e,fun i hi=>(World.cell?_of_block (w:=w) (a:=⟨b,off+i,none⟩) hb).trans (hc i hi),cs2,hb.trans hk⟩
theorem zpb (c:Nat) (w:World) (hc:c < 256):Calls Tryz.prog 247 #[.int .u8 c] w fun e w'=>e=.returned (.bool (decide (48≤c∧c≤57)))∧w=w':=by
 by_cases h1:(48:Int)≤c
 ·by_cases h2:(c:Int)≤57
  ·have:decide (48≤c∧c≤57)=true:=by simp;omega
   rw [this]
   go_enter Tryz.func247,Tryz.ntmps247
   go_wp2
   go_ret
   exact ⟨rfl,rfl⟩
  ·have:decide (48≤c∧c≤57)=false:=by simp;omega
   rw [this]
   go_enter Tryz.func247,Tryz.ntmps247
   go_wp2
   go_ret
   exact ⟨by simp,rfl⟩
 ·have:decide (48≤c∧c≤57)=false:=by simp;omega
  rw [this]
  go_enter Tryz.func247,Tryz.ntmps247
  go_wp2
  go_ret
  exact ⟨by simp,rfl⟩
def dgI (ds:List Nat) (i:Int):Nat:=if i < 0 then 0 else dig ds i.toNat
theorem refAt (v:Value) (ds:List Nat) (i:Int) (w:World) (h:Ints w v ds):Calls Tryz.prog 248 #[v,.int .i64 i] w fun e w'=>e=.returned (.int .i64 (dgI ds i))∧w=w':=by
 unfold dgI
 by_cases h0:i < 0
 ·rw [if_pos h0]
  rcases h with ⟨rfl,rfl⟩ | ⟨b,off,cap,rfl,hc,hty⟩
  ·go_enter Tryz.func248,Tryz.ntmps248
   go_wp2
   go_ret
   exact ⟨rfl,rfl⟩
  ·clear hc
   go_enter Tryz.func248,Tryz.ntmps248
   go_wp2
   go_ret
   exact ⟨rfl,rfl⟩
 ·rw [if_neg h0]
  obtain ⟨k,rfl⟩:=Int.eq_ofNat_of_zero_le (Int.not_lt.1 h0)
  rw [show ((k:Int)).toNat=k by omega]
  rcases h with ⟨rfl,rfl⟩ | ⟨b,off,cap,rfl,hc,hty⟩
  ·rw [zep (by simp)]
   have hk:(k:Int) ≥ 0:=by omega
   go_enter Tryz.func248,Tryz.ntmps248
   go_wp2
   go_ret
   exact ⟨rfl,rfl⟩
  ·by_cases hl:(ds.length:Int)≤k
   ·rw [zep (by omega)]
    clear hc
    generalize ds.length=n at*
    go_enter Tryz.func248,Tryz.ntmps248
    go_wp2
    go_ret
    exact ⟨rfl,rfl⟩
   ·have c1:=hc k (by omega)
    clear hc
    generalize dig ds k=x at*
    generalize ds.length=n at*
    go_enter Tryz.func248,Tryz.ntmps248
    go_wp2
    go_ret
    exact ⟨rfl,rfl⟩
theorem zwa (ds:List Nat):za4 ds=0↔∀ j,j < ds.length→dig ds j=0:=by
 unfold za4
 generalize dig ds=f
 generalize ds.length=n
 induction n with
 | zero=>simp [vT]
 | succ n ih=>
   show vT n f+f n*10 ^ n=0↔_
   have hp:0 < 10 ^ n:=Nat.pow_pos (show 0 < 10 by decide)
   constructor
   ·intro h j hj
    have h1:vT n f=0:=by omega
    have h2:f n*10 ^ n=0:=by omega
    rcases Nat.lt_or_ge j n with h3 | h3
    ·exact ih.1 h1 j h3
    ·obtain rfl:j=n:=by omega
     rcases Nat.mul_eq_zero.1 h2 with h4 | h4
     ·exact h4
     ·omega
   ·intro h
    rw [ih.2 (fun j hj=>h j (by omega)),h n (by omega)];simp
theorem znt (v:Value) (ds:List Nat) (w:World) (h:Ints w v ds) (hn:ds.length≤9223372036854775807) (d:Bool) (hd:d=decide (za4 ds=0)):Calls Tryz.prog 215 #[v] w fun e w'=>e=.returned (.bool d)∧w=w':=by
 rcases h with ⟨rfl,rfl⟩ | ⟨b,off,cap,rfl,hc,hty⟩
 ·obtain rfl:d=true:=by rw [hd];rfl
  clear hd
  go_enter Tryz.func215,Tryz.ntmps215
  go_wp2_with fail
  go_loopg [3] 0 (fun gg s3 wr=>gg=0∧s3=.int .i64 0∧wr=w)
  case atStart=>exact ⟨rfl,rfl,rfl⟩
  case round=>
   obtain ⟨_,rfl,rfl⟩:=hrel
   go_wp2
   go_ret
   exact ⟨rfl,rfl⟩
 ·have hz:=zwa ds
  have HZ:=Lib.hid hz
  have HD:=Lib.hid hd
  clear hz hd
  go_enter Tryz.func215,Tryz.ntmps215
  go_wp2_with fail
  go_loopg [3] ds.length (fun gg s3 wr=>∃ i:Nat,i+gg=ds.length∧s3=.int .i64 i∧wr=w∧Aside (∀ j,j < i→dig ds j=0))
  case atStart=>exact ⟨0,by omega,rfl,rfl,fun j hj=>absurd hj (Nat.not_lt_zero j)⟩
  case round=>
   obtain ⟨i,hi,rfl,rfl,hall⟩:=hrel
   have HA:=Lib.hid hall.out
   clear hall
   by_cases hlt:(i:Int) < ds.length
   ·have c1:=hc i (by omega)
    by_cases hx:dig ds i=0
    ·rw [hx] at c1
     have hall2:∀ j,j < i+1→dig ds j=0:=fun j hj=>by
      rcases Nat.lt_or_ge j i with h3 | h3
      ·exact HA.out j h3
      ·rw [show j=i by omega];exact hx
     have HA2:=Lib.hid hall2
     clear hall2 HA hc hx
     generalize ds.length=n at*
     go_wp2_with fail
     go_roundg (gk - 1)
     case measure=>omega
     case rel=>exact ⟨i+1,by omega,by go_num,rfl,HA2.out⟩
    ·obtain rfl:d=false:=by
      rw [HD.out]
      have:=mt HZ.out.1 (fun h=>hx (h i (by omega)))
      simp [this]
     have hx1:¬ (dig ds i:Int)=0:=by omega
     clear hc HA hx HD HZ
     generalize dig ds i=x at*
     generalize ds.length=n at*
     go_wp2_with fail
     go_ret
     exact ⟨rfl,rfl⟩
   ·obtain rfl:d=true:=by
     rw [HD.out]
     have:=HZ.out.2 (fun j hj=>HA.out j (by omega))
     simp [this]
    clear hc HA HD HZ
    generalize ds.length=n at*
    go_wp2_with fail
    go_ret
    exact ⟨rfl,rfl⟩
def zyo (xs ys:List Nat) (i:Int):Prop:=∀ j:Nat,i < j→dig xs j=dig ys j
theorem dgI_nat (ds:List Nat) (k:Nat):dgI ds k=dig ds k:=by unfold dgI;rw [if_neg (by omega)];congr 1
theorem z1s {xs ys:List Nat} {i:Int} (h:zyo xs ys i) (hi:i < 0):cmpZ (za4 xs) (za4 ys)=0:=by
 rw [zq7]
 have e:vT (xs.length+ys.length) (dig xs)=vT (xs.length+ys.length) (dig ys):=vT_eq _ _ _ (fun j _=>h j (by omega))
 rw [zdl xs (by omega),zdl ys (by omega)] at e
 rw [e]
theorem zum {xs ys:List Nat} {k:Nat} (hx:zcb xs) (h:zyo xs ys k) (hk:dig xs k < dig ys k):cmpZ (za4 xs) (za4 ys)=-1:=by
 have e:=z3w (dig xs) (dig ys) hx k hk (xs.length+ys.length+k+1) (by omega) (fun j a _=>h j (by omega))
 rw [zdl xs (by omega),zdl ys (by omega)] at e
 unfold cmpZ;rw [if_pos (by omega)]
theorem z1t {xs ys:List Nat} {k:Nat} (hy:zcb ys) (h:zyo xs ys k) (hk:dig ys k < dig xs k):cmpZ (za4 xs) (za4 ys)=1:=by
 have:=zum (xs:=ys) (ys:=xs) hy (fun j a=>(h j a).symm) hk
 rw [zec] at this
 omega
theorem zd1 (v:Value) (ds:List Nat) (k:Nat) (x:Nat) (w:World) (h:Ints w v ds) (hx:Hid (x=dig ds k)):Calls Tryz.prog 248 #[v,.int .i64 k] w fun e w'=>e=.returned (.int .i64 x)∧w=w':=
 (refAt v ds k w h).mono fun _ _ ⟨h1,h2⟩=>⟨by rw [h1,dgI_nat,hx.out],h2⟩
theorem Ints.form {w:World} {v:Value} {ds:List Nat} (h:Ints w v ds):∃ p cap,v=.slice p ds.length cap:=by
 rcases h with ⟨rfl,rfl⟩ | ⟨b,off,cap,rfl,_,_⟩
 ·exact ⟨_,_,rfl⟩
 ·exact ⟨_,_,rfl⟩
theorem zpc (u v:Value) (xs ys:List Nat) (w:World) (hu:Ints w u xs) (hv:Ints w v ys) (hx:zcb xs) (hy:zcb ys) (lx:xs.length≤4611686018427387903) (ly:ys.length≤4611686018427387903) (r:Int) (hr:r=cmpZ (za4 xs) (za4 ys)):
 Calls Tryz.prog 245 #[u,v] w fun e w'=>e=.returned (.int .i64 r)∧w=w':=by
 obtain ⟨p,cap,eu⟩:=hu.form
 obtain ⟨p2,cap2,ev⟩:=hv.form
 have HU:=Lib.hid hu
 have HV:=Lib.hid hv
 have HR:=Lib.hid hr
 have HX:=Lib.hid hx
 have HY:=Lib.hid hy
 clear hu hv hr hx hy
 obtain ⟨n,hn⟩:∃ n,n=xs.length:=⟨_,rfl⟩
 obtain ⟨m,hm⟩:∃ m,m=ys.length:=⟨_,rfl⟩
 rw [← hn] at eu lx
 rw [← hm] at ev ly
 subst eu
 subst ev
 have HN:=Lib.hid (And.intro hn hm)
 clear hn hm
 go_enter Tryz.func245,Tryz.ntmps245
 go_wp2_with fail
 go_loopg [5] (n+m+1) (fun gg s5 wr=>∃ i:Int,i+1=gg∧i≤n+m∧s5=.int .i64 i∧wr=w∧Aside (zyo xs ys i))
 case atStart=>exact ⟨(n:Int)+m,by omega,by omega,by go_num,rfl,fun j hj=>by rw [zep (by have:=HN.out;omega),zep (by have:=HN.out;omega)]⟩
 case round=>
  obtain ⟨i,hi,hb,rfl,rfl,hall⟩:=hrel
  have HA:=Lib.hid hall.out
  clear hall
  by_cases h0:i ≥ 0
  ·obtain ⟨k,rfl⟩:=Int.eq_ofNat_of_zero_le h0
   obtain ⟨x,hx⟩:∃ x,x=dig xs k:=⟨_,rfl⟩
   obtain ⟨y,hy⟩:∃ y,y=dig ys k:=⟨_,rfl⟩
   have K1:=Lib.hid hx
   have K2:=Lib.hid hy
   rcases Nat.lt_trichotomy x y with h | h | h
   ·obtain rfl:r=-1:=by rw [HR.out,zum HX.out HA.out (by rw [← hx,← hy];exact h)]
    have h1:((x:Int) == (y:Int))=false:=by simp;omega
    have h2:(x:Int) < y:=by omega
    clear hx hy h HA HR
    go_wp2_with (first
     |(go_at_call 248;(with_reducible refine (zd1 _ xs k x _ HU.out K1).mono ?_);rintro e w' ⟨rfl,rfl⟩)
     |(go_at_call 248;(with_reducible refine (zd1 _ ys k y _ HV.out K2).mono ?_);rintro e w' ⟨rfl,rfl⟩))
    go_ret
    exact ⟨rfl,rfl⟩
   ·have hall2:zyo xs ys ((k:Int) - 1):=fun j hj=>by
     by_cases e:j=k
     ·rw [e,← hx,← hy,h]
     ·exact HA.out j (by omega)
    have HA2:=Lib.hid hall2
    subst h
    clear hx hy hall2 HA
    go_wp2_with (first
     |(go_at_call 248;(with_reducible refine (zd1 _ xs k x _ HU.out K1).mono ?_);rintro e w' ⟨rfl,rfl⟩)
     |(go_at_call 248;(with_reducible refine (zd1 _ ys k x _ HV.out K2).mono ?_);rintro e w' ⟨rfl,rfl⟩))
    go_roundg (gk - 1)
    case measure=>omega
    case rel=>exact ⟨(k:Int) - 1,by omega,by omega,by go_num,rfl,HA2.out⟩
   ·obtain rfl:r=1:=by rw [HR.out,z1t HY.out HA.out (by rw [← hx,← hy];exact h)]
    have h1:((x:Int) == (y:Int))=false:=by simp;omega
    have h2:¬ (x:Int) < y:=by omega
    clear hx hy h HA HR
    go_wp2_with (first
     |(go_at_call 248;(with_reducible refine (zd1 _ xs k x _ HU.out K1).mono ?_);rintro e w' ⟨rfl,rfl⟩)
     |(go_at_call 248;(with_reducible refine (zd1 _ ys k y _ HV.out K2).mono ?_);rintro e w' ⟨rfl,rfl⟩))
    go_ret
    exact ⟨rfl,rfl⟩
  ·obtain rfl:r=0:=by rw [HR.out,z1s HA.out (by omega)]
   clear HA HR
   go_wp2_with fail
   go_ret
   exact ⟨rfl,rfl⟩
theorem z1u:(Tryz.prog.info? 3).map (fun i=>(i.zero,i.size,i.bytes))=some (some (.int .i64 0),1,8):=by kernel_rfl
def zax (ds:List Nat):List Value:=ds.map fun (d:Nat)=>Value.int .i64 (d:Int)
theorem znu (ds:List Nat):(zax ds).length=ds.length:=by simp [zax]
theorem zpd {ds:List Nat} {d j:Nat} (h:j < ds.length):dig (ds++[d]) j=dig ds j:=by
 simp [dig,List.getD,List.getElem?_append_left h]
theorem zpe (ds:List Nat) (d:Nat):dig (ds++[d]) ds.length=d:=by
 simp [dig,List.getD]
theorem znv {ds:List Nat} {d:Nat} (h:zcb ds) (hd:d≤9):zcb (ds++[d]):=by
 intro j
 rcases Nat.lt_trichotomy j ds.length with k | k | k
 ·rw [zpd k];exact h j
 ·rw [k,zpe];exact hd
 ·rw [zep (by simp;omega)];omega
theorem zyp (ds:List Nat) (d:Nat):vT (ds.length+1) (dig (ds++[d]))=vT ds.length (dig ds)+d*10 ^ ds.length:=by
 show vT ds.length (dig (ds++[d]))+dig (ds++[d]) ds.length*10 ^ ds.length=_
 rw [vT_eq (dig (ds++[d])) (dig ds) ds.length (fun j hj=>zpd hj),zpe]
theorem zde {w:World} {base n:Nat} {v:Value} {ds:List Nat} (h:w.ownsRow base 3 1 v n (zax ds)) (hn:n=ds.length):Ints w v ds:=by
 subst hn
 rcases h.2 with ⟨e,h0⟩ | ⟨g,cap,cur,e,_,hk,_⟩
 ·exact .inl ⟨e,List.length_eq_zero_iff.1 h0⟩
 ·refine .inr ⟨g,0,cap,e,fun i hi=>?_,cur,hk⟩
  subst e
  have:=h.cellAt i (by omega)
  rw [Nat.zero_add,this]
  unfold zax dig
  rw [List.getElem?_map,List.getElem?_eq_getElem hi]
  simp [List.getD,hi]
structure zol (xs ys:List Nat) (i c:Nat) (zs:List Nat):Prop where
 len:zs.length=i
 small:zcb zs
 car:c≤1
 val:vT i (dig zs)+c*10 ^ i=vT i (dig xs)+vT i (dig ys)
 done:xs.length < i→ys.length < i→c=0
theorem zol.start (xs ys:List Nat):zol xs ys 0 0 []:=⟨rfl,fun j=>by simp [dig],by omega,rfl,fun h=>absurd h (by omega)⟩
theorem zol.step {xs ys zs:List Nat} {i c n:Nat} (h:zol xs ys i c zs) (hx:zcb xs) (hy:zcb ys) (hn:n=dig xs i+dig ys i+c):zol xs ys (i+1) (n / 10) (zs++[n % 10]):=by
 have h1:=hx i
 have h2:=hy i
 have h3:=h.car
 refine ⟨by simp [h.len],znv h.small (by omega),by omega,?_,?_⟩
 ·have e:=zyp zs (n % 10)
  rw [h.len] at e
  rw [e]
  show _=(vT i (dig xs)+dig xs i*10 ^ i)+(vT i (dig ys)+dig ys i*10 ^ i)
  have v:=h.val
  rw [Nat.pow_succ]
  have e2:n / 10*(10 ^ i*10)=(n / 10*10)*10 ^ i:=by rw [Nat.mul_comm (10 ^ i) 10,Nat.mul_assoc]
  have e3:(n % 10)*10 ^ i+(n / 10*10)*10 ^ i=n*10 ^ i:=by rw [← Nat.add_mul];congr 1;omega
  have e4:n*10 ^ i=dig xs i*10 ^ i+dig ys i*10 ^ i+c*10 ^ i:=by rw [hn,Nat.add_mul,Nat.add_mul]
  omega
 ·intro a b
  have d1:=zep (ds:=xs) (j:=i) (by omega)
  have d2:=zep (ds:=ys) (j:=i) (by omega)
  omega
theorem zol.all {xs ys zs:List Nat} {i:Nat} (h:zol xs ys i 0 zs) (hx:xs.length≤i) (hy:ys.length≤i):za4 zs=za4 xs+za4 ys:=by
 have v:=h.val
 rw [zdl xs hx,zdl ys hy] at v
 unfold za4
 rw [h.len]
 unfold za4 at v
 omega
theorem refAdd (u v:Value) (xs ys:List Nat) (w:World) (hu:Ints w u xs) (hv:Ints w v ys) (hx:zcb xs) (hy:zcb ys) (lx:xs.length≤1000000000) (ly:ys.length≤1000000000):
 Calls Tryz.prog 244 #[u,v] w fun e w'=>∃ z zs,e=.returned z∧Ints w' z zs∧zcb zs∧Aside (za4 zs=za4 xs+za4 ys)∧zs.length≤xs.length+ys.length+1∧Below w.heap.size w w':=by
 obtain ⟨i0,hi,hz0,hz1,hz2⟩:=info_parts z1u
 obtain ⟨p,cap,eu⟩:=hu.form
 obtain ⟨p2,cap2,ev⟩:=hv.form
 have HU:=Lib.hid hu
 have HV:=Lib.hid hv
 have HX:=Lib.hid hx
 have HY:=Lib.hid hy
 clear hu hv hx hy
 obtain ⟨n,hn⟩:∃ n,n=xs.length:=⟨_,rfl⟩
 obtain ⟨m,hm⟩:∃ m,m=ys.length:=⟨_,rfl⟩
 rw [← hn] at eu lx
 rw [← hm] at ev ly
 subst eu
 subst ev
 have HN:=Lib.hid (And.intro hn hm)
 rw [← hn,← hm]
 clear hn hm
 go_enter Tryz.func244,Tryz.ntmps244
 go_wp2_with fail
 go_loopg [5,6,7] (n+m+1) (fun gg s5 s6 s7 wr=>∃ (i c:Nat) (zs:List Nat),i+gg=n+m+1∧s6=.int .i64 c∧s7=.int .i64 i∧c≤1∧wr.ownsRow w.heap.size 3 1 s5 i (zax zs)∧Hid (zol xs ys i c zs)∧Below w.heap.size w wr)
 case atStart=>exact ⟨0,0,[],by omega,rfl,rfl,by omega,World.ownsRow_nil _ _ _ _,Lib.hid (zol.start xs ys),Below.refl _ _⟩
 case round=>
  obtain ⟨i,c,zs,hig,rfl,rfl,hc1,hown,HA,hbel⟩:=hrel
  have hsm:=HA.out
  have hx9:=HX.out i
  have hy9:=HY.out i
  obtain ⟨x,hx⟩:∃ x,x=dig xs i:=⟨_,rfl⟩
  obtain ⟨y,hy⟩:∃ y,y=dig ys i:=⟨_,rfl⟩
  rw [← hx] at hx9
  rw [← hy] at hy9
  obtain ⟨t,ht⟩:∃ t,t=x+y+c:=⟨_,rfl⟩
  have ht1:(x:Int)+y+c=t:=by omega
  have ht2:t≤19:=by omega
  have HS:Hid (zol xs ys (i+1) (t / 10) (zs++[t % 10])):=Lib.hid (hsm.step HX.out HY.out (by rw [ht,hx,hy]))
  have K1:=Lib.hid hx
  have K2:=Lib.hid hy
  have U1:=Lib.hid (HU.out.below hbel)
  have V1:=Lib.hid (HV.out.below hbel)
  have hdone:(c:Int) > 0→i≤n+m:=fun hc=>by
   have:=hsm.done
   have hN:=HN.out
   omega
  clear hx hy ht hsm
  by_cases h1:(i:Int) < n
  ·go_wp2_with (first
    |(go_at_call 248;(with_reducible refine (zd1 _ xs i x _ U1.out K1).mono ?_);rintro e w' ⟨rfl,rfl⟩)
    |(go_at_call 248;(with_reducible refine (zd1 _ ys i y _ V1.out K2).mono ?_);rintro e w' ⟨rfl,rfl⟩)
    |(at_builtin;refine wpList_append_own _ rfl _ _ 26 rfl w.heap.size 3 i0 (.int .i64 0) 1 8 Tryz.underlying26 hi hz0 hz1 hz2 rfl (by decide) _ _ _ rfl (hown.alloc _) ⟨wr.heap.size,0,none⟩ 1 1 [.int .i64 ((t:Int) % 10)] rfl rfl ?_ ?_ ?_ ?_ ?_ ?_))
   ·intro j u hj
    match j,hj with
    | 0,hj=>simp at hj;subst hj;simp [Addr.add]
   ·intro u hu;simp at hu;subst hu;rfl
   ·unfold maxLen;omega
   ·omega
   ·have:=hbel.size;simp;omega
   ·intro v' w1 hown' hgrow _
    have hb':Below w.heap.size w w1:=(hbel.alloc hbel.size _).grown hgrow (by have:=hbel.size;simp;omega) (fun k hk=>(hown.lt k hk).1)
    have hown2:w1.ownsRow w.heap.size 3 1 v' (i+1) (zax (zs++[t % 10])):=by
     unfold zax at hown' ⊢
     simpa using hown'
    clear hown' hgrow hown
    go_wp2_with fail
    go_roundg (gk - 1)
    case measure=>omega
    case rel=>exact ⟨i+1,t / 10,zs++[t % 10],by omega,by go_num,by go_num,by omega,hown2,HS,hb'⟩
  ·by_cases h2:(i:Int) < m
   ·go_wp2_with (first
     |(go_at_call 248;(with_reducible refine (zd1 _ xs i x _ U1.out K1).mono ?_);rintro e w' ⟨rfl,rfl⟩)
     |(go_at_call 248;(with_reducible refine (zd1 _ ys i y _ V1.out K2).mono ?_);rintro e w' ⟨rfl,rfl⟩)
     |(at_builtin;refine wpList_append_own _ rfl _ _ 26 rfl w.heap.size 3 i0 (.int .i64 0) 1 8 Tryz.underlying26 hi hz0 hz1 hz2 rfl (by decide) _ _ _ rfl (hown.alloc _) ⟨wr.heap.size,0,none⟩ 1 1 [.int .i64 ((t:Int) % 10)] rfl rfl ?_ ?_ ?_ ?_ ?_ ?_))
    ·intro j u hj
     match j,hj with
     | 0,hj=>simp at hj;subst hj;simp [Addr.add]
    ·intro u hu;simp at hu;subst hu;rfl
    ·unfold maxLen;omega
    ·omega
    ·have:=hbel.size;simp;omega
    ·intro v' w1 hown' hgrow _
     have hb':Below w.heap.size w w1:=(hbel.alloc hbel.size _).grown hgrow (by have:=hbel.size;simp;omega) (fun k hk=>(hown.lt k hk).1)
     have hown2:w1.ownsRow w.heap.size 3 1 v' (i+1) (zax (zs++[t % 10])):=by
      unfold zax at hown' ⊢
      simpa using hown'
     clear hown' hgrow hown
     go_wp2_with fail
     go_roundg (gk - 1)
     case measure=>omega
     case rel=>exact ⟨i+1,t / 10,zs++[t % 10],by omega,by go_num,by go_num,by omega,hown2,HS,hb'⟩
   ·by_cases h3:(c:Int) > 0
    ·go_wp2_with (first
      |(go_at_call 248;(with_reducible refine (zd1 _ xs i x _ U1.out K1).mono ?_);rintro e w' ⟨rfl,rfl⟩)
      |(go_at_call 248;(with_reducible refine (zd1 _ ys i y _ V1.out K2).mono ?_);rintro e w' ⟨rfl,rfl⟩)
      |(at_builtin;refine wpList_append_own _ rfl _ _ 26 rfl w.heap.size 3 i0 (.int .i64 0) 1 8 Tryz.underlying26 hi hz0 hz1 hz2 rfl (by decide) _ _ _ rfl (hown.alloc _) ⟨wr.heap.size,0,none⟩ 1 1 [.int .i64 ((t:Int) % 10)] rfl rfl ?_ ?_ ?_ ?_ ?_ ?_))
     ·intro j u hj
      match j,hj with
      | 0,hj=>simp at hj;subst hj;simp [Addr.add]
     ·intro u hu;simp at hu;subst hu;rfl
     ·unfold maxLen;omega
     ·omega
     ·have:=hbel.size;simp;omega
     ·intro v' w1 hown' hgrow _
      have hb':Below w.heap.size w w1:=(hbel.alloc hbel.size _).grown hgrow (by have:=hbel.size;simp;omega) (fun k hk=>(hown.lt k hk).1)
      have hown2:w1.ownsRow w.heap.size 3 1 v' (i+1) (zax (zs++[t % 10])):=by
       unfold zax at hown' ⊢
       simpa using hown'
      clear hown' hgrow hown
      go_wp2_with fail
      go_roundg (gk - 1)
      case measure=>omega
      case rel=>exact ⟨i+1,t / 10,zs++[t % 10],by omega,by go_num,by go_num,by omega,hown2,HS,hb'⟩
    ·obtain rfl:c=0:=by omega
     have hz:=zde hown (HA.out.len.symm)
     have hval:Aside (za4 zs=za4 xs+za4 ys):=HA.out.all (by have:=HN.out;omega) (by have:=HN.out;omega)
     have hlen:zs.length≤n+m+1:=by have:=HA.out.len;omega
     have hsmall:=HA.out.small
     clear HS K1 K2 hown
     go_wp2_with fail
     go_ret
     exact ⟨_,rfl,zs,hz,hsmall,hval,hlen,hbel⟩
end Go.Proofs.YteclpnfckjfibaaGreatDoor
