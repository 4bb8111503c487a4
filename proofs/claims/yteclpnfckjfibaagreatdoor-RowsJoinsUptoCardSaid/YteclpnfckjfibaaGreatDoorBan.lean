/- Texts of one kind, one behind the other: each says ahead of itself what it shows. -/
import Derived.Test.YteclpnfckjfibaaGreatDoorBam
import Derived.Test.YteclpnfckjfibaaGreatDoorBae
import Derived.Deep.LoopGhost
/- XB -/
namespace Go.Proofs.YteclpnfckjfibaaGreatDoor
open Go.RowKit
theorem zbr (n:Int):((zb4 n 0).toNat:Int)=n % 256:=by
 rw [zfm]
 simp
theorem strange {k:Int} (h:zm2 k=200):k≠0∧k≠1∧k≠2∧k≠3∧k≠4∧k≠5∧k≠6∧k≠7∧k≠8∧k≠9∧k≠10:=by
 refine ⟨?_,?_,?_,?_,?_,?_,?_,?_,?_,?_,?_⟩ <;> (rintro rfl;revert h;decide)
theorem wrapU (n:Int):IntKind.u64.wrap n=n % 18446744073709551616:=rfl
def zc0 (w0:World) (l:List UInt8) (v:Val) (e:Ending) (w':World):Prop:=∃ A',e=.returned A'∧OwnB w0 A' (l++encP v) w'
set_option maxRecDepth 20000 in
set_option maxHeartbeats 6400000 in
theorem encNull (w0 w:World) (A:Value) (l:List UInt8) (b:Bool) (n:Int) (t x:ByteArray) (p:Option Addr) (q:List Val) (cap:Nat) (hf:Fine n t x q.length) (h:OwnB w0 A l w) (hl:l.length≤800000000):
 Calls Tryz.prog 166 #[A,.agg #[.int .i64 0,.bool b,.int .i64 n,.string t,.string x,.slice p q.length cap]] w (zc0 w0 l (.mk 0 b n t x q)):=by
 obtain ⟨i0,hi,hz0,hz1,hz2⟩:=info_parts ze2
 obtain ⟨W0,hW0⟩:∃ W0,W0=w.alloc (.cells #[.int .i64 0,.bool b,.int .i64 n,.string t,.string x,.slice p q.length cap] 48):=⟨_,rfl⟩
 have S:Six W0 w.heap.size 0 b n t x p q.length cap:=by rw [hW0];exact zak _ rfl
 have hne:=h.ne
 have O:OwnB w0 A l W0:=by rw [hW0];exact h.alloc _
 have hown:=O.own
 have f0:=S.c0
 have HS:Hid (W0.heap.size=w.heap.size+1):=Lib.hid (by rw [hW0];simp)
 have hlo:w0.heap.size≤w.heap.size:=h.lo
 have H0:=Lib.hid hW0
 have HF:=Lib.hid hf
 clear hW0 h hf
 go_enter Tryz.func166,Tryz.ntmps166
 go_wp2_with (at_builtin;rw [← H0.out];refine wpList_append_own _ rfl _ _ 101 rfl w0.heap.size 5 i0 (.int .u8 0) 1 1 Tryz.underlying101 hi hz0 hz1 hz2 rfl (by decide) _ _ _ rfl (hown.alloc _) ⟨w.heap.size+1,0,none⟩ 1 1 [.int .u8 (0)] rfl rfl ?_ ?_ ?_ ?_ ?_ ?_)
 all_goals (try (first | rfl |(unfold maxLen;omega) | omega |(simp [HS.out];omega) |(intro u hu;simp at hu;subst hu;rfl) |(rw [← HS.out];exact cell_one_new _ _ _) |(simp;done)))
 intro v1 w1 hown1 hgrow _
 have O1:=(O.alloc _).say (l':=l++[zb4 0 0]) hown1 hgrow (by simp) (by rw [zbb,zci _ (zbr _)];rfl)
 have S1:=(S.alloc (.cells #[.int .u8 (0)] 5)).grown hgrow hne
 clear hgrow hown1 hown O S f0 H0
 go_wp2_with (first
  |((with_reducible refine zaj (.tmp 3) w.heap.size S1 ?_ ?_ ?_ ?_);rfl;rfl;rfl)
  |(go_at_call 156;(with_reducible refine (za5 0 _ _ _ _ _ 164 rfl _).mono ?_);rintro e w2 ⟨rfl,hb2⟩;have O2:=O1.after hb2.is;have S2:=S1.below hb2.is;have f0:=S2.c0;have f1:=S2.c1;have f2:=S2.c2;have f3:=S2.c3;have f4:=S2.c4;have f5:=S2.c5;clear hb2 O1 S1)
  |(simp only [zn5,zn6,zn7,zn8,zn9,zoa,zob,zoc,zod,zoe,zof,Result.andThen_ok]))
 have HO:=Lib.hid O2
 clear O2
 go_wp2_with fail
 go_ret
 exact ⟨_,rfl,by unfold encP;simpa using HO.out⟩
set_option maxRecDepth 20000 in
set_option maxHeartbeats 6400000 in
theorem zxy (w0 w:World) (A:Value) (l:List UInt8) (b:Bool) (n:Int) (t x:ByteArray) (p:Option Addr) (q:List Val) (cap:Nat) (hf:Fine n t x q.length) (h:OwnB w0 A l w) (hl:l.length≤800000000):
 Calls Tryz.prog 166 #[A,.agg #[.int .i64 2,.bool b,.int .i64 n,.string t,.string x,.slice p q.length cap]] w (zc0 w0 l (.mk 2 b n t x q)):=by
 obtain ⟨i0,hi,hz0,hz1,hz2⟩:=info_parts ze2
 obtain ⟨W0,hW0⟩:∃ W0,W0=w.alloc (.cells #[.int .i64 2,.bool b,.int .i64 n,.string t,.string x,.slice p q.length cap] 48):=⟨_,rfl⟩
 have S:Six W0 w.heap.size 2 b n t x p q.length cap:=by rw [hW0];exact zak _ rfl
 have hne:=h.ne
 have O:OwnB w0 A l W0:=by rw [hW0];exact h.alloc _
 have hown:=O.own
 have f0:=S.c0
 have HS:Hid (W0.heap.size=w.heap.size+1):=Lib.hid (by rw [hW0];simp)
 have hlo:w0.heap.size≤w.heap.size:=h.lo
 have H0:=Lib.hid hW0
 have HF:=Lib.hid hf
 clear hW0 h hf
 have hI:∀ W A L,OwnB w0 A L W→L.length≤1000000000→Calls Tryz.prog 208 #[A,.int .u64 (IntKind.u64.wrap n),.int .i64 8] W fun e w'=>∃ A',e=.returned A'∧OwnB w0 A' (L++beB n 8) w'∧Bx W w':=fun W A L hO hL=>by
  have:=zdn w0 W A L (n % 18446744073709551616) 8 (by omega) (by omega) (by omega) hO hL
  rw [zna n 8 (by omega),← wrapU n] at this
  exact this
 go_enter Tryz.func166,Tryz.ntmps166
 go_wp2_with (at_builtin;rw [← H0.out];refine wpList_append_own _ rfl _ _ 101 rfl w0.heap.size 5 i0 (.int .u8 0) 1 1 Tryz.underlying101 hi hz0 hz1 hz2 rfl (by decide) _ _ _ rfl (hown.alloc _) ⟨w.heap.size+1,0,none⟩ 1 1 [.int .u8 (2)] rfl rfl ?_ ?_ ?_ ?_ ?_ ?_)
 all_goals (try (first | rfl |(unfold maxLen;omega) | omega |(simp [HS.out];omega) |(intro u hu;simp at hu;subst hu;rfl) |(rw [← HS.out];exact cell_one_new _ _ _) |(simp;done)))
 intro v1 w1 hown1 hgrow _
 have O1:=(O.alloc _).say (l':=l++[zb4 2 0]) hown1 hgrow (by simp) (by rw [zbb,zci _ (zbr _)];rfl)
 have S1:=(S.alloc (.cells #[.int .u8 (2)] 5)).grown hgrow hne
 clear hgrow hown1 hown O S f0 H0
 go_wp2_with (first
  |((with_reducible refine zaj (.tmp 3) w.heap.size S1 ?_ ?_ ?_ ?_);rfl;rfl;rfl)
  |(go_at_call 156;(with_reducible refine (za5 2 _ _ _ _ _ 166 rfl _).mono ?_);rintro e w2 ⟨rfl,hb2⟩;have O2:=O1.after hb2.is;have S2:=S1.below hb2.is;have f0:=S2.c0;have f1:=S2.c1;have f2:=S2.c2;have f3:=S2.c3;have f4:=S2.c4;have f5:=S2.c5;clear hb2 O1 S1)
  |(simp only [zog,zoh,zoi,zoj,zok,zol,zom,zon,zoo,zop,zoq,Result.andThen_ok])
  |(go_at_call 208;(with_reducible refine (hI _ _ _ O2 (by simp only [List.length_append,List.length_cons,List.length_nil];omega)).mono ?_);rintro e w3 ⟨v3,rfl,O3,hx3⟩;clear f0 f1 f2 f3 f4 f5 O2 S2))
 have HO:=Lib.hid O3
 clear O3
 go_wp2_with fail
 go_ret
 exact ⟨_,rfl,by unfold encP;simpa using HO.out⟩
set_option maxRecDepth 20000 in
set_option maxHeartbeats 6400000 in
theorem encNode (w0 w:World) (A:Value) (l:List UInt8) (b:Bool) (n:Int) (t x:ByteArray) (p:Option Addr) (q:List Val) (cap:Nat) (hf:Fine n t x q.length) (h:OwnB w0 A l w) (hl:l.length≤800000000):
 Calls Tryz.prog 166 #[A,.agg #[.int .i64 6,.bool b,.int .i64 n,.string t,.string x,.slice p q.length cap]] w (zc0 w0 l (.mk 6 b n t x q)):=by
 obtain ⟨i0,hi,hz0,hz1,hz2⟩:=info_parts ze2
 obtain ⟨W0,hW0⟩:∃ W0,W0=w.alloc (.cells #[.int .i64 6,.bool b,.int .i64 n,.string t,.string x,.slice p q.length cap] 48):=⟨_,rfl⟩
 have S:Six W0 w.heap.size 6 b n t x p q.length cap:=by rw [hW0];exact zak _ rfl
 have hne:=h.ne
 have O:OwnB w0 A l W0:=by rw [hW0];exact h.alloc _
 have hown:=O.own
 have f0:=S.c0
 have HS:Hid (W0.heap.size=w.heap.size+1):=Lib.hid (by rw [hW0];simp)
 have hlo:w0.heap.size≤w.heap.size:=h.lo
 have H0:=Lib.hid hW0
 have HF:=Lib.hid hf
 clear hW0 h hf
 have hI:∀ W A L,OwnB w0 A L W→L.length≤1000000000→Calls Tryz.prog 208 #[A,.int .u64 (IntKind.u64.wrap n),.int .i64 8] W fun e w'=>∃ A',e=.returned A'∧OwnB w0 A' (L++beB n 8) w'∧Bx W w':=fun W A L hO hL=>by
  have:=zdn w0 W A L (n % 18446744073709551616) 8 (by omega) (by omega) (by omega) hO hL
  rw [zna n 8 (by omega),← wrapU n] at this
  exact this
 go_enter Tryz.func166,Tryz.ntmps166
 go_wp2_with (at_builtin;rw [← H0.out];refine wpList_append_own _ rfl _ _ 101 rfl w0.heap.size 5 i0 (.int .u8 0) 1 1 Tryz.underlying101 hi hz0 hz1 hz2 rfl (by decide) _ _ _ rfl (hown.alloc _) ⟨w.heap.size+1,0,none⟩ 1 1 [.int .u8 (6)] rfl rfl ?_ ?_ ?_ ?_ ?_ ?_)
 all_goals (try (first | rfl |(unfold maxLen;omega) | omega |(simp [HS.out];omega) |(intro u hu;simp at hu;subst hu;rfl) |(rw [← HS.out];exact cell_one_new _ _ _) |(simp;done)))
 intro v1 w1 hown1 hgrow _
 have O1:=(O.alloc _).say (l':=l++[zb4 6 0]) hown1 hgrow (by simp) (by rw [zbb,zci _ (zbr _)];rfl)
 have S1:=(S.alloc (.cells #[.int .u8 (6)] 5)).grown hgrow hne
 clear hgrow hown1 hown O S f0 H0
 go_wp2_with (first
  |((with_reducible refine zaj (.tmp 3) w.heap.size S1 ?_ ?_ ?_ ?_);rfl;rfl;rfl)
  |(go_at_call 156;(with_reducible refine (za5 6 _ _ _ _ _ 167 rfl _).mono ?_);rintro e w2 ⟨rfl,hb2⟩;have O2:=O1.after hb2.is;have S2:=S1.below hb2.is;have f0:=S2.c0;have f1:=S2.c1;have f2:=S2.c2;have f3:=S2.c3;have f4:=S2.c4;have f5:=S2.c5;clear hb2 O1 S1)
  |(simp only [zi9,zja,zjb,zjc,zjd,zje,zjf,zjg,zjh,zji,zjj,Result.andThen_ok])
  |(go_at_call 208;(with_reducible refine (hI _ _ _ O2 (by simp only [List.length_append,List.length_cons,List.length_nil];omega)).mono ?_);rintro e w3 ⟨v3,rfl,O3,hx3⟩;clear f0 f1 f2 f3 f4 f5 O2 S2))
 have HO:=Lib.hid O3
 clear O3
 go_wp2_with fail
 go_ret
 exact ⟨_,rfl,by unfold encP;simpa using HO.out⟩
set_option maxRecDepth 20000 in
set_option maxHeartbeats 6400000 in
theorem encEdge (w0 w:World) (A:Value) (l:List UInt8) (b:Bool) (n:Int) (t x:ByteArray) (p:Option Addr) (q:List Val) (cap:Nat) (hf:Fine n t x q.length) (h:OwnB w0 A l w) (hl:l.length≤800000000):
 Calls Tryz.prog 166 #[A,.agg #[.int .i64 7,.bool b,.int .i64 n,.string t,.string x,.slice p q.length cap]] w (zc0 w0 l (.mk 7 b n t x q)):=by
 obtain ⟨i0,hi,hz0,hz1,hz2⟩:=info_parts ze2
 obtain ⟨W0,hW0⟩:∃ W0,W0=w.alloc (.cells #[.int .i64 7,.bool b,.int .i64 n,.string t,.string x,.slice p q.length cap] 48):=⟨_,rfl⟩
 have S:Six W0 w.heap.size 7 b n t x p q.length cap:=by rw [hW0];exact zak _ rfl
 have hne:=h.ne
 have O:OwnB w0 A l W0:=by rw [hW0];exact h.alloc _
 have hown:=O.own
 have f0:=S.c0
 have HS:Hid (W0.heap.size=w.heap.size+1):=Lib.hid (by rw [hW0];simp)
 have hlo:w0.heap.size≤w.heap.size:=h.lo
 have H0:=Lib.hid hW0
 have HF:=Lib.hid hf
 clear hW0 h hf
 have hI:∀ W A L,OwnB w0 A L W→L.length≤1000000000→Calls Tryz.prog 208 #[A,.int .u64 (IntKind.u64.wrap n),.int .i64 8] W fun e w'=>∃ A',e=.returned A'∧OwnB w0 A' (L++beB n 8) w'∧Bx W w':=fun W A L hO hL=>by
  have:=zdn w0 W A L (n % 18446744073709551616) 8 (by omega) (by omega) (by omega) hO hL
  rw [zna n 8 (by omega),← wrapU n] at this
  exact this
 go_enter Tryz.func166,Tryz.ntmps166
 go_wp2_with (at_builtin;rw [← H0.out];refine wpList_append_own _ rfl _ _ 101 rfl w0.heap.size 5 i0 (.int .u8 0) 1 1 Tryz.underlying101 hi hz0 hz1 hz2 rfl (by decide) _ _ _ rfl (hown.alloc _) ⟨w.heap.size+1,0,none⟩ 1 1 [.int .u8 (7)] rfl rfl ?_ ?_ ?_ ?_ ?_ ?_)
 all_goals (try (first | rfl |(unfold maxLen;omega) | omega |(simp [HS.out];omega) |(intro u hu;simp at hu;subst hu;rfl) |(rw [← HS.out];exact cell_one_new _ _ _) |(simp;done)))
 intro v1 w1 hown1 hgrow _
 have O1:=(O.alloc _).say (l':=l++[zb4 7 0]) hown1 hgrow (by simp) (by rw [zbb,zci _ (zbr _)];rfl)
 have S1:=(S.alloc (.cells #[.int .u8 (7)] 5)).grown hgrow hne
 clear hgrow hown1 hown O S f0 H0
 go_wp2_with (first
  |((with_reducible refine zaj (.tmp 3) w.heap.size S1 ?_ ?_ ?_ ?_);rfl;rfl;rfl)
  |(go_at_call 156;(with_reducible refine (za5 7 _ _ _ _ _ 168 rfl _).mono ?_);rintro e w2 ⟨rfl,hb2⟩;have O2:=O1.after hb2.is;have S2:=S1.below hb2.is;have f0:=S2.c0;have f1:=S2.c1;have f2:=S2.c2;have f3:=S2.c3;have f4:=S2.c4;have f5:=S2.c5;clear hb2 O1 S1)
  |(simp only [zjk,zjl,zjm,zjn,zjo,zjp,zjq,zjr,zjs,zjt,zju,Result.andThen_ok])
  |(go_at_call 208;(with_reducible refine (hI _ _ _ O2 (by simp only [List.length_append,List.length_cons,List.length_nil];omega)).mono ?_);rintro e w3 ⟨v3,rfl,O3,hx3⟩;clear f0 f1 f2 f3 f4 f5 O2 S2))
 have HO:=Lib.hid O3
 clear O3
 go_wp2_with fail
 go_ret
 exact ⟨_,rfl,by unfold encP;simpa using HO.out⟩
set_option maxRecDepth 20000 in
set_option maxHeartbeats 6400000 in
theorem zxz (w0 w:World) (A:Value) (l:List UInt8) (b:Bool) (n:Int) (t x:ByteArray) (p:Option Addr) (q:List Val) (cap:Nat) (hf:Fine n t x q.length) (h:OwnB w0 A l w) (hl:l.length≤800000000):
 Calls Tryz.prog 166 #[A,.agg #[.int .i64 3,.bool b,.int .i64 n,.string t,.string x,.slice p q.length cap]] w (zc0 w0 l (.mk 3 b n t x q)):=by
 obtain ⟨i0,hi,hz0,hz1,hz2⟩:=info_parts ze2
 obtain ⟨W0,hW0⟩:∃ W0,W0=w.alloc (.cells #[.int .i64 3,.bool b,.int .i64 n,.string t,.string x,.slice p q.length cap] 48):=⟨_,rfl⟩
 have S:Six W0 w.heap.size 3 b n t x p q.length cap:=by rw [hW0];exact zak _ rfl
 have hne:=h.ne
 have O:OwnB w0 A l W0:=by rw [hW0];exact h.alloc _
 have hown:=O.own
 have f0:=S.c0
 have HS:Hid (W0.heap.size=w.heap.size+1):=Lib.hid (by rw [hW0];simp)
 have hlo:w0.heap.size≤w.heap.size:=h.lo
 have H0:=Lib.hid hW0
 have HF:=Lib.hid hf
 clear hW0 h hf
 go_enter Tryz.func166,Tryz.ntmps166
 go_wp2_with (at_builtin;rw [← H0.out];refine wpList_append_own _ rfl _ _ 101 rfl w0.heap.size 5 i0 (.int .u8 0) 1 1 Tryz.underlying101 hi hz0 hz1 hz2 rfl (by decide) _ _ _ rfl (hown.alloc _) ⟨w.heap.size+1,0,none⟩ 1 1 [.int .u8 (3)] rfl rfl ?_ ?_ ?_ ?_ ?_ ?_)
 all_goals (try (first | rfl |(unfold maxLen;omega) | omega |(simp [HS.out];omega) |(intro u hu;simp at hu;subst hu;rfl) |(rw [← HS.out];exact cell_one_new _ _ _) |(simp;done)))
 intro v1 w1 hown1 hgrow _
 have O1:=(O.alloc _).say (l':=l++[zb4 3 0]) hown1 hgrow (by simp) (by rw [zbb,zci _ (zbr _)];rfl)
 have S1:=(S.alloc (.cells #[.int .u8 (3)] 5)).grown hgrow hne
 clear hgrow hown1 hown O S f0 H0
 go_wp2_with (first
  |((with_reducible refine zaj (.tmp 3) w.heap.size S1 ?_ ?_ ?_ ?_);rfl;rfl;rfl)
  |(go_at_call 156;(with_reducible refine (za5 3 _ _ _ _ _ 169 rfl _).mono ?_);rintro e w2 ⟨rfl,hb2⟩;have O2:=O1.after hb2.is;have S2:=S1.below hb2.is;have f0:=S2.c0;have f1:=S2.c1;have f2:=S2.c2;have f3:=S2.c3;have f4:=S2.c4;have f5:=S2.c5;clear hb2 O1 S1)
  |(simp only [zjv,zjw,zjx,zjy,zjz,zj0,zj1,zj2,zj3,zj4,zj5,Result.andThen_ok])
  |(go_at_call 209;(with_reducible refine (zc8 w0 _ _ _ t HF.out.ht O2 (by simp only [List.length_append,List.length_cons,List.length_nil];omega)).mono ?_);rintro e w3 ⟨v3,rfl,O3,hx3⟩;clear f0 f1 f2 f3 f4 f5 O2 S2))
 have HO:=Lib.hid O3
 clear O3
 go_wp2_with fail
 go_ret
 exact ⟨_,rfl,by unfold encP;simpa using HO.out⟩
set_option maxRecDepth 20000 in
set_option maxHeartbeats 6400000 in
theorem encText (w0 w:World) (A:Value) (l:List UInt8) (b:Bool) (n:Int) (t x:ByteArray) (p:Option Addr) (q:List Val) (cap:Nat) (hf:Fine n t x q.length) (h:OwnB w0 A l w) (hl:l.length≤800000000):
 Calls Tryz.prog 166 #[A,.agg #[.int .i64 4,.bool b,.int .i64 n,.string t,.string x,.slice p q.length cap]] w (zc0 w0 l (.mk 4 b n t x q)):=by
 obtain ⟨i0,hi,hz0,hz1,hz2⟩:=info_parts ze2
 obtain ⟨W0,hW0⟩:∃ W0,W0=w.alloc (.cells #[.int .i64 4,.bool b,.int .i64 n,.string t,.string x,.slice p q.length cap] 48):=⟨_,rfl⟩
 have S:Six W0 w.heap.size 4 b n t x p q.length cap:=by rw [hW0];exact zak _ rfl
 have hne:=h.ne
 have O:OwnB w0 A l W0:=by rw [hW0];exact h.alloc _
 have hown:=O.own
 have f0:=S.c0
 have HS:Hid (W0.heap.size=w.heap.size+1):=Lib.hid (by rw [hW0];simp)
 have hlo:w0.heap.size≤w.heap.size:=h.lo
 have H0:=Lib.hid hW0
 have HF:=Lib.hid hf
 clear hW0 h hf
 go_enter Tryz.func166,Tryz.ntmps166
 go_wp2_with (at_builtin;rw [← H0.out];refine wpList_append_own _ rfl _ _ 101 rfl w0.heap.size 5 i0 (.int .u8 0) 1 1 Tryz.underlying101 hi hz0 hz1 hz2 rfl (by decide) _ _ _ rfl (hown.alloc _) ⟨w.heap.size+1,0,none⟩ 1 1 [.int .u8 (4)] rfl rfl ?_ ?_ ?_ ?_ ?_ ?_)
 all_goals (try (first | rfl |(unfold maxLen;omega) | omega |(simp [HS.out];omega) |(intro u hu;simp at hu;subst hu;rfl) |(rw [← HS.out];exact cell_one_new _ _ _) |(simp;done)))
 intro v1 w1 hown1 hgrow _
 have O1:=(O.alloc _).say (l':=l++[zb4 4 0]) hown1 hgrow (by simp) (by rw [zbb,zci _ (zbr _)];rfl)
 have S1:=(S.alloc (.cells #[.int .u8 (4)] 5)).grown hgrow hne
 clear hgrow hown1 hown O S f0 H0
 go_wp2_with (first
  |((with_reducible refine zaj (.tmp 3) w.heap.size S1 ?_ ?_ ?_ ?_);rfl;rfl;rfl)
  |(go_at_call 156;(with_reducible refine (za5 4 _ _ _ _ _ 170 rfl _).mono ?_);rintro e w2 ⟨rfl,hb2⟩;have O2:=O1.after hb2.is;have S2:=S1.below hb2.is;have f0:=S2.c0;have f1:=S2.c1;have f2:=S2.c2;have f3:=S2.c3;have f4:=S2.c4;have f5:=S2.c5;clear hb2 O1 S1)
  |(simp only [zj6,zj7,zj8,zj9,zka,zkb,zkc,zkd,zke,zkf,zkg,Result.andThen_ok])
  |(go_at_call 209;(with_reducible refine (zc8 w0 _ _ _ t HF.out.ht O2 (by simp only [List.length_append,List.length_cons,List.length_nil];omega)).mono ?_);rintro e w3 ⟨v3,rfl,O3,hx3⟩;clear f0 f1 f2 f3 f4 f5 O2 S2))
 have HO:=Lib.hid O3
 clear O3
 go_wp2_with fail
 go_ret
 exact ⟨_,rfl,by unfold encP;simpa using HO.out⟩
set_option maxRecDepth 20000 in
set_option maxHeartbeats 6400000 in
theorem encIri (w0 w:World) (A:Value) (l:List UInt8) (b:Bool) (n:Int) (t x:ByteArray) (p:Option Addr) (q:List Val) (cap:Nat) (hf:Fine n t x q.length) (h:OwnB w0 A l w) (hl:l.length≤800000000):
 Calls Tryz.prog 166 #[A,.agg #[.int .i64 8,.bool b,.int .i64 n,.string t,.string x,.slice p q.length cap]] w (zc0 w0 l (.mk 8 b n t x q)):=by
 obtain ⟨i0,hi,hz0,hz1,hz2⟩:=info_parts ze2
 obtain ⟨W0,hW0⟩:∃ W0,W0=w.alloc (.cells #[.int .i64 8,.bool b,.int .i64 n,.string t,.string x,.slice p q.length cap] 48):=⟨_,rfl⟩
 have S:Six W0 w.heap.size 8 b n t x p q.length cap:=by rw [hW0];exact zak _ rfl
 have hne:=h.ne
 have O:OwnB w0 A l W0:=by rw [hW0];exact h.alloc _
 have hown:=O.own
 have f0:=S.c0
 have HS:Hid (W0.heap.size=w.heap.size+1):=Lib.hid (by rw [hW0];simp)
 have hlo:w0.heap.size≤w.heap.size:=h.lo
 have H0:=Lib.hid hW0
 have HF:=Lib.hid hf
 clear hW0 h hf
 go_enter Tryz.func166,Tryz.ntmps166
 go_wp2_with (at_builtin;rw [← H0.out];refine wpList_append_own _ rfl _ _ 101 rfl w0.heap.size 5 i0 (.int .u8 0) 1 1 Tryz.underlying101 hi hz0 hz1 hz2 rfl (by decide) _ _ _ rfl (hown.alloc _) ⟨w.heap.size+1,0,none⟩ 1 1 [.int .u8 (8)] rfl rfl ?_ ?_ ?_ ?_ ?_ ?_)
 all_goals (try (first | rfl |(unfold maxLen;omega) | omega |(simp [HS.out];omega) |(intro u hu;simp at hu;subst hu;rfl) |(rw [← HS.out];exact cell_one_new _ _ _) |(simp;done)))
 intro v1 w1 hown1 hgrow _
 have O1:=(O.alloc _).say (l':=l++[zb4 8 0]) hown1 hgrow (by simp) (by rw [zbb,zci _ (zbr _)];rfl)
 have S1:=(S.alloc (.cells #[.int .u8 (8)] 5)).grown hgrow hne
 clear hgrow hown1 hown O S f0 H0
 go_wp2_with (first
  |((with_reducible refine zaj (.tmp 3) w.heap.size S1 ?_ ?_ ?_ ?_);rfl;rfl;rfl)
  |(go_at_call 156;(with_reducible refine (za5 8 _ _ _ _ _ 171 rfl _).mono ?_);rintro e w2 ⟨rfl,hb2⟩;have O2:=O1.after hb2.is;have S2:=S1.below hb2.is;have f0:=S2.c0;have f1:=S2.c1;have f2:=S2.c2;have f3:=S2.c3;have f4:=S2.c4;have f5:=S2.c5;clear hb2 O1 S1)
  |(simp only [zkh,zki,zkj,zkk,zkl,zkm,zkn,zko,zkp,zkq,zkr,Result.andThen_ok])
  |(go_at_call 209;(with_reducible refine (zc8 w0 _ _ _ t HF.out.ht O2 (by simp only [List.length_append,List.length_cons,List.length_nil];omega)).mono ?_);rintro e w3 ⟨v3,rfl,O3,hx3⟩;clear f0 f1 f2 f3 f4 f5 O2 S2))
 have HO:=Lib.hid O3
 clear O3
 go_wp2_with fail
 go_ret
 exact ⟨_,rfl,by unfold encP;simpa using HO.out⟩
set_option maxRecDepth 20000 in
set_option maxHeartbeats 6400000 in
theorem zx0 (w0 w:World) (A:Value) (l:List UInt8) (b:Bool) (n:Int) (t x:ByteArray) (p:Option Addr) (q:List Val) (cap:Nat) (hf:Fine n t x q.length) (h:OwnB w0 A l w) (hl:l.length≤800000000):
 Calls Tryz.prog 166 #[A,.agg #[.int .i64 9,.bool b,.int .i64 n,.string t,.string x,.slice p q.length cap]] w (zc0 w0 l (.mk 9 b n t x q)):=by
 obtain ⟨i0,hi,hz0,hz1,hz2⟩:=info_parts ze2
 obtain ⟨W0,hW0⟩:∃ W0,W0=w.alloc (.cells #[.int .i64 9,.bool b,.int .i64 n,.string t,.string x,.slice p q.length cap] 48):=⟨_,rfl⟩
 have S:Six W0 w.heap.size 9 b n t x p q.length cap:=by rw [hW0];exact zak _ rfl
 have hne:=h.ne
 have O:OwnB w0 A l W0:=by rw [hW0];exact h.alloc _
 have hown:=O.own
 have f0:=S.c0
 have HS:Hid (W0.heap.size=w.heap.size+1):=Lib.hid (by rw [hW0];simp)
 have hlo:w0.heap.size≤w.heap.size:=h.lo
 have H0:=Lib.hid hW0
 have HF:=Lib.hid hf
 clear hW0 h hf
 go_enter Tryz.func166,Tryz.ntmps166
 go_wp2_with (at_builtin;rw [← H0.out];refine wpList_append_own _ rfl _ _ 101 rfl w0.heap.size 5 i0 (.int .u8 0) 1 1 Tryz.underlying101 hi hz0 hz1 hz2 rfl (by decide) _ _ _ rfl (hown.alloc _) ⟨w.heap.size+1,0,none⟩ 1 1 [.int .u8 (9)] rfl rfl ?_ ?_ ?_ ?_ ?_ ?_)
 all_goals (try (first | rfl |(unfold maxLen;omega) | omega |(simp [HS.out];omega) |(intro u hu;simp at hu;subst hu;rfl) |(rw [← HS.out];exact cell_one_new _ _ _) |(simp;done)))
 intro v1 w1 hown1 hgrow _
 have O1:=(O.alloc _).say (l':=l++[zb4 9 0]) hown1 hgrow (by simp) (by rw [zbb,zci _ (zbr _)];rfl)
 have S1:=(S.alloc (.cells #[.int .u8 (9)] 5)).grown hgrow hne
 clear hgrow hown1 hown O S f0 H0
 go_wp2_with (first
  |((with_reducible refine zaj (.tmp 3) w.heap.size S1 ?_ ?_ ?_ ?_);rfl;rfl;rfl)
  |(go_at_call 156;(with_reducible refine (za5 9 _ _ _ _ _ 172 rfl _).mono ?_);rintro e w2 ⟨rfl,hb2⟩;have O2:=O1.after hb2.is;have S2:=S1.below hb2.is;have f0:=S2.c0;have f1:=S2.c1;have f2:=S2.c2;have f3:=S2.c3;have f4:=S2.c4;have f5:=S2.c5;clear hb2 O1 S1)
  |(simp only [zks,zkt,zku,zkv,zkw,zkx,zky,zkz,zk0,zk1,zk2,Result.andThen_ok])
  |(go_at_call 209;(with_reducible refine (zc8 w0 _ _ _ t HF.out.ht O2 (by simp only [List.length_append,List.length_cons,List.length_nil];omega)).mono ?_);rintro e w3 ⟨v3,rfl,O3,hx3⟩;clear f0 f1 f2 f3 f4 f5 O2 S2))
 have HO:=Lib.hid O3
 clear O3
 go_wp2_with fail
 go_ret
 exact ⟨_,rfl,by unfold encP;simpa using HO.out⟩
set_option maxRecDepth 20000 in
set_option maxHeartbeats 6400000 in
theorem zqs (w0 w:World) (A:Value) (l:List UInt8) (k:Int) (b:Bool) (n:Int) (t x:ByteArray) (p:Option Addr) (q:List Val) (cap:Nat) (hf:Fine n t x q.length) (h:OwnB w0 A l w) (hl:l.length≤800000000) (hk:zm2 k=200):
 Calls Tryz.prog 166 #[A,.agg #[.int .i64 k,.bool b,.int .i64 n,.string t,.string x,.slice p q.length cap]] w (zc0 w0 l (.mk k b n t x q)):=by
 obtain ⟨i0,hi,hz0,hz1,hz2⟩:=info_parts ze2
 obtain ⟨W0,hW0⟩:∃ W0,W0=w.alloc (.cells #[.int .i64 k,.bool b,.int .i64 n,.string t,.string x,.slice p q.length cap] 48):=⟨_,rfl⟩
 have S:Six W0 w.heap.size k b n t x p q.length cap:=by rw [hW0];exact zak _ rfl
 have hne:=h.ne
 have O:OwnB w0 A l W0:=by rw [hW0];exact h.alloc _
 have hown:=O.own
 have f0:=S.c0
 have HS:Hid (W0.heap.size=w.heap.size+1):=Lib.hid (by rw [hW0];simp)
 have hlo:w0.heap.size≤w.heap.size:=h.lo
 have H0:=Lib.hid hW0
 have HF:=Lib.hid hf
 clear hW0 h hf
 go_enter Tryz.func166,Tryz.ntmps166
 go_wp2_with (at_builtin;rw [← H0.out];refine wpList_append_own _ rfl _ _ 101 rfl w0.heap.size 5 i0 (.int .u8 0) 1 1 Tryz.underlying101 hi hz0 hz1 hz2 rfl (by decide) _ _ _ rfl (hown.alloc _) ⟨w.heap.size+1,0,none⟩ 1 1 [.int .u8 (k % 256)] rfl rfl ?_ ?_ ?_ ?_ ?_ ?_)
 all_goals (try (first | rfl |(unfold maxLen;omega) | omega |(simp [HS.out];omega) |(intro u hu;simp at hu;subst hu;rfl) |(rw [← HS.out];exact cell_one_new _ _ _) |(simp;done)))
 intro v1 w1 hown1 hgrow _
 have O1:=(O.alloc _).say (l':=l++[zb4 k 0]) hown1 hgrow (by simp) (by rw [zbb,zci _ (zbr _)])
 have S1:=(S.alloc (.cells #[.int .u8 (k % 256)] 5)).grown hgrow hne
 clear hgrow hown1 hown O S f0 H0
 go_wp2_with (first
  |((with_reducible refine zaj (.tmp 3) w.heap.size S1 ?_ ?_ ?_ ?_);rfl;rfl;rfl)
  |(go_at_call 156;(with_reducible refine (za5 k _ _ _ _ _ 200 hk.symm _).mono ?_);rintro e w2 ⟨rfl,hb2⟩;have O2:=O1.after hb2.is;have S2:=S1.below hb2.is;have f0:=S2.c0;have f1:=S2.c1;have f2:=S2.c2;have f3:=S2.c3;have f4:=S2.c4;have f5:=S2.c5;clear hb2 O1 S1)
  |(simp only [zor,zos,zot,zou,zov,zow,zox,zoy,zoz,zo0,zo1,Result.andThen_ok]))
 have HO:=Lib.hid O2
 clear O2
 go_wp2_with fail
 go_ret
 exact ⟨_,rfl,by have hk2:=strange hk;unfold encP;simpa [hk2] using HO.out⟩
end Go.Proofs.YteclpnfckjfibaaGreatDoor

/- XC -/
namespace Go.Proofs.YteclpnfckjfibaaGreatDoor
open Go.RowKit
set_option maxRecDepth 20000 in
set_option maxHeartbeats 6400000 in
theorem zqt (w0 w:World) (A:Value) (l:List UInt8) (n:Int) (t x:ByteArray) (p:Option Addr) (q:List Val) (cap:Nat) (hf:Fine n t x q.length) (h:OwnB w0 A l w) (hl:l.length≤800000000):
 Calls Tryz.prog 166 #[A,.agg #[.int .i64 1,.bool true,.int .i64 n,.string t,.string x,.slice p q.length cap]] w (zc0 w0 l (.mk 1 true n t x q)):=by
 obtain ⟨i0,hi,hz0,hz1,hz2⟩:=info_parts ze2
 obtain ⟨W0,hW0⟩:∃ W0,W0=w.alloc (.cells #[.int .i64 1,.bool true,.int .i64 n,.string t,.string x,.slice p q.length cap] 48):=⟨_,rfl⟩
 have S:Six W0 w.heap.size 1 true n t x p q.length cap:=by rw [hW0];exact zak _ rfl
 have hne:=h.ne
 have O:OwnB w0 A l W0:=by rw [hW0];exact h.alloc _
 have hown:=O.own
 have f0:=S.c0
 have HS:Hid (W0.heap.size=w.heap.size+1):=Lib.hid (by rw [hW0];simp)
 have hlo:w0.heap.size≤w.heap.size:=h.lo
 have H0:=Lib.hid hW0
 have HF:=Lib.hid hf
 clear hW0 h hf
 have hT:∀ W,Calls Tryz.prog 207 #[.bool true] W fun e w'=>e=.returned (.int .i64 1)∧W=w':=fun W=>by
  have:=zn3 true W
  simpa using this
 go_enter Tryz.func166,Tryz.ntmps166
 go_wp2_with (at_builtin;rw [← H0.out];refine wpList_append_own _ rfl _ _ 101 rfl w0.heap.size 5 i0 (.int .u8 0) 1 1 Tryz.underlying101 hi hz0 hz1 hz2 rfl (by decide) _ _ _ rfl (hown.alloc _) ⟨w.heap.size+1,0,none⟩ 1 1 [.int .u8 (1)] rfl rfl ?_ ?_ ?_ ?_ ?_ ?_)
 all_goals (try (first | rfl |(unfold maxLen;omega) | omega |(simp [HS.out];omega) |(intro u hu;simp at hu;subst hu;rfl) |(rw [← HS.out];exact cell_one_new _ _ _) |(simp;done)))
 intro v1 w1 hown1 hgrow _
 have O1:=(O.alloc _).say (l':=l++[zb4 1 0]) hown1 hgrow (by simp) (by rw [zbb,zci _ (zbr _)];rfl)
 have S1:=(S.alloc (.cells #[.int .u8 (1)] 5)).grown hgrow hne
 clear hgrow hown1 hown O S f0 H0
 go_wp2_with (first
  |((with_reducible refine zaj (.tmp 3) w.heap.size S1 ?_ ?_ ?_ ?_);rfl;rfl;rfl)
  |(go_at_call 156;(with_reducible refine (za5 1 _ _ _ _ _ 165 rfl _).mono ?_);rintro e w2 ⟨rfl,hb2⟩;have O2:=O1.after hb2.is;have S2:=S1.below hb2.is;have f0:=S2.c0;have f1:=S2.c1;have f2:=S2.c2;have f3:=S2.c3;have f4:=S2.c4;have f5:=S2.c5;clear hb2 O1 S1)
  |(simp only [ziy,ziz,zi0,zi1,zi2,zi3,zi4,zi5,zi6,zi7,zi8,Result.andThen_ok])
  |(go_at_call 207;(with_reducible refine (hT _).mono ?_);rintro e w3 ⟨rfl,rfl⟩;have O3:=O2;have hown3:=O3.own;have hlo3:=O3.lo)
  |(at_builtin;refine wpList_append_own _ rfl _ _ 101 rfl w0.heap.size 5 i0 (.int .u8 0) 1 1 Tryz.underlying101 hi hz0 hz1 hz2 rfl (by decide) _ _ _ rfl (hown3.alloc _) ⟨w2.heap.size,0,none⟩ 1 1 [_] rfl rfl (cell_one_new _ (.int .u8 1) _) ?_ ?_ ?_ ?_ ?_))
 all_goals (try (first | rfl |(simp only [List.length_append,List.length_cons,List.length_nil];unfold maxLen;omega) |(simp;omega) |(intro u hu;simp at hu;subst hu;rfl)))
 intro v3 w3 hown4 hgrow4 _
 have HO:=Lib.hid ((O3.alloc _).say (l':=l++[zb4 1 0]++[1]) hown4 hgrow4 (by simp) (by rw [zbb (a:=l++[zb4 1 0])];rfl))
 clear hown4 hgrow4 hown3 O3 O2 S2
 go_wp2_with fail
 go_ret
 exact ⟨_,rfl,by unfold encP;simpa using HO.out⟩
set_option maxRecDepth 20000 in
set_option maxHeartbeats 6400000 in
theorem zo9 (w0 w:World) (A:Value) (l:List UInt8) (n:Int) (t x:ByteArray) (p:Option Addr) (q:List Val) (cap:Nat) (hf:Fine n t x q.length) (h:OwnB w0 A l w) (hl:l.length≤800000000):
 Calls Tryz.prog 166 #[A,.agg #[.int .i64 1,.bool false,.int .i64 n,.string t,.string x,.slice p q.length cap]] w (zc0 w0 l (.mk 1 false n t x q)):=by
 obtain ⟨i0,hi,hz0,hz1,hz2⟩:=info_parts ze2
 obtain ⟨W0,hW0⟩:∃ W0,W0=w.alloc (.cells #[.int .i64 1,.bool false,.int .i64 n,.string t,.string x,.slice p q.length cap] 48):=⟨_,rfl⟩
 have S:Six W0 w.heap.size 1 false n t x p q.length cap:=by rw [hW0];exact zak _ rfl
 have hne:=h.ne
 have O:OwnB w0 A l W0:=by rw [hW0];exact h.alloc _
 have hown:=O.own
 have f0:=S.c0
 have HS:Hid (W0.heap.size=w.heap.size+1):=Lib.hid (by rw [hW0];simp)
 have hlo:w0.heap.size≤w.heap.size:=h.lo
 have H0:=Lib.hid hW0
 have HF:=Lib.hid hf
 clear hW0 h hf
 have hT:∀ W,Calls Tryz.prog 207 #[.bool false] W fun e w'=>e=.returned (.int .i64 0)∧W=w':=fun W=>by
  have:=zn3 false W
  simpa using this
 go_enter Tryz.func166,Tryz.ntmps166
 go_wp2_with (at_builtin;rw [← H0.out];refine wpList_append_own _ rfl _ _ 101 rfl w0.heap.size 5 i0 (.int .u8 0) 1 1 Tryz.underlying101 hi hz0 hz1 hz2 rfl (by decide) _ _ _ rfl (hown.alloc _) ⟨w.heap.size+1,0,none⟩ 1 1 [.int .u8 (1)] rfl rfl ?_ ?_ ?_ ?_ ?_ ?_)
 all_goals (try (first | rfl |(unfold maxLen;omega) | omega |(simp [HS.out];omega) |(intro u hu;simp at hu;subst hu;rfl) |(rw [← HS.out];exact cell_one_new _ _ _) |(simp;done)))
 intro v1 w1 hown1 hgrow _
 have O1:=(O.alloc _).say (l':=l++[zb4 1 0]) hown1 hgrow (by simp) (by rw [zbb,zci _ (zbr _)];rfl)
 have S1:=(S.alloc (.cells #[.int .u8 (1)] 5)).grown hgrow hne
 clear hgrow hown1 hown O S f0 H0
 go_wp2_with (first
  |((with_reducible refine zaj (.tmp 3) w.heap.size S1 ?_ ?_ ?_ ?_);rfl;rfl;rfl)
  |(go_at_call 156;(with_reducible refine (za5 1 _ _ _ _ _ 165 rfl _).mono ?_);rintro e w2 ⟨rfl,hb2⟩;have O2:=O1.after hb2.is;have S2:=S1.below hb2.is;have f0:=S2.c0;have f1:=S2.c1;have f2:=S2.c2;have f3:=S2.c3;have f4:=S2.c4;have f5:=S2.c5;clear hb2 O1 S1)
  |(simp only [ziy,ziz,zi0,zi1,zi2,zi3,zi4,zi5,zi6,zi7,zi8,Result.andThen_ok])
  |(go_at_call 207;(with_reducible refine (hT _).mono ?_);rintro e w3 ⟨rfl,rfl⟩;have O3:=O2;have hown3:=O3.own;have hlo3:=O3.lo)
  |(at_builtin;refine wpList_append_own _ rfl _ _ 101 rfl w0.heap.size 5 i0 (.int .u8 0) 1 1 Tryz.underlying101 hi hz0 hz1 hz2 rfl (by decide) _ _ _ rfl (hown3.alloc _) ⟨w2.heap.size,0,none⟩ 1 1 [_] rfl rfl (cell_one_new _ (.int .u8 0) _) ?_ ?_ ?_ ?_ ?_))
 all_goals (try (first | rfl |(simp only [List.length_append,List.length_cons,List.length_nil];unfold maxLen;omega) |(simp;omega) |(intro u hu;simp at hu;subst hu;rfl)))
 intro v3 w3 hown4 hgrow4 _
 have HO:=Lib.hid ((O3.alloc _).say (l':=l++[zb4 1 0]++[0]) hown4 hgrow4 (by simp) (by rw [zbb (a:=l++[zb4 1 0])];rfl))
 clear hown4 hgrow4 hown3 O3 O2 S2
 go_wp2_with fail
 go_ret
 exact ⟨_,rfl,by unfold encP;simpa using HO.out⟩
set_option maxRecDepth 20000 in
set_option maxHeartbeats 6400000 in
theorem encLit (w0 w:World) (A:Value) (l:List UInt8) (b:Bool) (n:Int) (t x:ByteArray) (p:Option Addr) (q:List Val) (cap:Nat) (hf:Fine n t x q.length) (h:OwnB w0 A l w) (hl:l.length≤800000000):
 Calls Tryz.prog 166 #[A,.agg #[.int .i64 10,.bool b,.int .i64 n,.string t,.string x,.slice p q.length cap]] w (zc0 w0 l (.mk 10 b n t x q)):=by
 obtain ⟨i0,hi,hz0,hz1,hz2⟩:=info_parts ze2
 obtain ⟨W0,hW0⟩:∃ W0,W0=w.alloc (.cells #[.int .i64 10,.bool b,.int .i64 n,.string t,.string x,.slice p q.length cap] 48):=⟨_,rfl⟩
 have S:Six W0 w.heap.size 10 b n t x p q.length cap:=by rw [hW0];exact zak _ rfl
 have hne:=h.ne
 have O:OwnB w0 A l W0:=by rw [hW0];exact h.alloc _
 have hown:=O.own
 have f0:=S.c0
 have HS:Hid (W0.heap.size=w.heap.size+1):=Lib.hid (by rw [hW0];simp)
 have hlo:w0.heap.size≤w.heap.size:=h.lo
 have H0:=Lib.hid hW0
 have HF:=Lib.hid hf
 clear hW0 h hf
 go_enter Tryz.func166,Tryz.ntmps166
 go_wp2_with (at_builtin;rw [← H0.out];refine wpList_append_own _ rfl _ _ 101 rfl w0.heap.size 5 i0 (.int .u8 0) 1 1 Tryz.underlying101 hi hz0 hz1 hz2 rfl (by decide) _ _ _ rfl (hown.alloc _) ⟨w.heap.size+1,0,none⟩ 1 1 [.int .u8 (10)] rfl rfl ?_ ?_ ?_ ?_ ?_ ?_)
 all_goals (try (first | rfl |(unfold maxLen;omega) | omega |(simp [HS.out];omega) |(intro u hu;simp at hu;subst hu;rfl) |(rw [← HS.out];exact cell_one_new _ _ _) |(simp;done)))
 intro v1 w1 hown1 hgrow _
 have O1:=(O.alloc _).say (l':=l++[zb4 10 0]) hown1 hgrow (by simp) (by rw [zbb,zci _ (zbr _)];rfl)
 have S1:=(S.alloc (.cells #[.int .u8 (10)] 5)).grown hgrow hne
 clear hgrow hown1 hown O S f0 H0
 go_upto_region 10 with (first
  |((with_reducible refine zaj (.tmp 3) w.heap.size S1 ?_ ?_ ?_ ?_);rfl;rfl;rfl)
  |(go_at_call 156;(with_reducible refine (za5 10 _ _ _ _ _ 173 rfl _).mono ?_);rintro e w2 ⟨rfl,hb2⟩;have O2:=O1.after hb2.is;have S2:=S1.below hb2.is;have f0:=S2.c0;have f1:=S2.c1;have f2:=S2.c2;have f3:=S2.c3;have f4:=S2.c4;have f5:=S2.c5;clear hb2 O1 S1)
  |(simp only [zgb,zgc,zgd,zge,zgf,zgg,zgh,zgi,zgj,zgk,zgl,Result.andThen_ok]))
 have HO2:=Lib.hid O2
 have Z2:=S2.lt
 clear f0 f1 f2 f3 f4 f5
 refine wp_region_held_drew (S:=fun W=>Six W w.heap.size 10 b n t x p q.length cap) (by kernel_rfl) S2 (fun hHeld=>?_)
 have O3:OwnB w0 v1 (l++[zb4 10 0]) w2.drew:=HO2.out.drew
 clear HO2 O2 S2
 refine tg (i:=0) v1 rfl hHeld ?_
 refine tg (i:=1) ((.pointer (some ⟨w.heap.size,3,none⟩))) rfl hHeld ?_
 refine tg (i:=4) ((.pointer (some ⟨w.heap.size,4,none⟩))) rfl hHeld ?_
 refine tk (i:=2) (v:=(.string t)) rfl (Or.inl ⟨by rfl,fun W h=>by have c0:=h.c3;go_simp⟩) hHeld ?_
 refine tk (i:=5) (v:=(.string x)) rfl (Or.inl ⟨by rfl,fun W h=>by have c0:=h.c4;go_simp⟩) hHeld ?_
 refine tr 3 rfl (fun K hK=>?_)
 rw [if_pos (by rfl)]
 go_simp
 refine (zc8 w0 _ _ _ t HF.out.ht O3 (by simp only [List.length_append,List.length_cons,List.length_nil];omega)).mono ?_
 rintro e w3 ⟨v3,rfl,O4,hx3⟩
 have hb3:=hHeld.bx hx3
 refine hK.out _ _ hb3 (fun hHeld2=>?_)
 clear hK K hHeld
 try simp only [putS]
 refine tr 6 rfl (fun K hK=>?_)
 rw [if_pos (by rfl)]
 go_simp
 refine (zc8 w0 _ _ _ x HF.out.hx O4 (by have:=HF.out.ht;simp only [List.length_append,List.length_cons,List.length_nil,zev];omega)).mono ?_
 rintro e w4 ⟨v4,rfl,O5,hx4⟩
 have hb4:=hb3.bx hx4
 refine hK.out _ _ hb4 (fun hHeld3=>?_)
 clear hK K hHeld2
 try simp only [putS]
 refine tg (i:=7) v4 rfl hHeld3 ?_
 refine wpAnyH_done (by kernel_rfl) ?_ _
 have HO:=Lib.hid O5
 clear O5 O4 O3
 go_wp2_with fail
 go_ret
 exact ⟨_,rfl,by unfold encP;simpa using HO.out⟩
end Go.Proofs.YteclpnfckjfibaaGreatDoor

/- XD -/
namespace Go.Proofs.YteclpnfckjfibaaGreatDoor
open Go.RowKit
def zvg (v:Val):Prop:=∀ (w0 w:World) (A:Value) (l:List UInt8) (k:Int) (b:Bool) (n:Int) (t x:ByteArray) (q:List Val) (p:Option Addr) (cap:Nat),v=.mk k b n t x q→Fine n t x q.length→Held w0 (.slice p q.length cap) q→OwnB w0 A l w→l.length+13*wOne v≤800000000→
 Calls Tryz.prog 166 #[A,.agg #[.int .i64 k,.bool b,.int .i64 n,.string t,.string x,.slice p q.length cap]] w (zc0 w0 l v)
set_option maxRecDepth 20000 in
set_option maxHeartbeats 6400000 in
theorem encList (w0 w:World) (A:Value) (l:List UInt8) (b:Bool) (n:Int) (t x:ByteArray) (g off:Nat) (q:List Val) (cap:Nat) (hf:Fine n t x q.length) (h:OwnB w0 A l w) (hl:l.length≤800000000) (hh:zb2 w0 g off q) (hw:l.length+13*wAll q≤799999987) (each:∀ u∈q,zvg u):
 Calls Tryz.prog 166 #[A,.agg #[.int .i64 5,.bool b,.int .i64 n,.string t,.string x,.slice (some ⟨g,off,none⟩) q.length cap]] w (zc0 w0 l (.mk 5 b n t x q)):=by
 obtain ⟨i0,hi,hz0,hz1,hz2⟩:=info_parts ze2
 obtain ⟨W0,hW0⟩:∃ W0,W0=w.alloc (.cells #[.int .i64 5,.bool b,.int .i64 n,.string t,.string x,.slice (some ⟨g,off,none⟩) q.length cap] 48):=⟨_,rfl⟩
 have S:Six W0 w.heap.size 5 b n t x (some ⟨g,off,none⟩) q.length cap:=by rw [hW0];exact zak _ rfl
 have hne:=h.ne
 have O:OwnB w0 A l W0:=by rw [hW0];exact h.alloc _
 have hown:=O.own
 have f0:=S.c0
 have HS:Hid (W0.heap.size=w.heap.size+1):=Lib.hid (by rw [hW0];simp)
 have hlo:w0.heap.size≤w.heap.size:=h.lo
 have H0:=Lib.hid hW0
 have HF:=Lib.hid hf
 have HH:=Lib.hid hh
 have HWT:=Lib.hid hw
 have HE:=Lib.hid each
 clear hW0 h hf hh hw each
 have hI:∀ W A L,OwnB w0 A L W→L.length≤1000000000→Calls Tryz.prog 208 #[A,.int .u64 q.length,.int .i64 4] W fun e w'=>∃ A',e=.returned A'∧OwnB w0 A' (L++beB q.length 4) w'∧Bx W w':=fun W A L hO hL=>by
  have hb:(q.length:Int) < 18446744073709551616:=by have:=HF.out.hn;omega
  exact zdn w0 W A L q.length 4 (by omega) (by omega) hb hO hL
 have hI:=Lib.hid hI
 have hn1:=HF.out.hn
 go_enter Tryz.func166,Tryz.ntmps166
 go_wp2_with (at_builtin;rw [← H0.out];refine wpList_append_own _ rfl _ _ 101 rfl w0.heap.size 5 i0 (.int .u8 0) 1 1 Tryz.underlying101 hi hz0 hz1 hz2 rfl (by decide) _ _ _ rfl (hown.alloc _) ⟨w.heap.size+1,0,none⟩ 1 1 [.int .u8 (5)] rfl rfl ?_ ?_ ?_ ?_ ?_ ?_)
 all_goals (try (first | rfl |(unfold maxLen;omega) | omega |(simp [HS.out];omega) |(intro u hu;simp at hu;subst hu;rfl) |(rw [← HS.out];exact cell_one_new _ _ _) |(simp;done)))
 intro v1 w1 hown1 hgrow _
 have O1:=(O.alloc _).say (l':=l++[zb4 5 0]) hown1 hgrow (by simp) (by rw [zbb,zci _ (zbr _)];rfl)
 have S1:=(S.alloc (.cells #[.int .u8 (5)] 5)).grown hgrow hne
 clear hgrow hown1 hown O S f0 H0
 go_wp2_with (first
  |((with_reducible refine zaj (.tmp 3) w.heap.size S1 ?_ ?_ ?_ ?_);rfl;rfl;rfl)
  |(go_at_call 156;(with_reducible refine (za5 5 _ _ _ _ _ 174 rfl _).mono ?_);rintro e w2 ⟨rfl,hb2⟩;have O2:=O1.after hb2.is;have S2:=S1.below hb2.is;have f0:=S2.c0;have f1:=S2.c1;have f2:=S2.c2;have f3:=S2.c3;have f4:=S2.c4;have f5:=S2.c5;clear hb2 O1 S1)
  |(simp only [zgm,zgn,zgo,zgp,zgq,zgr,zgs,zgt,zgu,zgv,zgw,Result.andThen_ok])
  |(go_at_call 208;(with_reducible refine (hI.out _ _ _ O2 (by simp only [List.length_append,List.length_cons,List.length_nil];omega)).mono ?_);rintro e w3 ⟨v3,rfl,O3,hx3⟩;have S3:=S2.bx hx3;have f5:=S3.c5;clear f0 f1 f2 f3 f4 O2 S2))
 have HO:=Lib.hid O3
 clear O3 S3 f5 hI
 go_loopg [0,82] q.length (fun gg s0 s82 wr=>∃ j:Nat,j+gg=q.length∧s82=.int .i64 j∧OwnB w0 s0 (l++[zb4 5 0]++beB q.length 4++zao (q.take j)) wr)
 case atStart=>exact ⟨0,by omega,rfl,by simpa [zao] using HO.out⟩
 case round=>
  obtain ⟨j,hjg,rfl,OR⟩:=hrel
  by_cases hlt:(j:Int) < q.length
  ·have hj1:j < q.length:=by omega
   obtain ⟨k',b',m',t',x',q',p',cp',o⟩:=(zb2.at_ q off HH.out j hj1).opens
   have o1:=o.below OR.bel
   have c0:=o1.c0
   have c1:=o1.c1
   have c2:=o1.c2
   have c3:=o1.c3
   have c4:=o1.c4
   have c5:=o1.c5
   have S6:Six (wr.alloc (.cells #[.int .i64 k',.bool b',.int .i64 m',.string t',.string x',.slice p' q'.length cp'] 48)) wr.heap.size k' b' m' t' x' p' q'.length cp':=zak _ rfl
   have hlen:(l++[zb4 5 0]++beB q.length 4++zao (q.take j)).length+13*wOne q[j]≤800000000:=by
    have h1:=zla q j hj1
    have h2:=zdm (q.take j)
    have h3:=HWT.out
    simp only [List.length_append,zbd,List.length_cons,List.length_nil]
    omega
   have hc:=HE.out q[j] (List.getElem_mem hj1) w0 _ u0 _ k' b' m' t' x' q' p' cp' o.e o.hf o.hl (OR.alloc (.cells #[.int .i64 k',.bool b',.int .i64 m',.string t',.string x',.slice p' q'.length cp'] 48)) hlen
   have he:zao (q.take (j+1))=zao (q.take j)++encP q[j]:=zf1 q j hj1
   have HEE:=Lib.hid he
   clear o o1 he hlen OR
   go_wp2_with (first
    |((with_reducible refine zbp (.tmp 84) g (off+j*6) k' b' m' t' x' (.slice p' q'.length cp') c0 c1 c2 c3 c4 c5 ?_ ?_ ?_ ?_);rfl;rfl;rfl)
    |((with_reducible refine zaj (.tmp 6) wr.heap.size S6 ?_ ?_ ?_ ?_);rfl;rfl;rfl)
    |(go_at_call 166;(with_reducible refine hc.mono ?_);rintro e w3 ⟨v3,rfl,O7⟩))
   have O8:=Lib.hid O7
   clear O7 S6 hc c0 c1 c2 c3 c4 c5
   go_roundg (gk - 1)
   case measure=>omega
   case rel=>exact ⟨j+1,by omega,by go_num,by rw [HEE.out,← List.append_assoc];exact O8.out⟩
  ·have e:q.take j=q:=by rw [List.take_of_length_le];omega
   rw [e] at OR
   have HO:=Lib.hid OR
   clear OR
   go_wp2_with fail
   go_ret
   exact ⟨_,rfl,by unfold encP;simpa using HO.out⟩
set_option maxRecDepth 20000 in
set_option maxHeartbeats 6400000 in
theorem zs6 (w0 w:World) (A:Value) (l:List UInt8) (b:Bool) (n:Int) (t x:ByteArray) (p:Option Addr) (cap:Nat) (hf:Fine n t x 0) (h:OwnB w0 A l w) (hl:l.length≤800000000):
 Calls Tryz.prog 166 #[A,.agg #[.int .i64 5,.bool b,.int .i64 n,.string t,.string x,.slice p 0 cap]] w (zc0 w0 l (.mk 5 b n t x [])):=by
 obtain ⟨i0,hi,hz0,hz1,hz2⟩:=info_parts ze2
 obtain ⟨W0,hW0⟩:∃ W0,W0=w.alloc (.cells #[.int .i64 5,.bool b,.int .i64 n,.string t,.string x,.slice p 0 cap] 48):=⟨_,rfl⟩
 have S:Six W0 w.heap.size 5 b n t x p 0 cap:=by rw [hW0];exact zak _ rfl
 have hne:=h.ne
 have O:OwnB w0 A l W0:=by rw [hW0];exact h.alloc _
 have hown:=O.own
 have f0:=S.c0
 have HS:Hid (W0.heap.size=w.heap.size+1):=Lib.hid (by rw [hW0];simp)
 have hlo:w0.heap.size≤w.heap.size:=h.lo
 have H0:=Lib.hid hW0
 have HF:=Lib.hid hf
 clear hW0 h hf
 have hI:∀ W A L,OwnB w0 A L W→L.length≤1000000000→Calls Tryz.prog 208 #[A,.int .u64 0,.int .i64 4] W fun e w'=>∃ A',e=.returned A'∧OwnB w0 A' (L++beB 0 4) w'∧Bx W w':=fun W A L hO hL=>by
  have hb:(0:Int) < 18446744073709551616:=by decide
  exact zdn w0 W A L 0 4 (by omega) (by omega) hb hO hL
 have hI:=Lib.hid hI
 go_enter Tryz.func166,Tryz.ntmps166
 go_wp2_with (at_builtin;rw [← H0.out];refine wpList_append_own _ rfl _ _ 101 rfl w0.heap.size 5 i0 (.int .u8 0) 1 1 Tryz.underlying101 hi hz0 hz1 hz2 rfl (by decide) _ _ _ rfl (hown.alloc _) ⟨w.heap.size+1,0,none⟩ 1 1 [.int .u8 (5)] rfl rfl ?_ ?_ ?_ ?_ ?_ ?_)
 all_goals (try (first | rfl |(unfold maxLen;omega) | omega |(simp [HS.out];omega) |(intro u hu;simp at hu;subst hu;rfl) |(rw [← HS.out];exact cell_one_new _ _ _) |(simp;done)))
 intro v1 w1 hown1 hgrow _
 have O1:=(O.alloc _).say (l':=l++[zb4 5 0]) hown1 hgrow (by simp) (by rw [zbb,zci _ (zbr _)];rfl)
 have S1:=(S.alloc (.cells #[.int .u8 (5)] 5)).grown hgrow hne
 clear hgrow hown1 hown O S f0 H0
 go_wp2_with (first
  |((with_reducible refine zaj (.tmp 3) w.heap.size S1 ?_ ?_ ?_ ?_);rfl;rfl;rfl)
  |(go_at_call 156;(with_reducible refine (za5 5 _ _ _ _ _ 174 rfl _).mono ?_);rintro e w2 ⟨rfl,hb2⟩;have O2:=O1.after hb2.is;have S2:=S1.below hb2.is;have f0:=S2.c0;have f1:=S2.c1;have f2:=S2.c2;have f3:=S2.c3;have f4:=S2.c4;have f5:=S2.c5;clear hb2 O1 S1)
  |(simp only [zgm,zgn,zgo,zgp,zgq,zgr,zgs,zgt,zgu,zgv,zgw,Result.andThen_ok])
  |(go_at_call 208;(with_reducible refine (hI.out _ _ _ O2 (by simp only [List.length_append,List.length_cons,List.length_nil];omega)).mono ?_);rintro e w3 ⟨v3,rfl,O3,hx3⟩;have S3:=S2.bx hx3;have f5:=S3.c5;clear f0 f1 f2 f3 f4 O2 S2))
 have HO:=Lib.hid O3
 clear O3 S3 f5 hI
 go_loopg [0,82] 0 (fun gg s0 s82 wr=>gg=0∧s82=.int .i64 0∧OwnB w0 s0 (l++[zb4 5 0]++beB 0 4) wr)
 case atStart=>exact ⟨rfl,rfl,by simpa using HO.out⟩
 case round=>
  obtain ⟨_,rfl,OR⟩:=hrel
  have HO:=Lib.hid OR
  clear OR
  go_wp2_with fail
  go_ret
  exact ⟨_,rfl,by unfold encP;simpa [zao] using HO.out⟩
theorem encStep (v:Val) (k:Int) (b:Bool) (n:Int) (t x:ByteArray) (q:List Val) (ev:v=.mk k b n t x q) (each:∀ u∈q,zvg u):zvg v:=by
 subst ev
 intro w0 w A l k1 b1 n1 t1 x1 q1 p cap e hf hl hO hw
 cases e
 have hw':=hw
 unfold wOne at hw'
 have hl8:l.length≤800000000:=by omega
 by_cases h0:k=0
 ·subst h0;exact encNull w0 w A l b n t x p q cap hf hO hl8
 by_cases h1:k=1
 ·subst h1
  cases b with
  | true=>exact zqt w0 w A l n t x p q cap hf hO hl8
  | false=>exact zo9 w0 w A l n t x p q cap hf hO hl8
 by_cases h2:k=2
 ·subst h2;exact zxy w0 w A l b n t x p q cap hf hO hl8
 by_cases h3:k=3
 ·subst h3;exact zxz w0 w A l b n t x p q cap hf hO hl8
 by_cases h4:k=4
 ·subst h4;exact encText w0 w A l b n t x p q cap hf hO hl8
 by_cases h5:k=5
 ·subst h5
  cases q with
  | nil=>exact zs6 w0 w A l b n t x p cap hf hO hl8
  | cons v r=>
    obtain ⟨g,off,rfl,hh⟩:=hl.form
    exact encList w0 w A l b n t x g off (v::r) cap hf hO hl8 hh (by omega) each
 by_cases h6:k=6
 ·subst h6;exact encNode w0 w A l b n t x p q cap hf hO hl8
 by_cases h7:k=7
 ·subst h7;exact encEdge w0 w A l b n t x p q cap hf hO hl8
 by_cases h8:k=8
 ·subst h8;exact encIri w0 w A l b n t x p q cap hf hO hl8
 by_cases h9:k=9
 ·subst h9;exact zx0 w0 w A l b n t x p q cap hf hO hl8
 by_cases h10:k=10
 ·subst h10;exact encLit w0 w A l b n t x p q cap hf hO hl8
 exact zqs w0 w A l k b n t x p q cap hf hO hl8 (by simp [zm2,h0,h1,h2,h3,h4,h5,h6,h7,h8,h9,h10])
mutual
theorem zzp:(v:Val)→zvg v
 | .mk k b n t x q=>encStep _ k b n t x q rfl (zvh q)
theorem zvh:(q:List Val)→∀ u∈q,zvg u
 | [],_,h=>absurd h (by simp)
 | v::r,u,h=>by
   rcases List.mem_cons.1 h with h | h
   ·rw [h];exact zzp v
   ·exact zvh r u h
end
end Go.Proofs.YteclpnfckjfibaaGreatDoor
