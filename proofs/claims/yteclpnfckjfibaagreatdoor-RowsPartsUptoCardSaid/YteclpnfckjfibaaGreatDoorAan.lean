/- Texts of one kind, one behind the other: each says ahead of itself what it shows. -/
import Derived.Test.YteclpnfckjfibaaGreatDoorAam
import Derived.WalkKit
import Derived.OwnWalk
import Derived.Maps.AppendAt
import Derived.Lib.AppendStr
import Derived.Deep.LoopGhost
import Derived.Test.YteclpnfckjfibaaGreatDoorAae
/- XA -/
namespace Go.Proofs.YteclpnfckjfibaaGreatDoor
open Go.RowKit
set_option maxRecDepth 20000 in
set_option maxHeartbeats 3200000 in
theorem zdp (w0 w:World) (A:Value) (l:List UInt8) (n:Int) (k:Nat) (hk:k≤8) (h0:0≤n) (h1:n < 18446744073709551616) (h:OwnB w0 A l w) (hl:l.length≤1000000000):
 Calls Tryz.prog 208 #[A,.int .u64 n,.int .i64 k] w fun e w'=>∃ A',e=.returned A'∧OwnB w0 A' (l++beB n k) w'∧Bx w w':=by
 obtain ⟨i0,hi,hz0,hz1,hz2⟩:=info_parts ze4
 go_enter Tryz.func208,Tryz.ntmps208
 go_wp2_with fail
 go_loopg [0,7] k (fun gg s0 s7 wr=>∃ L:List UInt8,s7=.int .i64 ((gg:Int) - 1)∧OwnB w0 s0 L wr∧gg≤8∧L.length+gg≤1000000008∧Hid (L++beB n gg=l++beB n k)∧Hid (Bx w wr))
 case atStart=>exact ⟨l,rfl,h,hk,by omega,Lib.hid rfl,Lib.hid (Bx.refl _)⟩
 case round=>
  clear h
  obtain ⟨L,rfl,O,hg,hL,HE,HB⟩:=hrel
  cases gk with
  | zero=>
    have HE2:=HE.out
    have e0:L=l++beB n k:=by simpa [beB] using HE2
    subst e0
    have HO:=Lib.hid O
    clear O HE HE2
    go_wp2_with fail
    go_ret
    exact ⟨_,rfl,HO.out,HB.out⟩
  | succ i=>
    have hown:=O.own
    have hlo:=O.lo
    have e1:((i+1:Nat):Int) - 1=i:=by omega
    rw [e1]
    go_wp2_with (at_builtin;refine wpList_append_own _ rfl _ _ 101 rfl w0.heap.size 5 i0 (.int .u8 0) 1 1 Tryz.underlying101 hi hz0 hz1 hz2 rfl (by decide) _ _ _ rfl (hown.alloc _) ⟨wr.heap.size,0,none⟩ 1 1 [_] rfl rfl (cell_one_new _ _ _) ?_ ?_ ?_ ?_ ?_)
    all_goals (try (first | rfl |(unfold maxLen;omega) | omega |(simp;omega) |(intro u hu;simp at hu;subst hu;rfl)))
    intro v' w1 hown' hgrow _
    have O2:=(O.alloc _).say (l':=L++[zb4 n i]) hown' hgrow (by simp) (by rw [za7,zcl _ (zfo n i)])
    have HB2:=Lib.hid ((HB.out.trans (Bx.below (zau _ _))).trans ((O.alloc _).bx hgrow))
    have HO:=Lib.hid O2
    have HE2:Hid ((L++[zb4 n i])++beB n i=l++beB n k):=Lib.hid (by rw [← HE.out];simp [beB])
    have hL2:(L++[zb4 n i]).length+i≤1000000008:=by simp;omega
    clear hown hown' hgrow O O2 HE hL HB
    go_wp2_with fail
    go_roundg i
    case measure=>omega
    case rel=>exact ⟨L++[zb4 n i],rfl,HO.out,by omega,hL2,HE2,HB2⟩
theorem zvk (t:ByteArray) (ht:t.size≤2097152):(0:Int)≤t.size∧(t.size:Int) < 18446744073709551616:=by omega
set_option maxRecDepth 20000 in
set_option maxHeartbeats 3200000 in
theorem zc6 (w0 w:World) (A:Value) (l:List UInt8) (t:ByteArray) (ht:t.size≤2097152) (h:OwnB w0 A l w) (hl:l.length≤900000000):
 Calls Tryz.prog 209 #[A,.string t] w fun e w'=>∃ A',e=.returned A'∧OwnB w0 A' (l++lenB t) w'∧Bx w w':=by
 obtain ⟨i0,hi,hz0,hz1,hz2⟩:=info_parts ze4
 obtain ⟨n,hn⟩:∃ n,n=t.size:=⟨_,rfl⟩
 have hc:Calls Tryz.prog 208 #[A,.int .u64 t.size,.int .i64 4] w fun e w'=>∃ A',e=.returned A'∧OwnB w0 A' (l++beB t.size 4) w'∧Bx w w':=zdp w0 w A l (t.size:Int) 4 (by omega) (zvk t ht).1 (zvk t ht).2 h (by omega)
 have HC:=Lib.hid hc
 clear h hc
 go_enter Tryz.func209,Tryz.ntmps209
 go_wp2_with (first
  |(go_at_call 208;(with_reducible refine HC.out.mono ?_);rintro e w1 ⟨v1,rfl,O,hbx⟩;have hown:=O.own;have hlo:=O.lo)
  |(at_builtin;refine Lib.wpList_append_own_string _ rfl _ _ 101 9 rfl w0.heap.size 5 i0 Tryz.underlying101 Tryz.underlying9 hi hz0 hz1 hz2 _ _ _ rfl hown t rfl ?_ ?_ hlo ?_))
 all_goals (try (first | rfl |(rw [List.length_append,za9];unfold maxLen;omega) |(rw [List.length_append,za9];omega)))
 intro v' w2 hown' hgrow _
 have O2:=O.say (l':=l++lenB t) hown' hgrow (by simp only [lenB,List.length_append,zd7];omega) (by unfold lenB;rw [← List.append_assoc,za7 (b:=txtB t)];rfl)
 have HB:=Lib.hid (hbx.trans (O.bx hgrow))
 have HO:=Lib.hid O2
 clear hown hown' hgrow O O2 hbx
 go_wp2_with fail
 go_ret
 exact ⟨_,rfl,HO.out,HB.out⟩
end Go.Proofs.YteclpnfckjfibaaGreatDoor

/- XB -/
namespace Go.Proofs.YteclpnfckjfibaaGreatDoor
open Go.RowKit
theorem zbs (n:Int):((zb4 n 0).toNat:Int)=n % 256:=by
 rw [zfo]
 simp
theorem strange {k:Int} (h:zm9 k=200):k≠0∧k≠1∧k≠2∧k≠3∧k≠4∧k≠5∧k≠6∧k≠7∧k≠8∧k≠9∧k≠10:=by
 refine ⟨?_,?_,?_,?_,?_,?_,?_,?_,?_,?_,?_⟩ <;> (rintro rfl;revert h;decide)
theorem wrapU (n:Int):IntKind.u64.wrap n=n % 18446744073709551616:=rfl
def zc2 (w0:World) (l:List UInt8) (v:Val) (e:Ending) (w':World):Prop:=∃ A',e=.returned A'∧OwnB w0 A' (l++encP v) w'
set_option maxRecDepth 20000 in
set_option maxHeartbeats 6400000 in
theorem encNull (w0 w:World) (A:Value) (l:List UInt8) (b:Bool) (n:Int) (t x:ByteArray) (p:Option Addr) (q:List Val) (cap:Nat) (hf:Fine n t x q.length) (h:OwnB w0 A l w) (hl:l.length≤800000000):
 Calls Tryz.prog 166 #[A,.agg #[.int .i64 0,.bool b,.int .i64 n,.string t,.string x,.slice p q.length cap]] w (zc2 w0 l (.mk 0 b n t x q)):=by
 obtain ⟨i0,hi,hz0,hz1,hz2⟩:=info_parts ze4
 obtain ⟨W0,hW0⟩:∃ W0,W0=w.alloc (.cells #[.int .i64 0,.bool b,.int .i64 n,.string t,.string x,.slice p q.length cap] 48):=⟨_,rfl⟩
 have S:Six W0 w.heap.size 0 b n t x p q.length cap:=by rw [hW0];exact zak _ rfl
 have hne:=h.ne
 have O:OwnB w0 A l W0:=by rw [hW0];exact h.alloc _
 have hown:=O.own
 have f0:=S.c0
 have HS:Hid (W0.heap.size=w.heap.size+1):=Lib.hid (by rw [hW0];simp)
 have hlo:w0.heap.size≤w.heap.size:=h.lo
 have H0:=Lib.hid hW0
 have HF:=Lib.hid hf
 clear hW0 h hf
 go_enter Tryz.func166,Tryz.ntmps166
 go_wp2_with (at_builtin;rw [← H0.out];refine wpList_append_own _ rfl _ _ 101 rfl w0.heap.size 5 i0 (.int .u8 0) 1 1 Tryz.underlying101 hi hz0 hz1 hz2 rfl (by decide) _ _ _ rfl (hown.alloc _) ⟨w.heap.size+1,0,none⟩ 1 1 [.int .u8 (0)] rfl rfl ?_ ?_ ?_ ?_ ?_ ?_)
 all_goals (try (first | rfl |(unfold maxLen;omega) | omega |(simp [HS.out];omega) |(intro u hu;simp at hu;subst hu;rfl) |(rw [← HS.out];exact cell_one_new _ _ _) |(simp;done)))
 intro v1 w1 hown1 hgrow _
 have O1:=(O.alloc _).say (l':=l++[zb4 0 0]) hown1 hgrow (by simp) (by rw [za7,zcl _ (zbs _)];rfl)
 have S1:=(S.alloc (.cells #[.int .u8 (0)] 5)).grown hgrow hne
 clear hgrow hown1 hown O S f0 H0
 go_wp2_with (first
  |((with_reducible refine zai (.tmp 3) w.heap.size S1 ?_ ?_ ?_ ?_);rfl;rfl;rfl)
  |(go_at_call 156;(with_reducible refine (za1 0 _ _ _ _ _ 164 rfl _).mono ?_);rintro e w2 ⟨rfl,hb2⟩;have O2:=O1.after hb2.is;have S2:=S1.below hb2.is;have f0:=S2.c0;have f1:=S2.c1;have f2:=S2.c2;have f3:=S2.c3;have f4:=S2.c4;have f5:=S2.c5;clear hb2 O1 S1)
  |(simp only [zof,zog,zoh,zoi,zoj,zok,zol,zom,zon,zoo,zop,Result.andThen_ok]))
 have HO:=Lib.hid O2
 clear O2
 go_wp2_with fail
 go_ret
 exact ⟨_,rfl,by unfold encP;simpa using HO.out⟩
set_option maxRecDepth 20000 in
set_option maxHeartbeats 6400000 in
theorem zxz (w0 w:World) (A:Value) (l:List UInt8) (b:Bool) (n:Int) (t x:ByteArray) (p:Option Addr) (q:List Val) (cap:Nat) (hf:Fine n t x q.length) (h:OwnB w0 A l w) (hl:l.length≤800000000):
 Calls Tryz.prog 166 #[A,.agg #[.int .i64 2,.bool b,.int .i64 n,.string t,.string x,.slice p q.length cap]] w (zc2 w0 l (.mk 2 b n t x q)):=by
 obtain ⟨i0,hi,hz0,hz1,hz2⟩:=info_parts ze4
 obtain ⟨W0,hW0⟩:∃ W0,W0=w.alloc (.cells #[.int .i64 2,.bool b,.int .i64 n,.string t,.string x,.slice p q.length cap] 48):=⟨_,rfl⟩
 have S:Six W0 w.heap.size 2 b n t x p q.length cap:=by rw [hW0];exact zak _ rfl
 have hne:=h.ne
 have O:OwnB w0 A l W0:=by rw [hW0];exact h.alloc _
 have hown:=O.own
 have f0:=S.c0
 have HS:Hid (W0.heap.size=w.heap.size+1):=Lib.hid (by rw [hW0];simp)
 have hlo:w0.heap.size≤w.heap.size:=h.lo
 have H0:=Lib.hid hW0
 have HF:=Lib.hid hf
 clear hW0 h hf
 have hI:∀ W A L,OwnB w0 A L W→L.length≤1000000000→Calls Tryz.prog 208 #[A,.int .u64 (IntKind.u64.wrap n),.int .i64 8] W fun e w'=>∃ A',e=.returned A'∧OwnB w0 A' (L++beB n 8) w'∧Bx W w':=fun W A L hO hL=>by
  have:=zdp w0 W A L (n % 18446744073709551616) 8 (by omega) (by omega) (by omega) hO hL
  rw [zni n 8 (by omega),← wrapU n] at this
  exact this
 go_enter Tryz.func166,Tryz.ntmps166
 go_wp2_with (at_builtin;rw [← H0.out];refine wpList_append_own _ rfl _ _ 101 rfl w0.heap.size 5 i0 (.int .u8 0) 1 1 Tryz.underlying101 hi hz0 hz1 hz2 rfl (by decide) _ _ _ rfl (hown.alloc _) ⟨w.heap.size+1,0,none⟩ 1 1 [.int .u8 (2)] rfl rfl ?_ ?_ ?_ ?_ ?_ ?_)
 all_goals (try (first | rfl |(unfold maxLen;omega) | omega |(simp [HS.out];omega) |(intro u hu;simp at hu;subst hu;rfl) |(rw [← HS.out];exact cell_one_new _ _ _) |(simp;done)))
 intro v1 w1 hown1 hgrow _
 have O1:=(O.alloc _).say (l':=l++[zb4 2 0]) hown1 hgrow (by simp) (by rw [za7,zcl _ (zbs _)];rfl)
 have S1:=(S.alloc (.cells #[.int .u8 (2)] 5)).grown hgrow hne
 clear hgrow hown1 hown O S f0 H0
 go_wp2_with (first
  |((with_reducible refine zai (.tmp 3) w.heap.size S1 ?_ ?_ ?_ ?_);rfl;rfl;rfl)
  |(go_at_call 156;(with_reducible refine (za1 2 _ _ _ _ _ 166 rfl _).mono ?_);rintro e w2 ⟨rfl,hb2⟩;have O2:=O1.after hb2.is;have S2:=S1.below hb2.is;have f0:=S2.c0;have f1:=S2.c1;have f2:=S2.c2;have f3:=S2.c3;have f4:=S2.c4;have f5:=S2.c5;clear hb2 O1 S1)
  |(simp only [zoq,zor,zos,zot,zou,zov,zow,zox,zoy,zoz,zo0,Result.andThen_ok])
  |(go_at_call 208;(with_reducible refine (hI _ _ _ O2 (by simp only [List.length_append,List.length_cons,List.length_nil];omega)).mono ?_);rintro e w3 ⟨v3,rfl,O3,hx3⟩;clear f0 f1 f2 f3 f4 f5 O2 S2))
 have HO:=Lib.hid O3
 clear O3
 go_wp2_with fail
 go_ret
 exact ⟨_,rfl,by unfold encP;simpa using HO.out⟩
set_option maxRecDepth 20000 in
set_option maxHeartbeats 6400000 in
theorem encNode (w0 w:World) (A:Value) (l:List UInt8) (b:Bool) (n:Int) (t x:ByteArray) (p:Option Addr) (q:List Val) (cap:Nat) (hf:Fine n t x q.length) (h:OwnB w0 A l w) (hl:l.length≤800000000):
 Calls Tryz.prog 166 #[A,.agg #[.int .i64 6,.bool b,.int .i64 n,.string t,.string x,.slice p q.length cap]] w (zc2 w0 l (.mk 6 b n t x q)):=by
 obtain ⟨i0,hi,hz0,hz1,hz2⟩:=info_parts ze4
 obtain ⟨W0,hW0⟩:∃ W0,W0=w.alloc (.cells #[.int .i64 6,.bool b,.int .i64 n,.string t,.string x,.slice p q.length cap] 48):=⟨_,rfl⟩
 have S:Six W0 w.heap.size 6 b n t x p q.length cap:=by rw [hW0];exact zak _ rfl
 have hne:=h.ne
 have O:OwnB w0 A l W0:=by rw [hW0];exact h.alloc _
 have hown:=O.own
 have f0:=S.c0
 have HS:Hid (W0.heap.size=w.heap.size+1):=Lib.hid (by rw [hW0];simp)
 have hlo:w0.heap.size≤w.heap.size:=h.lo
 have H0:=Lib.hid hW0
 have HF:=Lib.hid hf
 clear hW0 h hf
 have hI:∀ W A L,OwnB w0 A L W→L.length≤1000000000→Calls Tryz.prog 208 #[A,.int .u64 (IntKind.u64.wrap n),.int .i64 8] W fun e w'=>∃ A',e=.returned A'∧OwnB w0 A' (L++beB n 8) w'∧Bx W w':=fun W A L hO hL=>by
  have:=zdp w0 W A L (n % 18446744073709551616) 8 (by omega) (by omega) (by omega) hO hL
  rw [zni n 8 (by omega),← wrapU n] at this
  exact this
 go_enter Tryz.func166,Tryz.ntmps166
 go_wp2_with (at_builtin;rw [← H0.out];refine wpList_append_own _ rfl _ _ 101 rfl w0.heap.size 5 i0 (.int .u8 0) 1 1 Tryz.underlying101 hi hz0 hz1 hz2 rfl (by decide) _ _ _ rfl (hown.alloc _) ⟨w.heap.size+1,0,none⟩ 1 1 [.int .u8 (6)] rfl rfl ?_ ?_ ?_ ?_ ?_ ?_)
 all_goals (try (first | rfl |(unfold maxLen;omega) | omega |(simp [HS.out];omega) |(intro u hu;simp at hu;subst hu;rfl) |(rw [← HS.out];exact cell_one_new _ _ _) |(simp;done)))
 intro v1 w1 hown1 hgrow _
 have O1:=(O.alloc _).say (l':=l++[zb4 6 0]) hown1 hgrow (by simp) (by rw [za7,zcl _ (zbs _)];rfl)
 have S1:=(S.alloc (.cells #[.int .u8 (6)] 5)).grown hgrow hne
 clear hgrow hown1 hown O S f0 H0
 go_wp2_with (first
  |((with_reducible refine zai (.tmp 3) w.heap.size S1 ?_ ?_ ?_ ?_);rfl;rfl;rfl)
  |(go_at_call 156;(with_reducible refine (za1 6 _ _ _ _ _ 167 rfl _).mono ?_);rintro e w2 ⟨rfl,hb2⟩;have O2:=O1.after hb2.is;have S2:=S1.below hb2.is;have f0:=S2.c0;have f1:=S2.c1;have f2:=S2.c2;have f3:=S2.c3;have f4:=S2.c4;have f5:=S2.c5;clear hb2 O1 S1)
  |(simp only [zjf,zjg,zjh,zji,zjj,zjk,zjl,zjm,zjn,zjo,zjp,Result.andThen_ok])
  |(go_at_call 208;(with_reducible refine (hI _ _ _ O2 (by simp only [List.length_append,List.length_cons,List.length_nil];omega)).mono ?_);rintro e w3 ⟨v3,rfl,O3,hx3⟩;clear f0 f1 f2 f3 f4 f5 O2 S2))
 have HO:=Lib.hid O3
 clear O3
 go_wp2_with fail
 go_ret
 exact ⟨_,rfl,by unfold encP;simpa using HO.out⟩
set_option maxRecDepth 20000 in
set_option maxHeartbeats 6400000 in
theorem encEdge (w0 w:World) (A:Value) (l:List UInt8) (b:Bool) (n:Int) (t x:ByteArray) (p:Option Addr) (q:List Val) (cap:Nat) (hf:Fine n t x q.length) (h:OwnB w0 A l w) (hl:l.length≤800000000):
 Calls Tryz.prog 166 #[A,.agg #[.int .i64 7,.bool b,.int .i64 n,.string t,.string x,.slice p q.length cap]] w (zc2 w0 l (.mk 7 b n t x q)):=by
 obtain ⟨i0,hi,hz0,hz1,hz2⟩:=info_parts ze4
 obtain ⟨W0,hW0⟩:∃ W0,W0=w.alloc (.cells #[.int .i64 7,.bool b,.int .i64 n,.string t,.string x,.slice p q.length cap] 48):=⟨_,rfl⟩
 have S:Six W0 w.heap.size 7 b n t x p q.length cap:=by rw [hW0];exact zak _ rfl
 have hne:=h.ne
 have O:OwnB w0 A l W0:=by rw [hW0];exact h.alloc _
 have hown:=O.own
 have f0:=S.c0
 have HS:Hid (W0.heap.size=w.heap.size+1):=Lib.hid (by rw [hW0];simp)
 have hlo:w0.heap.size≤w.heap.size:=h.lo
 have H0:=Lib.hid hW0
 have HF:=Lib.hid hf
 clear hW0 h hf
 have hI:∀ W A L,OwnB w0 A L W→L.length≤1000000000→Calls Tryz.prog 208 #[A,.int .u64 (IntKind.u64.wrap n),.int .i64 8] W fun e w'=>∃ A',e=.returned A'∧OwnB w0 A' (L++beB n 8) w'∧Bx W w':=fun W A L hO hL=>by
  have:=zdp w0 W A L (n % 18446744073709551616) 8 (by omega) (by omega) (by omega) hO hL
  rw [zni n 8 (by omega),← wrapU n] at this
  exact this
 go_enter Tryz.func166,Tryz.ntmps166
 go_wp2_with (at_builtin;rw [← H0.out];refine wpList_append_own _ rfl _ _ 101 rfl w0.heap.size 5 i0 (.int .u8 0) 1 1 Tryz.underlying101 hi hz0 hz1 hz2 rfl (by decide) _ _ _ rfl (hown.alloc _) ⟨w.heap.size+1,0,none⟩ 1 1 [.int .u8 (7)] rfl rfl ?_ ?_ ?_ ?_ ?_ ?_)
 all_goals (try (first | rfl |(unfold maxLen;omega) | omega |(simp [HS.out];omega) |(intro u hu;simp at hu;subst hu;rfl) |(rw [← HS.out];exact cell_one_new _ _ _) |(simp;done)))
 intro v1 w1 hown1 hgrow _
 have O1:=(O.alloc _).say (l':=l++[zb4 7 0]) hown1 hgrow (by simp) (by rw [za7,zcl _ (zbs _)];rfl)
 have S1:=(S.alloc (.cells #[.int .u8 (7)] 5)).grown hgrow hne
 clear hgrow hown1 hown O S f0 H0
 go_wp2_with (first
  |((with_reducible refine zai (.tmp 3) w.heap.size S1 ?_ ?_ ?_ ?_);rfl;rfl;rfl)
  |(go_at_call 156;(with_reducible refine (za1 7 _ _ _ _ _ 168 rfl _).mono ?_);rintro e w2 ⟨rfl,hb2⟩;have O2:=O1.after hb2.is;have S2:=S1.below hb2.is;have f0:=S2.c0;have f1:=S2.c1;have f2:=S2.c2;have f3:=S2.c3;have f4:=S2.c4;have f5:=S2.c5;clear hb2 O1 S1)
  |(simp only [zjq,zjr,zjs,zjt,zju,zjv,zjw,zjx,zjy,zjz,zj0,Result.andThen_ok])
  |(go_at_call 208;(with_reducible refine (hI _ _ _ O2 (by simp only [List.length_append,List.length_cons,List.length_nil];omega)).mono ?_);rintro e w3 ⟨v3,rfl,O3,hx3⟩;clear f0 f1 f2 f3 f4 f5 O2 S2))
 have HO:=Lib.hid O3
 clear O3
 go_wp2_with fail
 go_ret
 exact ⟨_,rfl,by unfold encP;simpa using HO.out⟩
set_option maxRecDepth 20000 in
set_option maxHeartbeats 6400000 in
theorem zx0 (w0 w:World) (A:Value) (l:List UInt8) (b:Bool) (n:Int) (t x:ByteArray) (p:Option Addr) (q:List Val) (cap:Nat) (hf:Fine n t x q.length) (h:OwnB w0 A l w) (hl:l.length≤800000000):
 Calls Tryz.prog 166 #[A,.agg #[.int .i64 3,.bool b,.int .i64 n,.string t,.string x,.slice p q.length cap]] w (zc2 w0 l (.mk 3 b n t x q)):=by
 obtain ⟨i0,hi,hz0,hz1,hz2⟩:=info_parts ze4
 obtain ⟨W0,hW0⟩:∃ W0,W0=w.alloc (.cells #[.int .i64 3,.bool b,.int .i64 n,.string t,.string x,.slice p q.length cap] 48):=⟨_,rfl⟩
 have S:Six W0 w.heap.size 3 b n t x p q.length cap:=by rw [hW0];exact zak _ rfl
 have hne:=h.ne
 have O:OwnB w0 A l W0:=by rw [hW0];exact h.alloc _
 have hown:=O.own
 have f0:=S.c0
 have HS:Hid (W0.heap.size=w.heap.size+1):=Lib.hid (by rw [hW0];simp)
 have hlo:w0.heap.size≤w.heap.size:=h.lo
 have H0:=Lib.hid hW0
 have HF:=Lib.hid hf
 clear hW0 h hf
 go_enter Tryz.func166,Tryz.ntmps166
 go_wp2_with (at_builtin;rw [← H0.out];refine wpList_append_own _ rfl _ _ 101 rfl w0.heap.size 5 i0 (.int .u8 0) 1 1 Tryz.underlying101 hi hz0 hz1 hz2 rfl (by decide) _ _ _ rfl (hown.alloc _) ⟨w.heap.size+1,0,none⟩ 1 1 [.int .u8 (3)] rfl rfl ?_ ?_ ?_ ?_ ?_ ?_)
 all_goals (try (first | rfl |(unfold maxLen;omega) | omega |(simp [HS.out];omega) |(intro u hu;simp at hu;subst hu;rfl) |(rw [← HS.out];exact cell_one_new _ _ _) |(simp;done)))
 intro v1 w1 hown1 hgrow _
 have O1:=(O.alloc _).say (l':=l++[zb4 3 0]) hown1 hgrow (by simp) (by rw [za7,zcl _ (zbs _)];rfl)
 have S1:=(S.alloc (.cells #[.int .u8 (3)] 5)).grown hgrow hne
 clear hgrow hown1 hown O S f0 H0
 go_wp2_with (first
  |((with_reducible refine zai (.tmp 3) w.heap.size S1 ?_ ?_ ?_ ?_);rfl;rfl;rfl)
  |(go_at_call 156;(with_reducible refine (za1 3 _ _ _ _ _ 169 rfl _).mono ?_);rintro e w2 ⟨rfl,hb2⟩;have O2:=O1.after hb2.is;have S2:=S1.below hb2.is;have f0:=S2.c0;have f1:=S2.c1;have f2:=S2.c2;have f3:=S2.c3;have f4:=S2.c4;have f5:=S2.c5;clear hb2 O1 S1)
  |(simp only [zj1,zj2,zj3,zj4,zj5,zj6,zj7,zj8,zj9,zka,zkb,Result.andThen_ok])
  |(go_at_call 209;(with_reducible refine (zc6 w0 _ _ _ t HF.out.ht O2 (by simp only [List.length_append,List.length_cons,List.length_nil];omega)).mono ?_);rintro e w3 ⟨v3,rfl,O3,hx3⟩;clear f0 f1 f2 f3 f4 f5 O2 S2))
 have HO:=Lib.hid O3
 clear O3
 go_wp2_with fail
 go_ret
 exact ⟨_,rfl,by unfold encP;simpa using HO.out⟩
set_option maxRecDepth 20000 in
set_option maxHeartbeats 6400000 in
theorem encText (w0 w:World) (A:Value) (l:List UInt8) (b:Bool) (n:Int) (t x:ByteArray) (p:Option Addr) (q:List Val) (cap:Nat) (hf:Fine n t x q.length) (h:OwnB w0 A l w) (hl:l.length≤800000000):
 Calls Tryz.prog 166 #[A,.agg #[.int .i64 4,.bool b,.int .i64 n,.string t,.string x,.slice p q.length cap]] w (zc2 w0 l (.mk 4 b n t x q)):=by
 obtain ⟨i0,hi,hz0,hz1,hz2⟩:=info_parts ze4
 obtain ⟨W0,hW0⟩:∃ W0,W0=w.alloc (.cells #[.int .i64 4,.bool b,.int .i64 n,.string t,.string x,.slice p q.length cap] 48):=⟨_,rfl⟩
 have S:Six W0 w.heap.size 4 b n t x p q.length cap:=by rw [hW0];exact zak _ rfl
 have hne:=h.ne
 have O:OwnB w0 A l W0:=by rw [hW0];exact h.alloc _
 have hown:=O.own
 have f0:=S.c0
 have HS:Hid (W0.heap.size=w.heap.size+1):=Lib.hid (by rw [hW0];simp)
 have hlo:w0.heap.size≤w.heap.size:=h.lo
 have H0:=Lib.hid hW0
 have HF:=Lib.hid hf
 clear hW0 h hf
 go_enter Tryz.func166,Tryz.ntmps166
 go_wp2_with (at_builtin;rw [← H0.out];refine wpList_append_own _ rfl _ _ 101 rfl w0.heap.size 5 i0 (.int .u8 0) 1 1 Tryz.underlying101 hi hz0 hz1 hz2 rfl (by decide) _ _ _ rfl (hown.alloc _) ⟨w.heap.size+1,0,none⟩ 1 1 [.int .u8 (4)] rfl rfl ?_ ?_ ?_ ?_ ?_ ?_)
 all_goals (try (first | rfl |(unfold maxLen;omega) | omega |(simp [HS.out];omega) |(intro u hu;simp at hu;subst hu;rfl) |(rw [← HS.out];exact cell_one_new _ _ _) |(simp;done)))
 intro v1 w1 hown1 hgrow _
 have O1:=(O.alloc _).say (l':=l++[zb4 4 0]) hown1 hgrow (by simp) (by rw [za7,zcl _ (zbs _)];rfl)
 have S1:=(S.alloc (.cells #[.int .u8 (4)] 5)).grown hgrow hne
 clear hgrow hown1 hown O S f0 H0
 go_wp2_with (first
  |((with_reducible refine zai (.tmp 3) w.heap.size S1 ?_ ?_ ?_ ?_);rfl;rfl;rfl)
  |(go_at_call 156;(with_reducible refine (za1 4 _ _ _ _ _ 170 rfl _).mono ?_);rintro e w2 ⟨rfl,hb2⟩;have O2:=O1.after hb2.is;have S2:=S1.below hb2.is;have f0:=S2.c0;have f1:=S2.c1;have f2:=S2.c2;have f3:=S2.c3;have f4:=S2.c4;have f5:=S2.c5;clear hb2 O1 S1)
  |(simp only [zkc,zkd,zke,zkf,zkg,zkh,zki,zkj,zkk,zkl,zkm,Result.andThen_ok])
  |(go_at_call 209;(with_reducible refine (zc6 w0 _ _ _ t HF.out.ht O2 (by simp only [List.length_append,List.length_cons,List.length_nil];omega)).mono ?_);rintro e w3 ⟨v3,rfl,O3,hx3⟩;clear f0 f1 f2 f3 f4 f5 O2 S2))
 have HO:=Lib.hid O3
 clear O3
 go_wp2_with fail
 go_ret
 exact ⟨_,rfl,by unfold encP;simpa using HO.out⟩
set_option maxRecDepth 20000 in
set_option maxHeartbeats 6400000 in
theorem encIri (w0 w:World) (A:Value) (l:List UInt8) (b:Bool) (n:Int) (t x:ByteArray) (p:Option Addr) (q:List Val) (cap:Nat) (hf:Fine n t x q.length) (h:OwnB w0 A l w) (hl:l.length≤800000000):
 Calls Tryz.prog 166 #[A,.agg #[.int .i64 8,.bool b,.int .i64 n,.string t,.string x,.slice p q.length cap]] w (zc2 w0 l (.mk 8 b n t x q)):=by
 obtain ⟨i0,hi,hz0,hz1,hz2⟩:=info_parts ze4
 obtain ⟨W0,hW0⟩:∃ W0,W0=w.alloc (.cells #[.int .i64 8,.bool b,.int .i64 n,.string t,.string x,.slice p q.length cap] 48):=⟨_,rfl⟩
 have S:Six W0 w.heap.size 8 b n t x p q.length cap:=by rw [hW0];exact zak _ rfl
 have hne:=h.ne
 have O:OwnB w0 A l W0:=by rw [hW0];exact h.alloc _
 have hown:=O.own
 have f0:=S.c0
 have HS:Hid (W0.heap.size=w.heap.size+1):=Lib.hid (by rw [hW0];simp)
 have hlo:w0.heap.size≤w.heap.size:=h.lo
 have H0:=Lib.hid hW0
 have HF:=Lib.hid hf
 clear hW0 h hf
 go_enter Tryz.func166,Tryz.ntmps166
 go_wp2_with (at_builtin;rw [← H0.out];refine wpList_append_own _ rfl _ _ 101 rfl w0.heap.size 5 i0 (.int .u8 0) 1 1 Tryz.underlying101 hi hz0 hz1 hz2 rfl (by decide) _ _ _ rfl (hown.alloc _) ⟨w.heap.size+1,0,none⟩ 1 1 [.int .u8 (8)] rfl rfl ?_ ?_ ?_ ?_ ?_ ?_)
 all_goals (try (first | rfl |(unfold maxLen;omega) | omega |(simp [HS.out];omega) |(intro u hu;simp at hu;subst hu;rfl) |(rw [← HS.out];exact cell_one_new _ _ _) |(simp;done)))
 intro v1 w1 hown1 hgrow _
 have O1:=(O.alloc _).say (l':=l++[zb4 8 0]) hown1 hgrow (by simp) (by rw [za7,zcl _ (zbs _)];rfl)
 have S1:=(S.alloc (.cells #[.int .u8 (8)] 5)).grown hgrow hne
 clear hgrow hown1 hown O S f0 H0
 go_wp2_with (first
  |((with_reducible refine zai (.tmp 3) w.heap.size S1 ?_ ?_ ?_ ?_);rfl;rfl;rfl)
  |(go_at_call 156;(with_reducible refine (za1 8 _ _ _ _ _ 171 rfl _).mono ?_);rintro e w2 ⟨rfl,hb2⟩;have O2:=O1.after hb2.is;have S2:=S1.below hb2.is;have f0:=S2.c0;have f1:=S2.c1;have f2:=S2.c2;have f3:=S2.c3;have f4:=S2.c4;have f5:=S2.c5;clear hb2 O1 S1)
  |(simp only [zkn,zko,zkp,zkq,zkr,zks,zkt,zku,zkv,zkw,zkx,Result.andThen_ok])
  |(go_at_call 209;(with_reducible refine (zc6 w0 _ _ _ t HF.out.ht O2 (by simp only [List.length_append,List.length_cons,List.length_nil];omega)).mono ?_);rintro e w3 ⟨v3,rfl,O3,hx3⟩;clear f0 f1 f2 f3 f4 f5 O2 S2))
 have HO:=Lib.hid O3
 clear O3
 go_wp2_with fail
 go_ret
 exact ⟨_,rfl,by unfold encP;simpa using HO.out⟩
set_option maxRecDepth 20000 in
set_option maxHeartbeats 6400000 in
theorem zx1 (w0 w:World) (A:Value) (l:List UInt8) (b:Bool) (n:Int) (t x:ByteArray) (p:Option Addr) (q:List Val) (cap:Nat) (hf:Fine n t x q.length) (h:OwnB w0 A l w) (hl:l.length≤800000000):
 Calls Tryz.prog 166 #[A,.agg #[.int .i64 9,.bool b,.int .i64 n,.string t,.string x,.slice p q.length cap]] w (zc2 w0 l (.mk 9 b n t x q)):=by
 obtain ⟨i0,hi,hz0,hz1,hz2⟩:=info_parts ze4
 obtain ⟨W0,hW0⟩:∃ W0,W0=w.alloc (.cells #[.int .i64 9,.bool b,.int .i64 n,.string t,.string x,.slice p q.length cap] 48):=⟨_,rfl⟩
 have S:Six W0 w.heap.size 9 b n t x p q.length cap:=by rw [hW0];exact zak _ rfl
 have hne:=h.ne
 have O:OwnB w0 A l W0:=by rw [hW0];exact h.alloc _
 have hown:=O.own
 have f0:=S.c0
 have HS:Hid (W0.heap.size=w.heap.size+1):=Lib.hid (by rw [hW0];simp)
 have hlo:w0.heap.size≤w.heap.size:=h.lo
 have H0:=Lib.hid hW0
 have HF:=Lib.hid hf
 clear hW0 h hf
 go_enter Tryz.func166,Tryz.ntmps166
 go_wp2_with (at_builtin;rw [← H0.out];refine wpList_append_own _ rfl _ _ 101 rfl w0.heap.size 5 i0 (.int .u8 0) 1 1 Tryz.underlying101 hi hz0 hz1 hz2 rfl (by decide) _ _ _ rfl (hown.alloc _) ⟨w.heap.size+1,0,none⟩ 1 1 [.int .u8 (9)] rfl rfl ?_ ?_ ?_ ?_ ?_ ?_)
 all_goals (try (first | rfl |(unfold maxLen;omega) | omega |(simp [HS.out];omega) |(intro u hu;simp at hu;subst hu;rfl) |(rw [← HS.out];exact cell_one_new _ _ _) |(simp;done)))
 intro v1 w1 hown1 hgrow _
 have O1:=(O.alloc _).say (l':=l++[zb4 9 0]) hown1 hgrow (by simp) (by rw [za7,zcl _ (zbs _)];rfl)
 have S1:=(S.alloc (.cells #[.int .u8 (9)] 5)).grown hgrow hne
 clear hgrow hown1 hown O S f0 H0
 go_wp2_with (first
  |((with_reducible refine zai (.tmp 3) w.heap.size S1 ?_ ?_ ?_ ?_);rfl;rfl;rfl)
  |(go_at_call 156;(with_reducible refine (za1 9 _ _ _ _ _ 172 rfl _).mono ?_);rintro e w2 ⟨rfl,hb2⟩;have O2:=O1.after hb2.is;have S2:=S1.below hb2.is;have f0:=S2.c0;have f1:=S2.c1;have f2:=S2.c2;have f3:=S2.c3;have f4:=S2.c4;have f5:=S2.c5;clear hb2 O1 S1)
  |(simp only [zky,zkz,zk0,zk1,zk2,zk3,zk4,zk5,zk6,zk7,zk8,Result.andThen_ok])
  |(go_at_call 209;(with_reducible refine (zc6 w0 _ _ _ t HF.out.ht O2 (by simp only [List.length_append,List.length_cons,List.length_nil];omega)).mono ?_);rintro e w3 ⟨v3,rfl,O3,hx3⟩;clear f0 f1 f2 f3 f4 f5 O2 S2))
 have HO:=Lib.hid O3
 clear O3
 go_wp2_with fail
 go_ret
 exact ⟨_,rfl,by unfold encP;simpa using HO.out⟩
set_option maxRecDepth 20000 in
set_option maxHeartbeats 6400000 in
theorem zq3 (w0 w:World) (A:Value) (l:List UInt8) (k:Int) (b:Bool) (n:Int) (t x:ByteArray) (p:Option Addr) (q:List Val) (cap:Nat) (hf:Fine n t x q.length) (h:OwnB w0 A l w) (hl:l.length≤800000000) (hk:zm9 k=200):
 Calls Tryz.prog 166 #[A,.agg #[.int .i64 k,.bool b,.int .i64 n,.string t,.string x,.slice p q.length cap]] w (zc2 w0 l (.mk k b n t x q)):=by
 obtain ⟨i0,hi,hz0,hz1,hz2⟩:=info_parts ze4
 obtain ⟨W0,hW0⟩:∃ W0,W0=w.alloc (.cells #[.int .i64 k,.bool b,.int .i64 n,.string t,.string x,.slice p q.length cap] 48):=⟨_,rfl⟩
 have S:Six W0 w.heap.size k b n t x p q.length cap:=by rw [hW0];exact zak _ rfl
 have hne:=h.ne
 have O:OwnB w0 A l W0:=by rw [hW0];exact h.alloc _
 have hown:=O.own
 have f0:=S.c0
 have HS:Hid (W0.heap.size=w.heap.size+1):=Lib.hid (by rw [hW0];simp)
 have hlo:w0.heap.size≤w.heap.size:=h.lo
 have H0:=Lib.hid hW0
 have HF:=Lib.hid hf
 clear hW0 h hf
 go_enter Tryz.func166,Tryz.ntmps166
 go_wp2_with (at_builtin;rw [← H0.out];refine wpList_append_own _ rfl _ _ 101 rfl w0.heap.size 5 i0 (.int .u8 0) 1 1 Tryz.underlying101 hi hz0 hz1 hz2 rfl (by decide) _ _ _ rfl (hown.alloc _) ⟨w.heap.size+1,0,none⟩ 1 1 [.int .u8 (k % 256)] rfl rfl ?_ ?_ ?_ ?_ ?_ ?_)
 all_goals (try (first | rfl |(unfold maxLen;omega) | omega |(simp [HS.out];omega) |(intro u hu;simp at hu;subst hu;rfl) |(rw [← HS.out];exact cell_one_new _ _ _) |(simp;done)))
 intro v1 w1 hown1 hgrow _
 have O1:=(O.alloc _).say (l':=l++[zb4 k 0]) hown1 hgrow (by simp) (by rw [za7,zcl _ (zbs _)])
 have S1:=(S.alloc (.cells #[.int .u8 (k % 256)] 5)).grown hgrow hne
 clear hgrow hown1 hown O S f0 H0
 go_wp2_with (first
  |((with_reducible refine zai (.tmp 3) w.heap.size S1 ?_ ?_ ?_ ?_);rfl;rfl;rfl)
  |(go_at_call 156;(with_reducible refine (za1 k _ _ _ _ _ 200 hk.symm _).mono ?_);rintro e w2 ⟨rfl,hb2⟩;have O2:=O1.after hb2.is;have S2:=S1.below hb2.is;have f0:=S2.c0;have f1:=S2.c1;have f2:=S2.c2;have f3:=S2.c3;have f4:=S2.c4;have f5:=S2.c5;clear hb2 O1 S1)
  |(simp only [zo1,zo2,zo3,zo4,zo5,zo6,zo7,zo8,zo9,zpa,zpb,Result.andThen_ok]))
 have HO:=Lib.hid O2
 clear O2
 go_wp2_with fail
 go_ret
 exact ⟨_,rfl,by have hk2:=strange hk;unfold encP;simpa [hk2] using HO.out⟩
end Go.Proofs.YteclpnfckjfibaaGreatDoor

/- XC -/
namespace Go.Proofs.YteclpnfckjfibaaGreatDoor
open Go.RowKit
set_option maxRecDepth 20000 in
set_option maxHeartbeats 6400000 in
theorem zq4 (w0 w:World) (A:Value) (l:List UInt8) (n:Int) (t x:ByteArray) (p:Option Addr) (q:List Val) (cap:Nat) (hf:Fine n t x q.length) (h:OwnB w0 A l w) (hl:l.length≤800000000):
 Calls Tryz.prog 166 #[A,.agg #[.int .i64 1,.bool true,.int .i64 n,.string t,.string x,.slice p q.length cap]] w (zc2 w0 l (.mk 1 true n t x q)):=by
 obtain ⟨i0,hi,hz0,hz1,hz2⟩:=info_parts ze4
 obtain ⟨W0,hW0⟩:∃ W0,W0=w.alloc (.cells #[.int .i64 1,.bool true,.int .i64 n,.string t,.string x,.slice p q.length cap] 48):=⟨_,rfl⟩
 have S:Six W0 w.heap.size 1 true n t x p q.length cap:=by rw [hW0];exact zak _ rfl
 have hne:=h.ne
 have O:OwnB w0 A l W0:=by rw [hW0];exact h.alloc _
 have hown:=O.own
 have f0:=S.c0
 have HS:Hid (W0.heap.size=w.heap.size+1):=Lib.hid (by rw [hW0];simp)
 have hlo:w0.heap.size≤w.heap.size:=h.lo
 have H0:=Lib.hid hW0
 have HF:=Lib.hid hf
 clear hW0 h hf
 have hT:∀ W,Calls Tryz.prog 207 #[.bool true] W fun e w'=>e=.returned (.int .i64 1)∧W=w':=fun W=>by
  have:=zod true W
  simpa using this
 go_enter Tryz.func166,Tryz.ntmps166
 go_wp2_with (at_builtin;rw [← H0.out];refine wpList_append_own _ rfl _ _ 101 rfl w0.heap.size 5 i0 (.int .u8 0) 1 1 Tryz.underlying101 hi hz0 hz1 hz2 rfl (by decide) _ _ _ rfl (hown.alloc _) ⟨w.heap.size+1,0,none⟩ 1 1 [.int .u8 (1)] rfl rfl ?_ ?_ ?_ ?_ ?_ ?_)
 all_goals (try (first | rfl |(unfold maxLen;omega) | omega |(simp [HS.out];omega) |(intro u hu;simp at hu;subst hu;rfl) |(rw [← HS.out];exact cell_one_new _ _ _) |(simp;done)))
 intro v1 w1 hown1 hgrow _
 have O1:=(O.alloc _).say (l':=l++[zb4 1 0]) hown1 hgrow (by simp) (by rw [za7,zcl _ (zbs _)];rfl)
 have S1:=(S.alloc (.cells #[.int .u8 (1)] 5)).grown hgrow hne
 clear hgrow hown1 hown O S f0 H0
 go_wp2_with (first
  |((with_reducible refine zai (.tmp 3) w.heap.size S1 ?_ ?_ ?_ ?_);rfl;rfl;rfl)
  |(go_at_call 156;(with_reducible refine (za1 1 _ _ _ _ _ 165 rfl _).mono ?_);rintro e w2 ⟨rfl,hb2⟩;have O2:=O1.after hb2.is;have S2:=S1.below hb2.is;have f0:=S2.c0;have f1:=S2.c1;have f2:=S2.c2;have f3:=S2.c3;have f4:=S2.c4;have f5:=S2.c5;clear hb2 O1 S1)
  |(simp only [zi4,zi5,zi6,zi7,zi8,zi9,zja,zjb,zjc,zjd,zje,Result.andThen_ok])
  |(go_at_call 207;(with_reducible refine (hT _).mono ?_);rintro e w3 ⟨rfl,rfl⟩;have O3:=O2;have hown3:=O3.own;have hlo3:=O3.lo)
  |(at_builtin;refine wpList_append_own _ rfl _ _ 101 rfl w0.heap.size 5 i0 (.int .u8 0) 1 1 Tryz.underlying101 hi hz0 hz1 hz2 rfl (by decide) _ _ _ rfl (hown3.alloc _) ⟨w2.heap.size,0,none⟩ 1 1 [_] rfl rfl (cell_one_new _ (.int .u8 1) _) ?_ ?_ ?_ ?_ ?_))
 all_goals (try (first | rfl |(simp only [List.length_append,List.length_cons,List.length_nil];unfold maxLen;omega) |(simp;omega) |(intro u hu;simp at hu;subst hu;rfl)))
 intro v3 w3 hown4 hgrow4 _
 have HO:=Lib.hid ((O3.alloc _).say (l':=l++[zb4 1 0]++[1]) hown4 hgrow4 (by simp) (by rw [za7 (a:=l++[zb4 1 0])];rfl))
 clear hown4 hgrow4 hown3 O3 O2 S2
 go_wp2_with fail
 go_ret
 exact ⟨_,rfl,by unfold encP;simpa using HO.out⟩
set_option maxRecDepth 20000 in
set_option maxHeartbeats 6400000 in
theorem zpj (w0 w:World) (A:Value) (l:List UInt8) (n:Int) (t x:ByteArray) (p:Option Addr) (q:List Val) (cap:Nat) (hf:Fine n t x q.length) (h:OwnB w0 A l w) (hl:l.length≤800000000):
 Calls Tryz.prog 166 #[A,.agg #[.int .i64 1,.bool false,.int .i64 n,.string t,.string x,.slice p q.length cap]] w (zc2 w0 l (.mk 1 false n t x q)):=by
 obtain ⟨i0,hi,hz0,hz1,hz2⟩:=info_parts ze4
 obtain ⟨W0,hW0⟩:∃ W0,W0=w.alloc (.cells #[.int .i64 1,.bool false,.int .i64 n,.string t,.string x,.slice p q.length cap] 48):=⟨_,rfl⟩
 have S:Six W0 w.heap.size 1 false n t x p q.length cap:=by rw [hW0];exact zak _ rfl
 have hne:=h.ne
 have O:OwnB w0 A l W0:=by rw [hW0];exact h.alloc _
 have hown:=O.own
 have f0:=S.c0
 have HS:Hid (W0.heap.size=w.heap.size+1):=Lib.hid (by rw [hW0];simp)
 have hlo:w0.heap.size≤w.heap.size:=h.lo
 have H0:=Lib.hid hW0
 have HF:=Lib.hid hf
 clear hW0 h hf
 have hT:∀ W,Calls Tryz.prog 207 #[.bool false] W fun e w'=>e=.returned (.int .i64 0)∧W=w':=fun W=>by
  have:=zod false W
  simpa using this
 go_enter Tryz.func166,Tryz.ntmps166
 go_wp2_with (at_builtin;rw [← H0.out];refine wpList_append_own _ rfl _ _ 101 rfl w0.heap.size 5 i0 (.int .u8 0) 1 1 Tryz.underlying101 hi hz0 hz1 hz2 rfl (by decide) _ _ _ rfl (hown.alloc _) ⟨w.heap.size+1,0,none⟩ 1 1 [.int .u8 (1)] rfl rfl ?_ ?_ ?_ ?_ ?_ ?_)
 all_goals (try (first | rfl |(unfold maxLen;omega) | omega |(simp [HS.out];omega) |(intro u hu;simp at hu;subst hu;rfl) |(rw [← HS.out];exact cell_one_new _ _ _) |(simp;done)))
 intro v1 w1 hown1 hgrow _
 have O1:=(O.alloc _).say (l':=l++[zb4 1 0]) hown1 hgrow (by simp) (by rw [za7,zcl _ (zbs _)];rfl)
 have S1:=(S.alloc (.cells #[.int .u8 (1)] 5)).grown hgrow hne
 clear hgrow hown1 hown O S f0 H0
 go_wp2_with (first
  |((with_reducible refine zai (.tmp 3) w.heap.size S1 ?_ ?_ ?_ ?_);rfl;rfl;rfl)
  |(go_at_call 156;(with_reducible refine (za1 1 _ _ _ _ _ 165 rfl _).mono ?_);rintro e w2 ⟨rfl,hb2⟩;have O2:=O1.after hb2.is;have S2:=S1.below hb2.is;have f0:=S2.c0;have f1:=S2.c1;have f2:=S2.c2;have f3:=S2.c3;have f4:=S2.c4;have f5:=S2.c5;clear hb2 O1 S1)
  |(simp only [zi4,zi5,zi6,zi7,zi8,zi9,zja,zjb,zjc,zjd,zje,Result.andThen_ok])
  |(go_at_call 207;(with_reducible refine (hT _).mono ?_);rintro e w3 ⟨rfl,rfl⟩;have O3:=O2;have hown3:=O3.own;have hlo3:=O3.lo)
  |(at_builtin;refine wpList_append_own _ rfl _ _ 101 rfl w0.heap.size 5 i0 (.int .u8 0) 1 1 Tryz.underlying101 hi hz0 hz1 hz2 rfl (by decide) _ _ _ rfl (hown3.alloc _) ⟨w2.heap.size,0,none⟩ 1 1 [_] rfl rfl (cell_one_new _ (.int .u8 0) _) ?_ ?_ ?_ ?_ ?_))
 all_goals (try (first | rfl |(simp only [List.length_append,List.length_cons,List.length_nil];unfold maxLen;omega) |(simp;omega) |(intro u hu;simp at hu;subst hu;rfl)))
 intro v3 w3 hown4 hgrow4 _
 have HO:=Lib.hid ((O3.alloc _).say (l':=l++[zb4 1 0]++[0]) hown4 hgrow4 (by simp) (by rw [za7 (a:=l++[zb4 1 0])];rfl))
 clear hown4 hgrow4 hown3 O3 O2 S2
 go_wp2_with fail
 go_ret
 exact ⟨_,rfl,by unfold encP;simpa using HO.out⟩
set_option maxRecDepth 20000 in
set_option maxHeartbeats 6400000 in
theorem encLit (w0 w:World) (A:Value) (l:List UInt8) (b:Bool) (n:Int) (t x:ByteArray) (p:Option Addr) (q:List Val) (cap:Nat) (hf:Fine n t x q.length) (h:OwnB w0 A l w) (hl:l.length≤800000000):
 Calls Tryz.prog 166 #[A,.agg #[.int .i64 10,.bool b,.int .i64 n,.string t,.string x,.slice p q.length cap]] w (zc2 w0 l (.mk 10 b n t x q)):=by
 obtain ⟨i0,hi,hz0,hz1,hz2⟩:=info_parts ze4
 obtain ⟨W0,hW0⟩:∃ W0,W0=w.alloc (.cells #[.int .i64 10,.bool b,.int .i64 n,.string t,.string x,.slice p q.length cap] 48):=⟨_,rfl⟩
 have S:Six W0 w.heap.size 10 b n t x p q.length cap:=by rw [hW0];exact zak _ rfl
 have hne:=h.ne
 have O:OwnB w0 A l W0:=by rw [hW0];exact h.alloc _
 have hown:=O.own
 have f0:=S.c0
 have HS:Hid (W0.heap.size=w.heap.size+1):=Lib.hid (by rw [hW0];simp)
 have hlo:w0.heap.size≤w.heap.size:=h.lo
 have H0:=Lib.hid hW0
 have HF:=Lib.hid hf
 clear hW0 h hf
 go_enter Tryz.func166,Tryz.ntmps166
 go_wp2_with (at_builtin;rw [← H0.out];refine wpList_append_own _ rfl _ _ 101 rfl w0.heap.size 5 i0 (.int .u8 0) 1 1 Tryz.underlying101 hi hz0 hz1 hz2 rfl (by decide) _ _ _ rfl (hown.alloc _) ⟨w.heap.size+1,0,none⟩ 1 1 [.int .u8 (10)] rfl rfl ?_ ?_ ?_ ?_ ?_ ?_)
 all_goals (try (first | rfl |(unfold maxLen;omega) | omega |(simp [HS.out];omega) |(intro u hu;simp at hu;subst hu;rfl) |(rw [← HS.out];exact cell_one_new _ _ _) |(simp;done)))
 intro v1 w1 hown1 hgrow _
 have O1:=(O.alloc _).say (l':=l++[zb4 10 0]) hown1 hgrow (by simp) (by rw [za7,zcl _ (zbs _)];rfl)
 have S1:=(S.alloc (.cells #[.int .u8 (10)] 5)).grown hgrow hne
 clear hgrow hown1 hown O S f0 H0
 go_upto_region 10 with (first
  |((with_reducible refine zai (.tmp 3) w.heap.size S1 ?_ ?_ ?_ ?_);rfl;rfl;rfl)
  |(go_at_call 156;(with_reducible refine (za1 10 _ _ _ _ _ 173 rfl _).mono ?_);rintro e w2 ⟨rfl,hb2⟩;have O2:=O1.after hb2.is;have S2:=S1.below hb2.is;have f0:=S2.c0;have f1:=S2.c1;have f2:=S2.c2;have f3:=S2.c3;have f4:=S2.c4;have f5:=S2.c5;clear hb2 O1 S1)
  |(simp only [zgj,zgk,zgl,zgm,zgn,zgo,zgp,zgq,zgr,zgs,zgt,Result.andThen_ok]))
 have HO2:=Lib.hid O2
 have Z2:=S2.lt
 clear f0 f1 f2 f3 f4 f5
 refine wp_region_held_drew (S:=fun W=>Six W w.heap.size 10 b n t x p q.length cap) (by kernel_rfl) S2 (fun hHeld=>?_)
 have O3:OwnB w0 v1 (l++[zb4 10 0]) w2.drew:=HO2.out.drew
 clear HO2 O2 S2
 refine tg (i:=0) v1 rfl hHeld ?_
 refine tg (i:=1) ((.pointer (some ⟨w.heap.size,3,none⟩))) rfl hHeld ?_
 refine tg (i:=4) ((.pointer (some ⟨w.heap.size,4,none⟩))) rfl hHeld ?_
 refine tk (i:=2) (v:=(.string t)) rfl (Or.inl ⟨by rfl,fun W h=>by have c0:=h.c3;go_simp⟩) hHeld ?_
 refine tk (i:=5) (v:=(.string x)) rfl (Or.inl ⟨by rfl,fun W h=>by have c0:=h.c4;go_simp⟩) hHeld ?_
 refine tr 3 rfl (fun K hK=>?_)
 rw [if_pos (by rfl)]
 go_simp
 refine (zc6 w0 _ _ _ t HF.out.ht O3 (by simp only [List.length_append,List.length_cons,List.length_nil];omega)).mono ?_
 rintro e w3 ⟨v3,rfl,O4,hx3⟩
 have hb3:=hHeld.bx hx3
 refine hK.out _ _ hb3 (fun hHeld2=>?_)
 clear hK K hHeld
 try simp only [putS]
 refine tr 6 rfl (fun K hK=>?_)
 rw [if_pos (by rfl)]
 go_simp
 refine (zc6 w0 _ _ _ x HF.out.hx O4 (by have:=HF.out.ht;simp only [List.length_append,List.length_cons,List.length_nil,zeu];omega)).mono ?_
 rintro e w4 ⟨v4,rfl,O5,hx4⟩
 have hb4:=hb3.bx hx4
 refine hK.out _ _ hb4 (fun hHeld3=>?_)
 clear hK K hHeld2
 try simp only [putS]
 refine tg (i:=7) v4 rfl hHeld3 ?_
 refine wpAnyH_done (by kernel_rfl) ?_ _
 have HO:=Lib.hid O5
 clear O5 O4 O3
 go_wp2_with fail
 go_ret
 exact ⟨_,rfl,by unfold encP;simpa using HO.out⟩
end Go.Proofs.YteclpnfckjfibaaGreatDoor
