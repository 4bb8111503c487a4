/- Texts of one kind, one behind the other: each says ahead of itself what it shows. -/
import Derived.Test.YteclpnfckjfibaaGreatDoorBac
import Derived.Test.YteclpnfckjfibaaGreatDoorBab
import Derived.BigQuiet
/- N5 -/
namespace Go.Proofs.YteclpnfckjfibaaGreatDoor
open Go.RowKit
set_option maxRecDepth 4000 in
set_option maxHeartbeats 1600000 in
theorem mayNull (b:Bool) (n:Int) (t x:ByteArray) (p:Option Addr) (len cap:Nat) (d:Int) (w:World):
 Calls Tryz.prog 99 #[.agg #[.int .i64 0,.bool b,.int .i64 n,.string t,.string x,.slice p len cap],.int .i64 d] w fun e w'=>e=.returned (.bool (zb7 b n t x len))∧Low w.heap.size w w':=by
 have l0:Six ((w.alloc (.cells #[.int .i64 0,.bool b,.int .i64 n,.string t,.string x,.slice p len cap] 48)).alloc (.cells #[.int .i64 0,.bool b,.int .i64 n,.string t,.string x,.slice p len cap] 48)) w.heap.size 0 b n t x p len cap:=(zak w rfl).alloc _
 have l1:Six ((w.alloc (.cells #[.int .i64 0,.bool b,.int .i64 n,.string t,.string x,.slice p len cap] 48)).alloc (.cells #[.int .i64 0,.bool b,.int .i64 n,.string t,.string x,.slice p len cap] 48)) (w.heap.size+1) 0 b n t x p len cap:=zak _ (by simp)
 have b0:=low2 w (.cells #[.int .i64 0,.bool b,.int .i64 n,.string t,.string x,.slice p len cap] 48) (.cells #[.int .i64 0,.bool b,.int .i64 n,.string t,.string x,.slice p len cap] 48)
 have l00:=zak (k:=0) (b:=b) (n:=n) (t:=t) (x:=x) (p:=p) (len:=len) (cap:=cap) w rfl
 go_enter Tryz.func99,Tryz.ntmps99
 go_wp2_with (first
  |((with_reducible refine zaj (.tmp 2) w.heap.size (by assumption) ?_ ?_ ?_ ?_);rfl;rfl;rfl)
  |((with_reducible refine zav (.tmp 5) (w.heap.size+1) (by assumption) ?_ ?_ ?_ ?_);rfl;rfl;rfl)
  |(go_at_call 156;(with_reducible refine (za5 0 b n t x _ 164 rfl _).mono ?_);rintro e w2 ⟨rfl,hb2⟩;have k2:=l0.below hb2.is;have m2:=l1.below hb2.is;have b2:=za1 b0 hb2 (by have:=l0.lt;omega);have z2:w.heap.size≤w2.heap.size:=by have:=k2.lt;omega
    clear l0 l1 l00 hb2 b0
    skip)
  |(simp only [zn5,zn6,zn7,zn8,zn9,zoa,zob,zoc,zod,zoe,zof,Result.andThen_ok])
  |(go_at_call 161;(with_reducible refine (zdc 0 _ _ _ _ _ _ _ _).mono ?_);rintro e w9 ⟨rfl,hb9⟩;have b9:=za1 b2 hb9 z2))
 go_ret
 exact ⟨rfl,b9⟩
set_option maxRecDepth 4000 in
set_option maxHeartbeats 1600000 in
theorem zxj (b:Bool) (n:Int) (t x:ByteArray) (p:Option Addr) (len cap:Nat) (d:Int) (w:World):
 Calls Tryz.prog 99 #[.agg #[.int .i64 1,.bool b,.int .i64 n,.string t,.string x,.slice p len cap],.int .i64 d] w fun e w'=>e=.returned (.bool (zb7 false n t x len))∧Low w.heap.size w w':=by
 have l0:Six ((w.alloc (.cells #[.int .i64 1,.bool b,.int .i64 n,.string t,.string x,.slice p len cap] 48)).alloc (.cells #[.int .i64 1,.bool b,.int .i64 n,.string t,.string x,.slice p len cap] 48)) w.heap.size 1 b n t x p len cap:=(zak w rfl).alloc _
 have l1:Six ((w.alloc (.cells #[.int .i64 1,.bool b,.int .i64 n,.string t,.string x,.slice p len cap] 48)).alloc (.cells #[.int .i64 1,.bool b,.int .i64 n,.string t,.string x,.slice p len cap] 48)) (w.heap.size+1) 1 b n t x p len cap:=zak _ (by simp)
 have b0:=low2 w (.cells #[.int .i64 1,.bool b,.int .i64 n,.string t,.string x,.slice p len cap] 48) (.cells #[.int .i64 1,.bool b,.int .i64 n,.string t,.string x,.slice p len cap] 48)
 have l00:=zak (k:=1) (b:=b) (n:=n) (t:=t) (x:=x) (p:=p) (len:=len) (cap:=cap) w rfl
 go_enter Tryz.func99,Tryz.ntmps99
 go_wp2_with (first
  |((with_reducible refine zaj (.tmp 2) w.heap.size (by assumption) ?_ ?_ ?_ ?_);rfl;rfl;rfl)
  |((with_reducible refine zav (.tmp 5) (w.heap.size+1) (by assumption) ?_ ?_ ?_ ?_);rfl;rfl;rfl)
  |(go_at_call 156;(with_reducible refine (za5 1 b n t x _ 165 rfl _).mono ?_);rintro e w2 ⟨rfl,hb2⟩;have k2:=l0.below hb2.is;have m2:=l1.below hb2.is;have b2:=za1 b0 hb2 (by have:=l0.lt;omega);have z2:w.heap.size≤w2.heap.size:=by have:=k2.lt;omega
    clear l0 l1 l00 hb2 b0
    have c1:=m2.c1;have f1:=m2.free 1;have m3:=m2.set1 false;have b3:=zb9 (o:=1) b2 none (.bool false) (show w.heap.size≤w.heap.size+1 by omega) z2;have z3:w.heap.size≤(w2.setCell ⟨w.heap.size+1,1,none⟩ (.bool false)).heap.size:=by simpa [World.setCell] using z2)
  |(simp only [ziy,ziz,zi0,zi1,zi2,zi3,zi4,zi5,zi6,zi7,zi8,Result.andThen_ok])
  |(go_at_call 161;(with_reducible refine (zdc 1 _ _ _ _ _ _ _ _).mono ?_);rintro e w9 ⟨rfl,hb9⟩;have b9:=za1 b3 hb9 z3))
 go_ret
 exact ⟨rfl,b9⟩
set_option maxRecDepth 4000 in
set_option maxHeartbeats 1600000 in
theorem zxk (b:Bool) (n:Int) (t x:ByteArray) (p:Option Addr) (len cap:Nat) (d:Int) (w:World):
 Calls Tryz.prog 99 #[.agg #[.int .i64 2,.bool b,.int .i64 n,.string t,.string x,.slice p len cap],.int .i64 d] w fun e w'=>e=.returned (.bool (zb7 b 0 t x len))∧Low w.heap.size w w':=by
 have l0:Six ((w.alloc (.cells #[.int .i64 2,.bool b,.int .i64 n,.string t,.string x,.slice p len cap] 48)).alloc (.cells #[.int .i64 2,.bool b,.int .i64 n,.string t,.string x,.slice p len cap] 48)) w.heap.size 2 b n t x p len cap:=(zak w rfl).alloc _
 have l1:Six ((w.alloc (.cells #[.int .i64 2,.bool b,.int .i64 n,.string t,.string x,.slice p len cap] 48)).alloc (.cells #[.int .i64 2,.bool b,.int .i64 n,.string t,.string x,.slice p len cap] 48)) (w.heap.size+1) 2 b n t x p len cap:=zak _ (by simp)
 have b0:=low2 w (.cells #[.int .i64 2,.bool b,.int .i64 n,.string t,.string x,.slice p len cap] 48) (.cells #[.int .i64 2,.bool b,.int .i64 n,.string t,.string x,.slice p len cap] 48)
 have l00:=zak (k:=2) (b:=b) (n:=n) (t:=t) (x:=x) (p:=p) (len:=len) (cap:=cap) w rfl
 go_enter Tryz.func99,Tryz.ntmps99
 go_wp2_with (first
  |((with_reducible refine zaj (.tmp 2) w.heap.size (by assumption) ?_ ?_ ?_ ?_);rfl;rfl;rfl)
  |((with_reducible refine zav (.tmp 5) (w.heap.size+1) (by assumption) ?_ ?_ ?_ ?_);rfl;rfl;rfl)
  |(go_at_call 156;(with_reducible refine (za5 2 b n t x _ 166 rfl _).mono ?_);rintro e w2 ⟨rfl,hb2⟩;have k2:=l0.below hb2.is;have m2:=l1.below hb2.is;have b2:=za1 b0 hb2 (by have:=l0.lt;omega);have z2:w.heap.size≤w2.heap.size:=by have:=k2.lt;omega
    clear l0 l1 l00 hb2 b0
    have c1:=m2.c2;have f1:=m2.free 2;have m3:=m2.set2 0;have b3:=zb9 (o:=2) b2 none (.int .i64 0) (show w.heap.size≤w.heap.size+1 by omega) z2;have z3:w.heap.size≤(w2.setCell ⟨w.heap.size+1,2,none⟩ (.int .i64 0)).heap.size:=by simpa [World.setCell] using z2)
  |(simp only [zog,zoh,zoi,zoj,zok,zol,zom,zon,zoo,zop,zoq,Result.andThen_ok])
  |(go_at_call 161;(with_reducible refine (zdc 2 _ _ _ _ _ _ _ _).mono ?_);rintro e w9 ⟨rfl,hb9⟩;have b9:=za1 b3 hb9 z3))
 go_ret
 exact ⟨rfl,b9⟩
theorem chkAs (s:ByteArray) (r:Bool) (h:chk s.data.toList=r) (w:World) (hG:Gd w) (hs:s.size < 4294967281):Calls Tryz.prog 157 #[.string s] w fun e w'=>e=.returned (.bool r)∧Low w.heap.size w w':=by
 subst h
 exact checkAt s w hG hs
theorem zrn (s:ByteArray) (r:Bool) (h:zco s=r) (w:World) (hs:s.size≤maxLen):Calls Tryz.prog 158 #[.string s] w fun e w'=>e=.returned (.bool r)∧Low w.heap.size w w':=by
 subst h
 exact (zqd s w hs).mono fun _ _ ⟨h,k⟩=>⟨h,k ▸ Low.refl _ _⟩
theorem zzl (s:ByteArray) (r:Bool) (h:zca s=r) (w:World) (hs:s.size≤maxLen):Calls Tryz.prog 159 #[.string s] w fun e w'=>e=.returned (.bool r)∧Low w.heap.size w w':=by
 subst h
 exact (zxi s w hs).mono fun _ _ ⟨h,k⟩=>⟨h,k ▸ Low.refl _ _⟩
set_option maxRecDepth 4000 in
set_option maxHeartbeats 1600000 in
theorem zqe (b:Bool) (n:Int) (t x:ByteArray) (p:Option Addr) (len cap:Nat) (d:Int) (w:World) (hG:Gd w) (hs:t.size < 4294967281) (h:chk t.data.toList=true):
 Calls Tryz.prog 99 #[.agg #[.int .i64 3,.bool b,.int .i64 n,.string t,.string x,.slice p len cap],.int .i64 d] w fun e w'=>e=.returned (.bool (zb7 b n ⟨#[]⟩ x len))∧Low w.heap.size w w':=by
 have l0:Six ((w.alloc (.cells #[.int .i64 3,.bool b,.int .i64 n,.string t,.string x,.slice p len cap] 48)).alloc (.cells #[.int .i64 3,.bool b,.int .i64 n,.string t,.string x,.slice p len cap] 48)) w.heap.size 3 b n t x p len cap:=(zak w rfl).alloc _
 have l1:Six ((w.alloc (.cells #[.int .i64 3,.bool b,.int .i64 n,.string t,.string x,.slice p len cap] 48)).alloc (.cells #[.int .i64 3,.bool b,.int .i64 n,.string t,.string x,.slice p len cap] 48)) (w.heap.size+1) 3 b n t x p len cap:=zak _ (by simp)
 have b0:=low2 w (.cells #[.int .i64 3,.bool b,.int .i64 n,.string t,.string x,.slice p len cap] 48) (.cells #[.int .i64 3,.bool b,.int .i64 n,.string t,.string x,.slice p len cap] 48)
 have l00:=zak (k:=3) (b:=b) (n:=n) (t:=t) (x:=x) (p:=p) (len:=len) (cap:=cap) w rfl
 go_enter Tryz.func99,Tryz.ntmps99
 go_wp2_with (first
  |((with_reducible refine zaj (.tmp 2) w.heap.size (by assumption) ?_ ?_ ?_ ?_);rfl;rfl;rfl)
  |((with_reducible refine zav (.tmp 5) (w.heap.size+1) (by assumption) ?_ ?_ ?_ ?_);rfl;rfl;rfl)
  |(go_at_call 156;(with_reducible refine (za5 3 b n t x _ 169 rfl _).mono ?_);rintro e w2 ⟨rfl,hb2⟩;have k2:=l0.below hb2.is;have m2:=l1.below hb2.is;have b2:=za1 b0 hb2 (by have:=l0.lt;omega);have z2:w.heap.size≤w2.heap.size:=by have:=k2.lt;omega
    clear l0 l1 l00 hb2 b0
    have c3:=k2.c3)
  |(simp only [zjv,zjw,zjx,zjy,zjz,zj0,zj1,zj2,zj3,zj4,zj5,Result.andThen_ok])
  |(go_at_call 157;(with_reducible refine (chkAs t _ h _ (hG.below b2.is) hs).mono ?_);rintro e w3 ⟨rfl,hb3⟩;have b3:=za1 b2 hb3 z2;have m3:=m2.below hb3.is;have e3:=m3.c3;have f3:=m3.free 3;have m4:=m3.set3 ⟨#[]⟩;have z3:w.heap.size≤w3.heap.size:=(by have:=m3.lt;omega);have b4:=zb9 (o:=3) b3 none (.string ⟨#[]⟩) (show w.heap.size≤w.heap.size+1 by omega) z3;have z4:w.heap.size≤(w3.setCell ⟨w.heap.size+1,3,none⟩ (.string ⟨#[]⟩)).heap.size:=by simpa [World.setCell] using z3)
  |(go_at_call 161;(with_reducible refine (zdc 3 _ _ _ _ _ _ _ _).mono ?_);rintro e w9 ⟨rfl,hb9⟩;have b9:=za1 b4 hb9 z4))
 go_ret
 exact ⟨rfl,b9⟩
set_option maxRecDepth 4000 in
set_option maxHeartbeats 1600000 in
theorem zso (b:Bool) (n:Int) (t x:ByteArray) (p:Option Addr) (len cap:Nat) (d:Int) (w:World) (hG:Gd w) (hs:t.size < 4294967281) (h:chk t.data.toList=false):
 Calls Tryz.prog 99 #[.agg #[.int .i64 3,.bool b,.int .i64 n,.string t,.string x,.slice p len cap],.int .i64 d] w fun e w'=>e=.returned (.bool (false))∧Low w.heap.size w w':=by
 have l0:Six ((w.alloc (.cells #[.int .i64 3,.bool b,.int .i64 n,.string t,.string x,.slice p len cap] 48)).alloc (.cells #[.int .i64 3,.bool b,.int .i64 n,.string t,.string x,.slice p len cap] 48)) w.heap.size 3 b n t x p len cap:=(zak w rfl).alloc _
 have l1:Six ((w.alloc (.cells #[.int .i64 3,.bool b,.int .i64 n,.string t,.string x,.slice p len cap] 48)).alloc (.cells #[.int .i64 3,.bool b,.int .i64 n,.string t,.string x,.slice p len cap] 48)) (w.heap.size+1) 3 b n t x p len cap:=zak _ (by simp)
 have b0:=low2 w (.cells #[.int .i64 3,.bool b,.int .i64 n,.string t,.string x,.slice p len cap] 48) (.cells #[.int .i64 3,.bool b,.int .i64 n,.string t,.string x,.slice p len cap] 48)
 have l00:=zak (k:=3) (b:=b) (n:=n) (t:=t) (x:=x) (p:=p) (len:=len) (cap:=cap) w rfl
 go_enter Tryz.func99,Tryz.ntmps99
 go_wp2_with (first
  |((with_reducible refine zaj (.tmp 2) w.heap.size (by assumption) ?_ ?_ ?_ ?_);rfl;rfl;rfl)
  |((with_reducible refine zav (.tmp 5) (w.heap.size+1) (by assumption) ?_ ?_ ?_ ?_);rfl;rfl;rfl)
  |(go_at_call 156;(with_reducible refine (za5 3 b n t x _ 169 rfl _).mono ?_);rintro e w2 ⟨rfl,hb2⟩;have k2:=l0.below hb2.is;have m2:=l1.below hb2.is;have b2:=za1 b0 hb2 (by have:=l0.lt;omega);have z2:w.heap.size≤w2.heap.size:=by have:=k2.lt;omega
    clear l0 l1 l00 hb2 b0
    have c3:=k2.c3)
  |(simp only [zjv,zjw,zjx,zjy,zjz,zj0,zj1,zj2,zj3,zj4,zj5,Result.andThen_ok])
  |(go_at_call 157;(with_reducible refine (chkAs t _ h _ (hG.below b2.is) hs).mono ?_);rintro e w3 ⟨rfl,hb3⟩;have b3:=za1 b2 hb3 z2;have m3:=m2.below hb3.is;have e3:=m3.c3;have f3:=m3.free 3;have m4:=m3.set3 ⟨#[]⟩;have z3:w.heap.size≤w3.heap.size:=(by have:=m3.lt;omega);have b9:=zb9 (o:=3) b3 none (.string ⟨#[]⟩) (show w.heap.size≤w.heap.size+1 by omega) z3))
 go_ret
 exact ⟨rfl,b9⟩
set_option maxRecDepth 4000 in
set_option maxHeartbeats 1600000 in
theorem zui (b:Bool) (n:Int) (t x:ByteArray) (p:Option Addr) (len cap:Nat) (d:Int) (w:World) (hs:t.size≤maxLen) (h:zco t=true):
 Calls Tryz.prog 99 #[.agg #[.int .i64 8,.bool b,.int .i64 n,.string t,.string x,.slice p len cap],.int .i64 d] w fun e w'=>e=.returned (.bool (zb7 b n ⟨#[]⟩ x len))∧Low w.heap.size w w':=by
 have l0:Six ((w.alloc (.cells #[.int .i64 8,.bool b,.int .i64 n,.string t,.string x,.slice p len cap] 48)).alloc (.cells #[.int .i64 8,.bool b,.int .i64 n,.string t,.string x,.slice p len cap] 48)) w.heap.size 8 b n t x p len cap:=(zak w rfl).alloc _
 have l1:Six ((w.alloc (.cells #[.int .i64 8,.bool b,.int .i64 n,.string t,.string x,.slice p len cap] 48)).alloc (.cells #[.int .i64 8,.bool b,.int .i64 n,.string t,.string x,.slice p len cap] 48)) (w.heap.size+1) 8 b n t x p len cap:=zak _ (by simp)
 have b0:=low2 w (.cells #[.int .i64 8,.bool b,.int .i64 n,.string t,.string x,.slice p len cap] 48) (.cells #[.int .i64 8,.bool b,.int .i64 n,.string t,.string x,.slice p len cap] 48)
 have l00:=zak (k:=8) (b:=b) (n:=n) (t:=t) (x:=x) (p:=p) (len:=len) (cap:=cap) w rfl
 go_enter Tryz.func99,Tryz.ntmps99
 go_wp2_with (first
  |((with_reducible refine zaj (.tmp 2) w.heap.size (by assumption) ?_ ?_ ?_ ?_);rfl;rfl;rfl)
  |((with_reducible refine zav (.tmp 5) (w.heap.size+1) (by assumption) ?_ ?_ ?_ ?_);rfl;rfl;rfl)
  |(go_at_call 156;(with_reducible refine (za5 8 b n t x _ 171 rfl _).mono ?_);rintro e w2 ⟨rfl,hb2⟩;have k2:=l0.below hb2.is;have m2:=l1.below hb2.is;have b2:=za1 b0 hb2 (by have:=l0.lt;omega);have z2:w.heap.size≤w2.heap.size:=by have:=k2.lt;omega
    clear l0 l1 l00 hb2 b0
    have c3:=k2.c3)
  |(simp only [zkh,zki,zkj,zkk,zkl,zkm,zkn,zko,zkp,zkq,zkr,Result.andThen_ok])
  |(go_at_call 158;(with_reducible refine (zrn t _ h _ hs).mono ?_);rintro e w3 ⟨rfl,hb3⟩;have b3:=za1 b2 hb3 z2;have m3:=m2.below hb3.is;have e3:=m3.c3;have f3:=m3.free 3;have m4:=m3.set3 ⟨#[]⟩;have z3:w.heap.size≤w3.heap.size:=(by have:=m3.lt;omega);have b4:=zb9 (o:=3) b3 none (.string ⟨#[]⟩) (show w.heap.size≤w.heap.size+1 by omega) z3;have z4:w.heap.size≤(w3.setCell ⟨w.heap.size+1,3,none⟩ (.string ⟨#[]⟩)).heap.size:=by simpa [World.setCell] using z3)
  |(go_at_call 161;(with_reducible refine (zdc 8 _ _ _ _ _ _ _ _).mono ?_);rintro e w9 ⟨rfl,hb9⟩;have b9:=za1 b4 hb9 z4))
 go_ret
 exact ⟨rfl,b9⟩
set_option maxRecDepth 4000 in
set_option maxHeartbeats 1600000 in
theorem zxl (b:Bool) (n:Int) (t x:ByteArray) (p:Option Addr) (len cap:Nat) (d:Int) (w:World) (hs:t.size≤maxLen) (h:zco t=false):
 Calls Tryz.prog 99 #[.agg #[.int .i64 8,.bool b,.int .i64 n,.string t,.string x,.slice p len cap],.int .i64 d] w fun e w'=>e=.returned (.bool (false))∧Low w.heap.size w w':=by
 have l0:Six ((w.alloc (.cells #[.int .i64 8,.bool b,.int .i64 n,.string t,.string x,.slice p len cap] 48)).alloc (.cells #[.int .i64 8,.bool b,.int .i64 n,.string t,.string x,.slice p len cap] 48)) w.heap.size 8 b n t x p len cap:=(zak w rfl).alloc _
 have l1:Six ((w.alloc (.cells #[.int .i64 8,.bool b,.int .i64 n,.string t,.string x,.slice p len cap] 48)).alloc (.cells #[.int .i64 8,.bool b,.int .i64 n,.string t,.string x,.slice p len cap] 48)) (w.heap.size+1) 8 b n t x p len cap:=zak _ (by simp)
 have b0:=low2 w (.cells #[.int .i64 8,.bool b,.int .i64 n,.string t,.string x,.slice p len cap] 48) (.cells #[.int .i64 8,.bool b,.int .i64 n,.string t,.string x,.slice p len cap] 48)
 have l00:=zak (k:=8) (b:=b) (n:=n) (t:=t) (x:=x) (p:=p) (len:=len) (cap:=cap) w rfl
 go_enter Tryz.func99,Tryz.ntmps99
 go_wp2_with (first
  |((with_reducible refine zaj (.tmp 2) w.heap.size (by assumption) ?_ ?_ ?_ ?_);rfl;rfl;rfl)
  |((with_reducible refine zav (.tmp 5) (w.heap.size+1) (by assumption) ?_ ?_ ?_ ?_);rfl;rfl;rfl)
  |(go_at_call 156;(with_reducible refine (za5 8 b n t x _ 171 rfl _).mono ?_);rintro e w2 ⟨rfl,hb2⟩;have k2:=l0.below hb2.is;have m2:=l1.below hb2.is;have b2:=za1 b0 hb2 (by have:=l0.lt;omega);have z2:w.heap.size≤w2.heap.size:=by have:=k2.lt;omega
    clear l0 l1 l00 hb2 b0
    have c3:=k2.c3)
  |(simp only [zkh,zki,zkj,zkk,zkl,zkm,zkn,zko,zkp,zkq,zkr,Result.andThen_ok])
  |(go_at_call 158;(with_reducible refine (zrn t _ h _ hs).mono ?_);rintro e w3 ⟨rfl,hb3⟩;have b3:=za1 b2 hb3 z2;have m3:=m2.below hb3.is;have e3:=m3.c3;have f3:=m3.free 3;have m4:=m3.set3 ⟨#[]⟩;have z3:w.heap.size≤w3.heap.size:=(by have:=m3.lt;omega);have b9:=zb9 (o:=3) b3 none (.string ⟨#[]⟩) (show w.heap.size≤w.heap.size+1 by omega) z3))
 go_ret
 exact ⟨rfl,b9⟩
set_option maxRecDepth 4000 in
set_option maxHeartbeats 1600000 in
theorem zqf (b:Bool) (n:Int) (t x:ByteArray) (p:Option Addr) (len cap:Nat) (d:Int) (w:World) (hs:t.size≤maxLen) (h:zca t=true):
 Calls Tryz.prog 99 #[.agg #[.int .i64 9,.bool b,.int .i64 n,.string t,.string x,.slice p len cap],.int .i64 d] w fun e w'=>e=.returned (.bool (zb7 b n ⟨#[]⟩ x len))∧Low w.heap.size w w':=by
 have l0:Six ((w.alloc (.cells #[.int .i64 9,.bool b,.int .i64 n,.string t,.string x,.slice p len cap] 48)).alloc (.cells #[.int .i64 9,.bool b,.int .i64 n,.string t,.string x,.slice p len cap] 48)) w.heap.size 9 b n t x p len cap:=(zak w rfl).alloc _
 have l1:Six ((w.alloc (.cells #[.int .i64 9,.bool b,.int .i64 n,.string t,.string x,.slice p len cap] 48)).alloc (.cells #[.int .i64 9,.bool b,.int .i64 n,.string t,.string x,.slice p len cap] 48)) (w.heap.size+1) 9 b n t x p len cap:=zak _ (by simp)
 have b0:=low2 w (.cells #[.int .i64 9,.bool b,.int .i64 n,.string t,.string x,.slice p len cap] 48) (.cells #[.int .i64 9,.bool b,.int .i64 n,.string t,.string x,.slice p len cap] 48)
 have l00:=zak (k:=9) (b:=b) (n:=n) (t:=t) (x:=x) (p:=p) (len:=len) (cap:=cap) w rfl
 go_enter Tryz.func99,Tryz.ntmps99
 go_wp2_with (first
  |((with_reducible refine zaj (.tmp 2) w.heap.size (by assumption) ?_ ?_ ?_ ?_);rfl;rfl;rfl)
  |((with_reducible refine zav (.tmp 5) (w.heap.size+1) (by assumption) ?_ ?_ ?_ ?_);rfl;rfl;rfl)
  |(go_at_call 156;(with_reducible refine (za5 9 b n t x _ 172 rfl _).mono ?_);rintro e w2 ⟨rfl,hb2⟩;have k2:=l0.below hb2.is;have m2:=l1.below hb2.is;have b2:=za1 b0 hb2 (by have:=l0.lt;omega);have z2:w.heap.size≤w2.heap.size:=by have:=k2.lt;omega
    clear l0 l1 l00 hb2 b0
    have c3:=k2.c3)
  |(simp only [zks,zkt,zku,zkv,zkw,zkx,zky,zkz,zk0,zk1,zk2,Result.andThen_ok])
  |(go_at_call 159;(with_reducible refine (zzl t _ h _ hs).mono ?_);rintro e w3 ⟨rfl,hb3⟩;have b3:=za1 b2 hb3 z2;have m3:=m2.below hb3.is;have e3:=m3.c3;have f3:=m3.free 3;have m4:=m3.set3 ⟨#[]⟩;have z3:w.heap.size≤w3.heap.size:=(by have:=m3.lt;omega);have b4:=zb9 (o:=3) b3 none (.string ⟨#[]⟩) (show w.heap.size≤w.heap.size+1 by omega) z3;have z4:w.heap.size≤(w3.setCell ⟨w.heap.size+1,3,none⟩ (.string ⟨#[]⟩)).heap.size:=by simpa [World.setCell] using z3)
  |(go_at_call 161;(with_reducible refine (zdc 9 _ _ _ _ _ _ _ _).mono ?_);rintro e w9 ⟨rfl,hb9⟩;have b9:=za1 b4 hb9 z4))
 go_ret
 exact ⟨rfl,b9⟩
set_option maxRecDepth 4000 in
set_option maxHeartbeats 1600000 in
theorem zsp (b:Bool) (n:Int) (t x:ByteArray) (p:Option Addr) (len cap:Nat) (d:Int) (w:World) (hs:t.size≤maxLen) (h:zca t=false):
 Calls Tryz.prog 99 #[.agg #[.int .i64 9,.bool b,.int .i64 n,.string t,.string x,.slice p len cap],.int .i64 d] w fun e w'=>e=.returned (.bool (false))∧Low w.heap.size w w':=by
 have l0:Six ((w.alloc (.cells #[.int .i64 9,.bool b,.int .i64 n,.string t,.string x,.slice p len cap] 48)).alloc (.cells #[.int .i64 9,.bool b,.int .i64 n,.string t,.string x,.slice p len cap] 48)) w.heap.size 9 b n t x p len cap:=(zak w rfl).alloc _
 have l1:Six ((w.alloc (.cells #[.int .i64 9,.bool b,.int .i64 n,.string t,.string x,.slice p len cap] 48)).alloc (.cells #[.int .i64 9,.bool b,.int .i64 n,.string t,.string x,.slice p len cap] 48)) (w.heap.size+1) 9 b n t x p len cap:=zak _ (by simp)
 have b0:=low2 w (.cells #[.int .i64 9,.bool b,.int .i64 n,.string t,.string x,.slice p len cap] 48) (.cells #[.int .i64 9,.bool b,.int .i64 n,.string t,.string x,.slice p len cap] 48)
 have l00:=zak (k:=9) (b:=b) (n:=n) (t:=t) (x:=x) (p:=p) (len:=len) (cap:=cap) w rfl
 go_enter Tryz.func99,Tryz.ntmps99
 go_wp2_with (first
  |((with_reducible refine zaj (.tmp 2) w.heap.size (by assumption) ?_ ?_ ?_ ?_);rfl;rfl;rfl)
  |((with_reducible refine zav (.tmp 5) (w.heap.size+1) (by assumption) ?_ ?_ ?_ ?_);rfl;rfl;rfl)
  |(go_at_call 156;(with_reducible refine (za5 9 b n t x _ 172 rfl _).mono ?_);rintro e w2 ⟨rfl,hb2⟩;have k2:=l0.below hb2.is;have m2:=l1.below hb2.is;have b2:=za1 b0 hb2 (by have:=l0.lt;omega);have z2:w.heap.size≤w2.heap.size:=by have:=k2.lt;omega
    clear l0 l1 l00 hb2 b0
    have c3:=k2.c3)
  |(simp only [zks,zkt,zku,zkv,zkw,zkx,zky,zkz,zk0,zk1,zk2,Result.andThen_ok])
  |(go_at_call 159;(with_reducible refine (zzl t _ h _ hs).mono ?_);rintro e w3 ⟨rfl,hb3⟩;have b3:=za1 b2 hb3 z2;have m3:=m2.below hb3.is;have e3:=m3.c3;have f3:=m3.free 3;have m4:=m3.set3 ⟨#[]⟩;have z3:w.heap.size≤w3.heap.size:=(by have:=m3.lt;omega);have b9:=zb9 (o:=3) b3 none (.string ⟨#[]⟩) (show w.heap.size≤w.heap.size+1 by omega) z3))
 go_ret
 exact ⟨rfl,b9⟩
end Go.Proofs.YteclpnfckjfibaaGreatDoor

/- N7 -/
namespace Go.Proofs.YteclpnfckjfibaaGreatDoor
open Go.RowKit
set_option maxRecDepth 4000 in
set_option maxHeartbeats 1600000 in
theorem zsq (b:Bool) (n:Int) (t x:ByteArray) (p:Option Addr) (len cap:Nat) (d:Int) (w:World) (d0:0≤d) (d1:d≤1000) (hc:∀ W,Low w.heap.size w W→Calls Tryz.prog 160 #[.slice p len cap,.int .i64 (d+1)] W fun e w'=>e=.returned (.bool true)∧Low W.heap.size W w'):
 Calls Tryz.prog 99 #[.agg #[.int .i64 5,.bool b,.int .i64 n,.string t,.string x,.slice p len cap],.int .i64 d] w fun e w'=>e=.returned (.bool (zb7 b n t x 0))∧Low w.heap.size w w':=by
 have l0:Six ((w.alloc (.cells #[.int .i64 5,.bool b,.int .i64 n,.string t,.string x,.slice p len cap] 48)).alloc (.cells #[.int .i64 5,.bool b,.int .i64 n,.string t,.string x,.slice p len cap] 48)) w.heap.size 5 b n t x p len cap:=(zak w rfl).alloc _
 have l1:Six ((w.alloc (.cells #[.int .i64 5,.bool b,.int .i64 n,.string t,.string x,.slice p len cap] 48)).alloc (.cells #[.int .i64 5,.bool b,.int .i64 n,.string t,.string x,.slice p len cap] 48)) (w.heap.size+1) 5 b n t x p len cap:=zak _ (by simp)
 have b0:=low2 w (.cells #[.int .i64 5,.bool b,.int .i64 n,.string t,.string x,.slice p len cap] 48) (.cells #[.int .i64 5,.bool b,.int .i64 n,.string t,.string x,.slice p len cap] 48)
 have l00:=zak (k:=5) (b:=b) (n:=n) (t:=t) (x:=x) (p:=p) (len:=len) (cap:=cap) w rfl
 go_enter Tryz.func99,Tryz.ntmps99
 go_wp2_with (first
  |((with_reducible refine zaj (.tmp 2) w.heap.size (by assumption) ?_ ?_ ?_ ?_);rfl;rfl;rfl)
  |((with_reducible refine zav (.tmp 5) (w.heap.size+1) (by assumption) ?_ ?_ ?_ ?_);rfl;rfl;rfl)
  |(go_at_call 156;(with_reducible refine (za5 5 b n t x _ 174 rfl _).mono ?_);rintro e w2 ⟨rfl,hb2⟩;have k2:=l0.below hb2.is;have m2:=l1.below hb2.is;have b2:=za1 b0 hb2 (by have:=l0.lt;omega);have z2:w.heap.size≤w2.heap.size:=by have:=k2.lt;omega
    clear l0 l1 l00 hb2 b0
    have c5:=k2.c5;have e1:IntKind.i64.wrap (d+1)=d+1:=IntWalk.i64_in _ (by omega))
  |(simp only [zgm,zgn,zgo,zgp,zgq,zgr,zgs,zgt,zgu,zgv,zgw,Result.andThen_ok])
  |(go_at_call 160;(with_reducible refine (hc _ b2).mono ?_);rintro e w3 ⟨rfl,hb3⟩;have b3:=za1 b2 hb3 z2;have m3:=m2.below hb3.is;have e3:=m3.c5;have f3:=m3.free 5;have m4:=m3.set5 none 0 0;have z3:w.heap.size≤w3.heap.size:=(by have:=m3.lt;omega);have b4:=zb9 (o:=5) b3 none (.slice none 0 0) (show w.heap.size≤w.heap.size+1 by omega) z3;have z4:w.heap.size≤(w3.setCell ⟨w.heap.size+1,5,none⟩ (.slice none 0 0)).heap.size:=by simpa [World.setCell] using z3)
  |(go_at_call 161;(with_reducible refine (zdc 5 _ _ _ _ _ _ _ _).mono ?_);rintro e w9 ⟨rfl,hb9⟩;have b9:=za1 b4 hb9 z4))
 go_ret
 exact ⟨rfl,b9⟩
set_option maxRecDepth 4000 in
set_option maxHeartbeats 1600000 in
theorem zuj (b:Bool) (n:Int) (t x:ByteArray) (p:Option Addr) (len cap:Nat) (d:Int) (w:World) (d0:0≤d) (d1:d≤1000) (hc:∀ W,Low w.heap.size w W→Calls Tryz.prog 160 #[.slice p len cap,.int .i64 (d+1)] W fun e w'=>e=.returned (.bool false)∧Low W.heap.size W w'):
 Calls Tryz.prog 99 #[.agg #[.int .i64 5,.bool b,.int .i64 n,.string t,.string x,.slice p len cap],.int .i64 d] w fun e w'=>e=.returned (.bool (false))∧Low w.heap.size w w':=by
 have l0:Six ((w.alloc (.cells #[.int .i64 5,.bool b,.int .i64 n,.string t,.string x,.slice p len cap] 48)).alloc (.cells #[.int .i64 5,.bool b,.int .i64 n,.string t,.string x,.slice p len cap] 48)) w.heap.size 5 b n t x p len cap:=(zak w rfl).alloc _
 have l1:Six ((w.alloc (.cells #[.int .i64 5,.bool b,.int .i64 n,.string t,.string x,.slice p len cap] 48)).alloc (.cells #[.int .i64 5,.bool b,.int .i64 n,.string t,.string x,.slice p len cap] 48)) (w.heap.size+1) 5 b n t x p len cap:=zak _ (by simp)
 have b0:=low2 w (.cells #[.int .i64 5,.bool b,.int .i64 n,.string t,.string x,.slice p len cap] 48) (.cells #[.int .i64 5,.bool b,.int .i64 n,.string t,.string x,.slice p len cap] 48)
 have l00:=zak (k:=5) (b:=b) (n:=n) (t:=t) (x:=x) (p:=p) (len:=len) (cap:=cap) w rfl
 go_enter Tryz.func99,Tryz.ntmps99
 go_wp2_with (first
  |((with_reducible refine zaj (.tmp 2) w.heap.size (by assumption) ?_ ?_ ?_ ?_);rfl;rfl;rfl)
  |((with_reducible refine zav (.tmp 5) (w.heap.size+1) (by assumption) ?_ ?_ ?_ ?_);rfl;rfl;rfl)
  |(go_at_call 156;(with_reducible refine (za5 5 b n t x _ 174 rfl _).mono ?_);rintro e w2 ⟨rfl,hb2⟩;have k2:=l0.below hb2.is;have m2:=l1.below hb2.is;have b2:=za1 b0 hb2 (by have:=l0.lt;omega);have z2:w.heap.size≤w2.heap.size:=by have:=k2.lt;omega
    clear l0 l1 l00 hb2 b0
    have c5:=k2.c5;have e1:IntKind.i64.wrap (d+1)=d+1:=IntWalk.i64_in _ (by omega))
  |(simp only [zgm,zgn,zgo,zgp,zgq,zgr,zgs,zgt,zgu,zgv,zgw,Result.andThen_ok])
  |(go_at_call 160;(with_reducible refine (hc _ b2).mono ?_);rintro e w3 ⟨rfl,hb3⟩;have b3:=za1 b2 hb3 z2;have m3:=m2.below hb3.is;have e3:=m3.c5;have f3:=m3.free 5;have m4:=m3.set5 none 0 0;have z3:w.heap.size≤w3.heap.size:=(by have:=m3.lt;omega);have b4:=zb9 (o:=5) b3 none (.slice none 0 0) (show w.heap.size≤w.heap.size+1 by omega) z3;have z4:w.heap.size≤(w3.setCell ⟨w.heap.size+1,5,none⟩ (.slice none 0 0)).heap.size:=by simpa [World.setCell] using z3))
 go_ret
 exact ⟨rfl,b4⟩
set_option maxRecDepth 4000 in
set_option maxHeartbeats 1600000 in
theorem zqg (k:Int) (b:Bool) (n:Int) (t x:ByteArray) (p:Option Addr) (len cap:Nat) (d:Int) (w:World) (hk:zm2 k=200):
 Calls Tryz.prog 99 #[.agg #[.int .i64 k,.bool b,.int .i64 n,.string t,.string x,.slice p len cap],.int .i64 d] w fun e w'=>e=.returned (.bool (false))∧Low w.heap.size w w':=by
 have l0:Six ((w.alloc (.cells #[.int .i64 k,.bool b,.int .i64 n,.string t,.string x,.slice p len cap] 48)).alloc (.cells #[.int .i64 k,.bool b,.int .i64 n,.string t,.string x,.slice p len cap] 48)) w.heap.size k b n t x p len cap:=(zak w rfl).alloc _
 have l1:Six ((w.alloc (.cells #[.int .i64 k,.bool b,.int .i64 n,.string t,.string x,.slice p len cap] 48)).alloc (.cells #[.int .i64 k,.bool b,.int .i64 n,.string t,.string x,.slice p len cap] 48)) (w.heap.size+1) k b n t x p len cap:=zak _ (by simp)
 have b0:=low2 w (.cells #[.int .i64 k,.bool b,.int .i64 n,.string t,.string x,.slice p len cap] 48) (.cells #[.int .i64 k,.bool b,.int .i64 n,.string t,.string x,.slice p len cap] 48)
 have l00:=zak (k:=k) (b:=b) (n:=n) (t:=t) (x:=x) (p:=p) (len:=len) (cap:=cap) w rfl
 go_enter Tryz.func99,Tryz.ntmps99
 go_wp2_with (first
  |((with_reducible refine zaj (.tmp 2) w.heap.size (by assumption) ?_ ?_ ?_ ?_);rfl;rfl;rfl)
  |((with_reducible refine zav (.tmp 5) (w.heap.size+1) (by assumption) ?_ ?_ ?_ ?_);rfl;rfl;rfl)
  |(go_at_call 156;(with_reducible refine (za5 k b n t x _ 200 hk.symm _).mono ?_);rintro e w2 ⟨rfl,hb2⟩;have k2:=l0.below hb2.is;have m2:=l1.below hb2.is;have b2:=za1 b0 hb2 (by have:=l0.lt;omega);have z2:w.heap.size≤w2.heap.size:=by have:=k2.lt;omega
    clear l0 l1 l00 hb2 b0
    skip)
  |(simp only [zor,zos,zot,zou,zov,zow,zox,zoy,zoz,zo0,zo1,Result.andThen_ok]))
 go_ret
 exact ⟨rfl,b2⟩
end Go.Proofs.YteclpnfckjfibaaGreatDoor

/- N8 -/
namespace Go.Proofs.YteclpnfckjfibaaGreatDoor
open Go.RowKit
set_option maxRecDepth 4000 in
set_option maxHeartbeats 1600000 in
theorem zsr (b:Bool) (n:Int) (t x:ByteArray) (p:Option Addr) (len cap:Nat) (d:Int) (w:World) (hn:0≤n):
 Calls Tryz.prog 99 #[.agg #[.int .i64 6,.bool b,.int .i64 n,.string t,.string x,.slice p len cap],.int .i64 d] w fun e w'=>e=.returned (.bool (zb7 b 0 t x len))∧Low w.heap.size w w':=by
 have l0:Six ((w.alloc (.cells #[.int .i64 6,.bool b,.int .i64 n,.string t,.string x,.slice p len cap] 48)).alloc (.cells #[.int .i64 6,.bool b,.int .i64 n,.string t,.string x,.slice p len cap] 48)) w.heap.size 6 b n t x p len cap:=(zak w rfl).alloc _
 have l1:Six ((w.alloc (.cells #[.int .i64 6,.bool b,.int .i64 n,.string t,.string x,.slice p len cap] 48)).alloc (.cells #[.int .i64 6,.bool b,.int .i64 n,.string t,.string x,.slice p len cap] 48)) (w.heap.size+1) 6 b n t x p len cap:=zak _ (by simp)
 have b0:=low2 w (.cells #[.int .i64 6,.bool b,.int .i64 n,.string t,.string x,.slice p len cap] 48) (.cells #[.int .i64 6,.bool b,.int .i64 n,.string t,.string x,.slice p len cap] 48)
 have l00:=zak (k:=6) (b:=b) (n:=n) (t:=t) (x:=x) (p:=p) (len:=len) (cap:=cap) w rfl
 go_enter Tryz.func99,Tryz.ntmps99
 go_wp2_with (first
  |((with_reducible refine zaj (.tmp 2) w.heap.size (by assumption) ?_ ?_ ?_ ?_);rfl;rfl;rfl)
  |((with_reducible refine zav (.tmp 5) (w.heap.size+1) (by assumption) ?_ ?_ ?_ ?_);rfl;rfl;rfl)
  |(go_at_call 156;(with_reducible refine (za5 6 b n t x _ 167 rfl _).mono ?_);rintro e w2 ⟨rfl,hb2⟩;have k2:=l0.below hb2.is;have m2:=l1.below hb2.is;have b2:=za1 b0 hb2 (by have:=l0.lt;omega);have z2:w.heap.size≤w2.heap.size:=by have:=k2.lt;omega
    clear l0 l1 l00 hb2 b0
    have c1:=m2.c2;have f1:=m2.free 2;have q1:=k2.c2;have m3:Six (w2.setCell ⟨w.heap.size+1,2,none⟩ (.int .i64 0)).drew (w.heap.size+1) _ _ _ _ _ _ _ _:=m2.set2 0;have b3:=(zb9 (o:=2) b2 none (.int .i64 0) (show w.heap.size≤w.heap.size+1 by omega) z2).drew;have z3:w.heap.size≤(w2.setCell ⟨w.heap.size+1,2,none⟩ (.int .i64 0)).drew.heap.size:=by simpa [World.setCell] using z2)
  |(simp only [zi9,zja,zjb,zjc,zjd,zje,zjf,zjg,zjh,zji,zjj,Result.andThen_ok]))
 go_region_with fail
 all_goals
  go_wp2_with (first
   |((with_reducible refine zav (.tmp 5) (w.heap.size+1) (by assumption) ?_ ?_ ?_ ?_);rfl;rfl;rfl)
   |(go_at_call 161;(with_reducible refine (zdc 6 _ _ _ _ _ _ _ _).mono ?_);rintro e w9 ⟨rfl,hb9⟩;have b9:=za1 b3 hb9 z3))
  go_ret
  exact ⟨rfl,b9⟩
set_option maxRecDepth 4000 in
set_option maxHeartbeats 1600000 in
theorem zuk (b:Bool) (n:Int) (t x:ByteArray) (p:Option Addr) (len cap:Nat) (d:Int) (w:World) (hn:¬ 0≤n):
 Calls Tryz.prog 99 #[.agg #[.int .i64 6,.bool b,.int .i64 n,.string t,.string x,.slice p len cap],.int .i64 d] w fun e w'=>e=.returned (.bool (false))∧Low w.heap.size w w':=by
 have l0:Six ((w.alloc (.cells #[.int .i64 6,.bool b,.int .i64 n,.string t,.string x,.slice p len cap] 48)).alloc (.cells #[.int .i64 6,.bool b,.int .i64 n,.string t,.string x,.slice p len cap] 48)) w.heap.size 6 b n t x p len cap:=(zak w rfl).alloc _
 have l1:Six ((w.alloc (.cells #[.int .i64 6,.bool b,.int .i64 n,.string t,.string x,.slice p len cap] 48)).alloc (.cells #[.int .i64 6,.bool b,.int .i64 n,.string t,.string x,.slice p len cap] 48)) (w.heap.size+1) 6 b n t x p len cap:=zak _ (by simp)
 have b0:=low2 w (.cells #[.int .i64 6,.bool b,.int .i64 n,.string t,.string x,.slice p len cap] 48) (.cells #[.int .i64 6,.bool b,.int .i64 n,.string t,.string x,.slice p len cap] 48)
 have l00:=zak (k:=6) (b:=b) (n:=n) (t:=t) (x:=x) (p:=p) (len:=len) (cap:=cap) w rfl
 go_enter Tryz.func99,Tryz.ntmps99
 go_wp2_with (first
  |((with_reducible refine zaj (.tmp 2) w.heap.size (by assumption) ?_ ?_ ?_ ?_);rfl;rfl;rfl)
  |((with_reducible refine zav (.tmp 5) (w.heap.size+1) (by assumption) ?_ ?_ ?_ ?_);rfl;rfl;rfl)
  |(go_at_call 156;(with_reducible refine (za5 6 b n t x _ 167 rfl _).mono ?_);rintro e w2 ⟨rfl,hb2⟩;have k2:=l0.below hb2.is;have m2:=l1.below hb2.is;have b2:=za1 b0 hb2 (by have:=l0.lt;omega);have z2:w.heap.size≤w2.heap.size:=by have:=k2.lt;omega
    clear l0 l1 l00 hb2 b0
    have c1:=m2.c2;have f1:=m2.free 2;have q1:=k2.c2;have m3:Six (w2.setCell ⟨w.heap.size+1,2,none⟩ (.int .i64 0)).drew (w.heap.size+1) _ _ _ _ _ _ _ _:=m2.set2 0;have b3:=(zb9 (o:=2) b2 none (.int .i64 0) (show w.heap.size≤w.heap.size+1 by omega) z2).drew;have z3:w.heap.size≤(w2.setCell ⟨w.heap.size+1,2,none⟩ (.int .i64 0)).drew.heap.size:=by simpa [World.setCell] using z2)
  |(simp only [zi9,zja,zjb,zjc,zjd,zje,zjf,zjg,zjh,zji,zjj,Result.andThen_ok]))
 go_region_with fail
 all_goals
  go_wp2_with fail
  go_ret
  exact ⟨rfl,b3⟩
set_option maxRecDepth 4000 in
set_option maxHeartbeats 1600000 in
theorem zss (b:Bool) (n:Int) (t x:ByteArray) (p:Option Addr) (len cap:Nat) (d:Int) (w:World) (hn:0≤n):
 Calls Tryz.prog 99 #[.agg #[.int .i64 7,.bool b,.int .i64 n,.string t,.string x,.slice p len cap],.int .i64 d] w fun e w'=>e=.returned (.bool (zb7 b 0 t x len))∧Low w.heap.size w w':=by
 have l0:Six ((w.alloc (.cells #[.int .i64 7,.bool b,.int .i64 n,.string t,.string x,.slice p len cap] 48)).alloc (.cells #[.int .i64 7,.bool b,.int .i64 n,.string t,.string x,.slice p len cap] 48)) w.heap.size 7 b n t x p len cap:=(zak w rfl).alloc _
 have l1:Six ((w.alloc (.cells #[.int .i64 7,.bool b,.int .i64 n,.string t,.string x,.slice p len cap] 48)).alloc (.cells #[.int .i64 7,.bool b,.int .i64 n,.string t,.string x,.slice p len cap] 48)) (w.heap.size+1) 7 b n t x p len cap:=zak _ (by simp)
 have b0:=low2 w (.cells #[.int .i64 7,.bool b,.int .i64 n,.string t,.string x,.slice p len cap] 48) (.cells #[.int .i64 7,.bool b,.int .i64 n,.string t,.string x,.slice p len cap] 48)
 have l00:=zak (k:=7) (b:=b) (n:=n) (t:=t) (x:=x) (p:=p) (len:=len) (cap:=cap) w rfl
 go_enter Tryz.func99,Tryz.ntmps99
 go_wp2_with (first
  |((with_reducible refine zaj (.tmp 2) w.heap.size (by assumption) ?_ ?_ ?_ ?_);rfl;rfl;rfl)
  |((with_reducible refine zav (.tmp 5) (w.heap.size+1) (by assumption) ?_ ?_ ?_ ?_);rfl;rfl;rfl)
  |(go_at_call 156;(with_reducible refine (za5 7 b n t x _ 168 rfl _).mono ?_);rintro e w2 ⟨rfl,hb2⟩;have k2:=l0.below hb2.is;have m2:=l1.below hb2.is;have b2:=za1 b0 hb2 (by have:=l0.lt;omega);have z2:w.heap.size≤w2.heap.size:=by have:=k2.lt;omega
    clear l0 l1 l00 hb2 b0
    have c1:=m2.c2;have f1:=m2.free 2;have q1:=k2.c2;have m3:Six (w2.setCell ⟨w.heap.size+1,2,none⟩ (.int .i64 0)).drew (w.heap.size+1) _ _ _ _ _ _ _ _:=m2.set2 0;have b3:=(zb9 (o:=2) b2 none (.int .i64 0) (show w.heap.size≤w.heap.size+1 by omega) z2).drew;have z3:w.heap.size≤(w2.setCell ⟨w.heap.size+1,2,none⟩ (.int .i64 0)).drew.heap.size:=by simpa [World.setCell] using z2)
  |(simp only [zjk,zjl,zjm,zjn,zjo,zjp,zjq,zjr,zjs,zjt,zju,Result.andThen_ok]))
 go_region_with fail
 all_goals
  go_wp2_with (first
   |((with_reducible refine zav (.tmp 5) (w.heap.size+1) (by assumption) ?_ ?_ ?_ ?_);rfl;rfl;rfl)
   |(go_at_call 161;(with_reducible refine (zdc 7 _ _ _ _ _ _ _ _).mono ?_);rintro e w9 ⟨rfl,hb9⟩;have b9:=za1 b3 hb9 z3))
  go_ret
  exact ⟨rfl,b9⟩
set_option maxRecDepth 4000 in
set_option maxHeartbeats 1600000 in
theorem zul (b:Bool) (n:Int) (t x:ByteArray) (p:Option Addr) (len cap:Nat) (d:Int) (w:World) (hn:¬ 0≤n):
 Calls Tryz.prog 99 #[.agg #[.int .i64 7,.bool b,.int .i64 n,.string t,.string x,.slice p len cap],.int .i64 d] w fun e w'=>e=.returned (.bool (false))∧Low w.heap.size w w':=by
 have l0:Six ((w.alloc (.cells #[.int .i64 7,.bool b,.int .i64 n,.string t,.string x,.slice p len cap] 48)).alloc (.cells #[.int .i64 7,.bool b,.int .i64 n,.string t,.string x,.slice p len cap] 48)) w.heap.size 7 b n t x p len cap:=(zak w rfl).alloc _
 have l1:Six ((w.alloc (.cells #[.int .i64 7,.bool b,.int .i64 n,.string t,.string x,.slice p len cap] 48)).alloc (.cells #[.int .i64 7,.bool b,.int .i64 n,.string t,.string x,.slice p len cap] 48)) (w.heap.size+1) 7 b n t x p len cap:=zak _ (by simp)
 have b0:=low2 w (.cells #[.int .i64 7,.bool b,.int .i64 n,.string t,.string x,.slice p len cap] 48) (.cells #[.int .i64 7,.bool b,.int .i64 n,.string t,.string x,.slice p len cap] 48)
 have l00:=zak (k:=7) (b:=b) (n:=n) (t:=t) (x:=x) (p:=p) (len:=len) (cap:=cap) w rfl
 go_enter Tryz.func99,Tryz.ntmps99
 go_wp2_with (first
  |((with_reducible refine zaj (.tmp 2) w.heap.size (by assumption) ?_ ?_ ?_ ?_);rfl;rfl;rfl)
  |((with_reducible refine zav (.tmp 5) (w.heap.size+1) (by assumption) ?_ ?_ ?_ ?_);rfl;rfl;rfl)
  |(go_at_call 156;(with_reducible refine (za5 7 b n t x _ 168 rfl _).mono ?_);rintro e w2 ⟨rfl,hb2⟩;have k2:=l0.below hb2.is;have m2:=l1.below hb2.is;have b2:=za1 b0 hb2 (by have:=l0.lt;omega);have z2:w.heap.size≤w2.heap.size:=by have:=k2.lt;omega
    clear l0 l1 l00 hb2 b0
    have c1:=m2.c2;have f1:=m2.free 2;have q1:=k2.c2;have m3:Six (w2.setCell ⟨w.heap.size+1,2,none⟩ (.int .i64 0)).drew (w.heap.size+1) _ _ _ _ _ _ _ _:=m2.set2 0;have b3:=(zb9 (o:=2) b2 none (.int .i64 0) (show w.heap.size≤w.heap.size+1 by omega) z2).drew;have z3:w.heap.size≤(w2.setCell ⟨w.heap.size+1,2,none⟩ (.int .i64 0)).drew.heap.size:=by simpa [World.setCell] using z2)
  |(simp only [zjk,zjl,zjm,zjn,zjo,zjp,zjq,zjr,zjs,zjt,zju,Result.andThen_ok]))
 go_region_with fail
 all_goals
  go_wp2_with fail
  go_ret
  exact ⟨rfl,b3⟩
set_option maxRecDepth 4000 in
set_option maxHeartbeats 1600000 in
theorem zst (b:Bool) (n:Int) (t x:ByteArray) (p:Option Addr) (len cap:Nat) (d:Int) (w:World) (hn:(t.size:Int)≤1048576):
 Calls Tryz.prog 99 #[.agg #[.int .i64 4,.bool b,.int .i64 n,.string t,.string x,.slice p len cap],.int .i64 d] w fun e w'=>e=.returned (.bool (zb7 b n ⟨#[]⟩ x len))∧Low w.heap.size w w':=by
 have l0:Six ((w.alloc (.cells #[.int .i64 4,.bool b,.int .i64 n,.string t,.string x,.slice p len cap] 48)).alloc (.cells #[.int .i64 4,.bool b,.int .i64 n,.string t,.string x,.slice p len cap] 48)) w.heap.size 4 b n t x p len cap:=(zak w rfl).alloc _
 have l1:Six ((w.alloc (.cells #[.int .i64 4,.bool b,.int .i64 n,.string t,.string x,.slice p len cap] 48)).alloc (.cells #[.int .i64 4,.bool b,.int .i64 n,.string t,.string x,.slice p len cap] 48)) (w.heap.size+1) 4 b n t x p len cap:=zak _ (by simp)
 have b0:=low2 w (.cells #[.int .i64 4,.bool b,.int .i64 n,.string t,.string x,.slice p len cap] 48) (.cells #[.int .i64 4,.bool b,.int .i64 n,.string t,.string x,.slice p len cap] 48)
 have l00:=zak (k:=4) (b:=b) (n:=n) (t:=t) (x:=x) (p:=p) (len:=len) (cap:=cap) w rfl
 go_enter Tryz.func99,Tryz.ntmps99
 go_wp2_with (first
  |((with_reducible refine zaj (.tmp 2) w.heap.size (by assumption) ?_ ?_ ?_ ?_);rfl;rfl;rfl)
  |((with_reducible refine zav (.tmp 5) (w.heap.size+1) (by assumption) ?_ ?_ ?_ ?_);rfl;rfl;rfl)
  |(go_at_call 156;(with_reducible refine (za5 4 b n t x _ 170 rfl _).mono ?_);rintro e w2 ⟨rfl,hb2⟩;have k2:=l0.below hb2.is;have m2:=l1.below hb2.is;have b2:=za1 b0 hb2 (by have:=l0.lt;omega);have z2:w.heap.size≤w2.heap.size:=by have:=k2.lt;omega
    clear l0 l1 l00 hb2 b0
    have c1:=m2.c3;have f1:=m2.free 3;have q1:=k2.c3;have m3:Six (w2.setCell ⟨w.heap.size+1,3,none⟩ (.string ⟨#[]⟩)).drew (w.heap.size+1) _ _ _ _ _ _ _ _:=m2.set3 ⟨#[]⟩;have b3:=(zb9 (o:=3) b2 none (.string ⟨#[]⟩) (show w.heap.size≤w.heap.size+1 by omega) z2).drew;have z3:w.heap.size≤(w2.setCell ⟨w.heap.size+1,3,none⟩ (.string ⟨#[]⟩)).drew.heap.size:=by simpa [World.setCell] using z2)
  |(simp only [zj6,zj7,zj8,zj9,zka,zkb,zkc,zkd,zke,zkf,zkg,Result.andThen_ok]))
 go_region_with fail
 all_goals
  go_wp2_with (first
   |((with_reducible refine zav (.tmp 5) (w.heap.size+1) (by assumption) ?_ ?_ ?_ ?_);rfl;rfl;rfl)
   |(go_at_call 161;(with_reducible refine (zdc 4 _ _ _ _ _ _ _ _).mono ?_);rintro e w9 ⟨rfl,hb9⟩;have b9:=za1 b3 hb9 z3))
  go_ret
  exact ⟨rfl,b9⟩
set_option maxRecDepth 4000 in
set_option maxHeartbeats 1600000 in
theorem zum (b:Bool) (n:Int) (t x:ByteArray) (p:Option Addr) (len cap:Nat) (d:Int) (w:World) (hn:¬ (t.size:Int)≤1048576):
 Calls Tryz.prog 99 #[.agg #[.int .i64 4,.bool b,.int .i64 n,.string t,.string x,.slice p len cap],.int .i64 d] w fun e w'=>e=.returned (.bool (false))∧Low w.heap.size w w':=by
 have l0:Six ((w.alloc (.cells #[.int .i64 4,.bool b,.int .i64 n,.string t,.string x,.slice p len cap] 48)).alloc (.cells #[.int .i64 4,.bool b,.int .i64 n,.string t,.string x,.slice p len cap] 48)) w.heap.size 4 b n t x p len cap:=(zak w rfl).alloc _
 have l1:Six ((w.alloc (.cells #[.int .i64 4,.bool b,.int .i64 n,.string t,.string x,.slice p len cap] 48)).alloc (.cells #[.int .i64 4,.bool b,.int .i64 n,.string t,.string x,.slice p len cap] 48)) (w.heap.size+1) 4 b n t x p len cap:=zak _ (by simp)
 have b0:=low2 w (.cells #[.int .i64 4,.bool b,.int .i64 n,.string t,.string x,.slice p len cap] 48) (.cells #[.int .i64 4,.bool b,.int .i64 n,.string t,.string x,.slice p len cap] 48)
 have l00:=zak (k:=4) (b:=b) (n:=n) (t:=t) (x:=x) (p:=p) (len:=len) (cap:=cap) w rfl
 go_enter Tryz.func99,Tryz.ntmps99
 go_wp2_with (first
  |((with_reducible refine zaj (.tmp 2) w.heap.size (by assumption) ?_ ?_ ?_ ?_);rfl;rfl;rfl)
  |((with_reducible refine zav (.tmp 5) (w.heap.size+1) (by assumption) ?_ ?_ ?_ ?_);rfl;rfl;rfl)
  |(go_at_call 156;(with_reducible refine (za5 4 b n t x _ 170 rfl _).mono ?_);rintro e w2 ⟨rfl,hb2⟩;have k2:=l0.below hb2.is;have m2:=l1.below hb2.is;have b2:=za1 b0 hb2 (by have:=l0.lt;omega);have z2:w.heap.size≤w2.heap.size:=by have:=k2.lt;omega
    clear l0 l1 l00 hb2 b0
    have c1:=m2.c3;have f1:=m2.free 3;have q1:=k2.c3;have m3:Six (w2.setCell ⟨w.heap.size+1,3,none⟩ (.string ⟨#[]⟩)).drew (w.heap.size+1) _ _ _ _ _ _ _ _:=m2.set3 ⟨#[]⟩;have b3:=(zb9 (o:=3) b2 none (.string ⟨#[]⟩) (show w.heap.size≤w.heap.size+1 by omega) z2).drew;have z3:w.heap.size≤(w2.setCell ⟨w.heap.size+1,3,none⟩ (.string ⟨#[]⟩)).drew.heap.size:=by simpa [World.setCell] using z2)
  |(simp only [zj6,zj7,zj8,zj9,zka,zkb,zkc,zkd,zke,zkf,zkg,Result.andThen_ok]))
 go_region_with fail
 all_goals
  go_wp2_with fail
  go_ret
  exact ⟨rfl,b3⟩
end Go.Proofs.YteclpnfckjfibaaGreatDoor
