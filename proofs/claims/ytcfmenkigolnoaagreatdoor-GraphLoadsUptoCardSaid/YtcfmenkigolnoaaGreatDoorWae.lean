/- Texts of one kind, one behind the other: each says ahead of itself what it shows. -/
import Derived.Test.YtcfmenkigolnoaaGreatDoorWad
import Derived.BigQuiet
import Derived.Deep.MidRow
import Derived.StillTailTactics
import Derived.Deep.RegionHeld
/- N8 -/
namespace Go.Proofs.YtcfmenkigolnoaaGreatDoor
open Go.RowKit
set_option maxRecDepth 4000 in
set_option maxHeartbeats 1600000 in
theorem zpt (b:Bool) (n:Int) (t x:ByteArray) (p:Option Addr) (len cap:Nat) (d:Int) (w:World) (hn:0≤n):
 Calls Tryz.prog 171 #[.agg #[.int .i64 6,.bool b,.int .i64 n,.string t,.string x,.slice p len cap],.int .i64 d] w fun e w'=>e=.returned (.bool (zb1 b 0 t x len))∧Below w.heap.size w w':=by
 have l0:Six ((w.alloc (.cells #[.int .i64 6,.bool b,.int .i64 n,.string t,.string x,.slice p len cap] 60)).alloc (.cells #[.int .i64 6,.bool b,.int .i64 n,.string t,.string x,.slice p len cap] 60)) w.heap.size 6 b n t x p len cap:=(zai w rfl).alloc _
 have l1:Six ((w.alloc (.cells #[.int .i64 6,.bool b,.int .i64 n,.string t,.string x,.slice p len cap] 60)).alloc (.cells #[.int .i64 6,.bool b,.int .i64 n,.string t,.string x,.slice p len cap] 60)) (w.heap.size+1) 6 b n t x p len cap:=zai _ (by simp)
 have b0:=zbk w (.cells #[.int .i64 6,.bool b,.int .i64 n,.string t,.string x,.slice p len cap] 60) (.cells #[.int .i64 6,.bool b,.int .i64 n,.string t,.string x,.slice p len cap] 60)
 have l00:=zai (k:=6) (b:=b) (n:=n) (t:=t) (x:=x) (p:=p) (len:=len) (cap:=cap) w rfl
 go_enter Tryz.func171,Tryz.ntmps171
 go_wp2_with (first
  |((with_reducible refine zaj (.tmp 2) w.heap.size (by assumption) ?_ ?_ ?_ ?_);rfl;rfl;rfl)
  |((with_reducible refine zao (.tmp 5) (w.heap.size+1) (by assumption) ?_ ?_ ?_ ?_);rfl;rfl;rfl)
  |(go_at_call 178;(with_reducible refine (zbl 6 b n t x _ 199 rfl _).mono ?_);rintro e w2 ⟨rfl,hb2⟩;have k2:=l0.below hb2;have m2:=l1.below hb2;have b2:=zab b0 hb2 (by have:=l0.lt;omega);have z2:w.heap.size≤w2.heap.size:=by have:=k2.lt;omega
    clear l0 l1 l00 hb2 b0
    have c1:=m2.c2;have f1:=m2.free 2;have q1:=k2.c2;have m3:Six (w2.setCell ⟨w.heap.size+1,2,none⟩ (.int .i64 0)).drew (w.heap.size+1) _ _ _ _ _ _ _ _:=m2.set2 0;have b3:=(zam (o:=2) b2 none (.int .i64 0) (show w.heap.size≤w.heap.size+1 by omega) z2).drew;have z3:w.heap.size≤(w2.setCell ⟨w.heap.size+1,2,none⟩ (.int .i64 0)).drew.heap.size:=by simpa [World.setCell] using z2)
  |(simp only [zj2,zj3,zj4,zj5,zj6,Result.andThen_ok]))
 go_region_with fail
 all_goals
  go_wp2_with (first
   |((with_reducible refine zao (.tmp 5) (w.heap.size+1) (by assumption) ?_ ?_ ?_ ?_);rfl;rfl;rfl)
   |(go_at_call 183;(with_reducible refine (zcz 6 _ _ _ _ _ _ _ _).mono ?_);rintro e w9 ⟨rfl,hb9⟩;have b9:=zab b3 hb9 z3))
  go_ret
  exact ⟨rfl,b9⟩
set_option maxRecDepth 4000 in
set_option maxHeartbeats 1600000 in
theorem zsb (b:Bool) (n:Int) (t x:ByteArray) (p:Option Addr) (len cap:Nat) (d:Int) (w:World) (hn:¬ 0≤n):
 Calls Tryz.prog 171 #[.agg #[.int .i64 6,.bool b,.int .i64 n,.string t,.string x,.slice p len cap],.int .i64 d] w fun e w'=>e=.returned (.bool (false))∧Below w.heap.size w w':=by
 have l0:Six ((w.alloc (.cells #[.int .i64 6,.bool b,.int .i64 n,.string t,.string x,.slice p len cap] 60)).alloc (.cells #[.int .i64 6,.bool b,.int .i64 n,.string t,.string x,.slice p len cap] 60)) w.heap.size 6 b n t x p len cap:=(zai w rfl).alloc _
 have l1:Six ((w.alloc (.cells #[.int .i64 6,.bool b,.int .i64 n,.string t,.string x,.slice p len cap] 60)).alloc (.cells #[.int .i64 6,.bool b,.int .i64 n,.string t,.string x,.slice p len cap] 60)) (w.heap.size+1) 6 b n t x p len cap:=zai _ (by simp)
 have b0:=zbk w (.cells #[.int .i64 6,.bool b,.int .i64 n,.string t,.string x,.slice p len cap] 60) (.cells #[.int .i64 6,.bool b,.int .i64 n,.string t,.string x,.slice p len cap] 60)
 have l00:=zai (k:=6) (b:=b) (n:=n) (t:=t) (x:=x) (p:=p) (len:=len) (cap:=cap) w rfl
 go_enter Tryz.func171,Tryz.ntmps171
 go_wp2_with (first
  |((with_reducible refine zaj (.tmp 2) w.heap.size (by assumption) ?_ ?_ ?_ ?_);rfl;rfl;rfl)
  |((with_reducible refine zao (.tmp 5) (w.heap.size+1) (by assumption) ?_ ?_ ?_ ?_);rfl;rfl;rfl)
  |(go_at_call 178;(with_reducible refine (zbl 6 b n t x _ 199 rfl _).mono ?_);rintro e w2 ⟨rfl,hb2⟩;have k2:=l0.below hb2;have m2:=l1.below hb2;have b2:=zab b0 hb2 (by have:=l0.lt;omega);have z2:w.heap.size≤w2.heap.size:=by have:=k2.lt;omega
    clear l0 l1 l00 hb2 b0
    have c1:=m2.c2;have f1:=m2.free 2;have q1:=k2.c2;have m3:Six (w2.setCell ⟨w.heap.size+1,2,none⟩ (.int .i64 0)).drew (w.heap.size+1) _ _ _ _ _ _ _ _:=m2.set2 0;have b3:=(zam (o:=2) b2 none (.int .i64 0) (show w.heap.size≤w.heap.size+1 by omega) z2).drew;have z3:w.heap.size≤(w2.setCell ⟨w.heap.size+1,2,none⟩ (.int .i64 0)).drew.heap.size:=by simpa [World.setCell] using z2)
  |(simp only [zj2,zj3,zj4,zj5,zj6,Result.andThen_ok]))
 go_region_with fail
 all_goals
  go_wp2_with fail
  go_ret
  exact ⟨rfl,b3⟩
set_option maxRecDepth 4000 in
set_option maxHeartbeats 1600000 in
theorem zpu (b:Bool) (n:Int) (t x:ByteArray) (p:Option Addr) (len cap:Nat) (d:Int) (w:World) (hn:0≤n):
 Calls Tryz.prog 171 #[.agg #[.int .i64 7,.bool b,.int .i64 n,.string t,.string x,.slice p len cap],.int .i64 d] w fun e w'=>e=.returned (.bool (zb1 b 0 t x len))∧Below w.heap.size w w':=by
 have l0:Six ((w.alloc (.cells #[.int .i64 7,.bool b,.int .i64 n,.string t,.string x,.slice p len cap] 60)).alloc (.cells #[.int .i64 7,.bool b,.int .i64 n,.string t,.string x,.slice p len cap] 60)) w.heap.size 7 b n t x p len cap:=(zai w rfl).alloc _
 have l1:Six ((w.alloc (.cells #[.int .i64 7,.bool b,.int .i64 n,.string t,.string x,.slice p len cap] 60)).alloc (.cells #[.int .i64 7,.bool b,.int .i64 n,.string t,.string x,.slice p len cap] 60)) (w.heap.size+1) 7 b n t x p len cap:=zai _ (by simp)
 have b0:=zbk w (.cells #[.int .i64 7,.bool b,.int .i64 n,.string t,.string x,.slice p len cap] 60) (.cells #[.int .i64 7,.bool b,.int .i64 n,.string t,.string x,.slice p len cap] 60)
 have l00:=zai (k:=7) (b:=b) (n:=n) (t:=t) (x:=x) (p:=p) (len:=len) (cap:=cap) w rfl
 go_enter Tryz.func171,Tryz.ntmps171
 go_wp2_with (first
  |((with_reducible refine zaj (.tmp 2) w.heap.size (by assumption) ?_ ?_ ?_ ?_);rfl;rfl;rfl)
  |((with_reducible refine zao (.tmp 5) (w.heap.size+1) (by assumption) ?_ ?_ ?_ ?_);rfl;rfl;rfl)
  |(go_at_call 178;(with_reducible refine (zbl 7 b n t x _ 200 rfl _).mono ?_);rintro e w2 ⟨rfl,hb2⟩;have k2:=l0.below hb2;have m2:=l1.below hb2;have b2:=zab b0 hb2 (by have:=l0.lt;omega);have z2:w.heap.size≤w2.heap.size:=by have:=k2.lt;omega
    clear l0 l1 l00 hb2 b0
    have c1:=m2.c2;have f1:=m2.free 2;have q1:=k2.c2;have m3:Six (w2.setCell ⟨w.heap.size+1,2,none⟩ (.int .i64 0)).drew (w.heap.size+1) _ _ _ _ _ _ _ _:=m2.set2 0;have b3:=(zam (o:=2) b2 none (.int .i64 0) (show w.heap.size≤w.heap.size+1 by omega) z2).drew;have z3:w.heap.size≤(w2.setCell ⟨w.heap.size+1,2,none⟩ (.int .i64 0)).drew.heap.size:=by simpa [World.setCell] using z2)
  |(simp only [zkd,zke,zkf,zkg,zkh,Result.andThen_ok]))
 go_region_with fail
 all_goals
  go_wp2_with (first
   |((with_reducible refine zao (.tmp 5) (w.heap.size+1) (by assumption) ?_ ?_ ?_ ?_);rfl;rfl;rfl)
   |(go_at_call 183;(with_reducible refine (zcz 7 _ _ _ _ _ _ _ _).mono ?_);rintro e w9 ⟨rfl,hb9⟩;have b9:=zab b3 hb9 z3))
  go_ret
  exact ⟨rfl,b9⟩
set_option maxRecDepth 4000 in
set_option maxHeartbeats 1600000 in
theorem zsc (b:Bool) (n:Int) (t x:ByteArray) (p:Option Addr) (len cap:Nat) (d:Int) (w:World) (hn:¬ 0≤n):
 Calls Tryz.prog 171 #[.agg #[.int .i64 7,.bool b,.int .i64 n,.string t,.string x,.slice p len cap],.int .i64 d] w fun e w'=>e=.returned (.bool (false))∧Below w.heap.size w w':=by
 have l0:Six ((w.alloc (.cells #[.int .i64 7,.bool b,.int .i64 n,.string t,.string x,.slice p len cap] 60)).alloc (.cells #[.int .i64 7,.bool b,.int .i64 n,.string t,.string x,.slice p len cap] 60)) w.heap.size 7 b n t x p len cap:=(zai w rfl).alloc _
 have l1:Six ((w.alloc (.cells #[.int .i64 7,.bool b,.int .i64 n,.string t,.string x,.slice p len cap] 60)).alloc (.cells #[.int .i64 7,.bool b,.int .i64 n,.string t,.string x,.slice p len cap] 60)) (w.heap.size+1) 7 b n t x p len cap:=zai _ (by simp)
 have b0:=zbk w (.cells #[.int .i64 7,.bool b,.int .i64 n,.string t,.string x,.slice p len cap] 60) (.cells #[.int .i64 7,.bool b,.int .i64 n,.string t,.string x,.slice p len cap] 60)
 have l00:=zai (k:=7) (b:=b) (n:=n) (t:=t) (x:=x) (p:=p) (len:=len) (cap:=cap) w rfl
 go_enter Tryz.func171,Tryz.ntmps171
 go_wp2_with (first
  |((with_reducible refine zaj (.tmp 2) w.heap.size (by assumption) ?_ ?_ ?_ ?_);rfl;rfl;rfl)
  |((with_reducible refine zao (.tmp 5) (w.heap.size+1) (by assumption) ?_ ?_ ?_ ?_);rfl;rfl;rfl)
  |(go_at_call 178;(with_reducible refine (zbl 7 b n t x _ 200 rfl _).mono ?_);rintro e w2 ⟨rfl,hb2⟩;have k2:=l0.below hb2;have m2:=l1.below hb2;have b2:=zab b0 hb2 (by have:=l0.lt;omega);have z2:w.heap.size≤w2.heap.size:=by have:=k2.lt;omega
    clear l0 l1 l00 hb2 b0
    have c1:=m2.c2;have f1:=m2.free 2;have q1:=k2.c2;have m3:Six (w2.setCell ⟨w.heap.size+1,2,none⟩ (.int .i64 0)).drew (w.heap.size+1) _ _ _ _ _ _ _ _:=m2.set2 0;have b3:=(zam (o:=2) b2 none (.int .i64 0) (show w.heap.size≤w.heap.size+1 by omega) z2).drew;have z3:w.heap.size≤(w2.setCell ⟨w.heap.size+1,2,none⟩ (.int .i64 0)).drew.heap.size:=by simpa [World.setCell] using z2)
  |(simp only [zkd,zke,zkf,zkg,zkh,Result.andThen_ok]))
 go_region_with fail
 all_goals
  go_wp2_with fail
  go_ret
  exact ⟨rfl,b3⟩
set_option maxRecDepth 4000 in
set_option maxHeartbeats 1600000 in
theorem zpv (b:Bool) (n:Int) (t x:ByteArray) (p:Option Addr) (len cap:Nat) (d:Int) (w:World) (hn:(t.size:Int)≤1048576):
 Calls Tryz.prog 171 #[.agg #[.int .i64 4,.bool b,.int .i64 n,.string t,.string x,.slice p len cap],.int .i64 d] w fun e w'=>e=.returned (.bool (zb1 b n ⟨#[]⟩ x len))∧Below w.heap.size w w':=by
 have l0:Six ((w.alloc (.cells #[.int .i64 4,.bool b,.int .i64 n,.string t,.string x,.slice p len cap] 60)).alloc (.cells #[.int .i64 4,.bool b,.int .i64 n,.string t,.string x,.slice p len cap] 60)) w.heap.size 4 b n t x p len cap:=(zai w rfl).alloc _
 have l1:Six ((w.alloc (.cells #[.int .i64 4,.bool b,.int .i64 n,.string t,.string x,.slice p len cap] 60)).alloc (.cells #[.int .i64 4,.bool b,.int .i64 n,.string t,.string x,.slice p len cap] 60)) (w.heap.size+1) 4 b n t x p len cap:=zai _ (by simp)
 have b0:=zbk w (.cells #[.int .i64 4,.bool b,.int .i64 n,.string t,.string x,.slice p len cap] 60) (.cells #[.int .i64 4,.bool b,.int .i64 n,.string t,.string x,.slice p len cap] 60)
 have l00:=zai (k:=4) (b:=b) (n:=n) (t:=t) (x:=x) (p:=p) (len:=len) (cap:=cap) w rfl
 go_enter Tryz.func171,Tryz.ntmps171
 go_wp2_with (first
  |((with_reducible refine zaj (.tmp 2) w.heap.size (by assumption) ?_ ?_ ?_ ?_);rfl;rfl;rfl)
  |((with_reducible refine zao (.tmp 5) (w.heap.size+1) (by assumption) ?_ ?_ ?_ ?_);rfl;rfl;rfl)
  |(go_at_call 178;(with_reducible refine (zbl 4 b n t x _ 202 rfl _).mono ?_);rintro e w2 ⟨rfl,hb2⟩;have k2:=l0.below hb2;have m2:=l1.below hb2;have b2:=zab b0 hb2 (by have:=l0.lt;omega);have z2:w.heap.size≤w2.heap.size:=by have:=k2.lt;omega
    clear l0 l1 l00 hb2 b0
    have c1:=m2.c3;have f1:=m2.free 3;have q1:=k2.c3;have m3:Six (w2.setCell ⟨w.heap.size+1,3,none⟩ (.string ⟨#[]⟩)).drew (w.heap.size+1) _ _ _ _ _ _ _ _:=m2.set3 ⟨#[]⟩;have b3:=(zam (o:=3) b2 none (.string ⟨#[]⟩) (show w.heap.size≤w.heap.size+1 by omega) z2).drew;have z3:w.heap.size≤(w2.setCell ⟨w.heap.size+1,3,none⟩ (.string ⟨#[]⟩)).drew.heap.size:=by simpa [World.setCell] using z2)
  |(simp only [zkz,zk0,zk1,zk2,zk3,zk4,zk5,Result.andThen_ok]))
 go_region_with fail
 all_goals
  go_wp2_with (first
   |((with_reducible refine zao (.tmp 5) (w.heap.size+1) (by assumption) ?_ ?_ ?_ ?_);rfl;rfl;rfl)
   |(go_at_call 183;(with_reducible refine (zcz 4 _ _ _ _ _ _ _ _).mono ?_);rintro e w9 ⟨rfl,hb9⟩;have b9:=zab b3 hb9 z3))
  go_ret
  exact ⟨rfl,b9⟩
set_option maxRecDepth 4000 in
set_option maxHeartbeats 1600000 in
theorem zsd (b:Bool) (n:Int) (t x:ByteArray) (p:Option Addr) (len cap:Nat) (d:Int) (w:World) (hn:¬ (t.size:Int)≤1048576):
 Calls Tryz.prog 171 #[.agg #[.int .i64 4,.bool b,.int .i64 n,.string t,.string x,.slice p len cap],.int .i64 d] w fun e w'=>e=.returned (.bool (false))∧Below w.heap.size w w':=by
 have l0:Six ((w.alloc (.cells #[.int .i64 4,.bool b,.int .i64 n,.string t,.string x,.slice p len cap] 60)).alloc (.cells #[.int .i64 4,.bool b,.int .i64 n,.string t,.string x,.slice p len cap] 60)) w.heap.size 4 b n t x p len cap:=(zai w rfl).alloc _
 have l1:Six ((w.alloc (.cells #[.int .i64 4,.bool b,.int .i64 n,.string t,.string x,.slice p len cap] 60)).alloc (.cells #[.int .i64 4,.bool b,.int .i64 n,.string t,.string x,.slice p len cap] 60)) (w.heap.size+1) 4 b n t x p len cap:=zai _ (by simp)
 have b0:=zbk w (.cells #[.int .i64 4,.bool b,.int .i64 n,.string t,.string x,.slice p len cap] 60) (.cells #[.int .i64 4,.bool b,.int .i64 n,.string t,.string x,.slice p len cap] 60)
 have l00:=zai (k:=4) (b:=b) (n:=n) (t:=t) (x:=x) (p:=p) (len:=len) (cap:=cap) w rfl
 go_enter Tryz.func171,Tryz.ntmps171
 go_wp2_with (first
  |((with_reducible refine zaj (.tmp 2) w.heap.size (by assumption) ?_ ?_ ?_ ?_);rfl;rfl;rfl)
  |((with_reducible refine zao (.tmp 5) (w.heap.size+1) (by assumption) ?_ ?_ ?_ ?_);rfl;rfl;rfl)
  |(go_at_call 178;(with_reducible refine (zbl 4 b n t x _ 202 rfl _).mono ?_);rintro e w2 ⟨rfl,hb2⟩;have k2:=l0.below hb2;have m2:=l1.below hb2;have b2:=zab b0 hb2 (by have:=l0.lt;omega);have z2:w.heap.size≤w2.heap.size:=by have:=k2.lt;omega
    clear l0 l1 l00 hb2 b0
    have c1:=m2.c3;have f1:=m2.free 3;have q1:=k2.c3;have m3:Six (w2.setCell ⟨w.heap.size+1,3,none⟩ (.string ⟨#[]⟩)).drew (w.heap.size+1) _ _ _ _ _ _ _ _:=m2.set3 ⟨#[]⟩;have b3:=(zam (o:=3) b2 none (.string ⟨#[]⟩) (show w.heap.size≤w.heap.size+1 by omega) z2).drew;have z3:w.heap.size≤(w2.setCell ⟨w.heap.size+1,3,none⟩ (.string ⟨#[]⟩)).drew.heap.size:=by simpa [World.setCell] using z2)
  |(simp only [zkz,zk0,zk1,zk2,zk3,zk4,zk5,Result.andThen_ok]))
 go_region_with fail
 all_goals
  go_wp2_with fail
  go_ret
  exact ⟨rfl,b3⟩
end Go.Proofs.YtcfmenkigolnoaaGreatDoor

/- N9 -/
namespace Go.Proofs.YtcfmenkigolnoaaGreatDoor
open Go.RowKit
set_option maxRecDepth 4000 in
set_option maxHeartbeats 1600000 in
theorem zse (b:Bool) (n:Int) (t x:ByteArray) (p:Option Addr) (len cap:Nat) (d:Int) (w:World) (hs:x.size≤maxLen) (hn:(t.size:Int)≤1048576) (h:zck x=true):
 Calls Tryz.prog 171 #[.agg #[.int .i64 10,.bool b,.int .i64 n,.string t,.string x,.slice p len cap],.int .i64 d] w fun e w'=>e=.returned (.bool (zb1 b n ⟨#[]⟩ ⟨#[]⟩ len))∧Below w.heap.size w w':=by
 have l0:Six ((w.alloc (.cells #[.int .i64 10,.bool b,.int .i64 n,.string t,.string x,.slice p len cap] 60)).alloc (.cells #[.int .i64 10,.bool b,.int .i64 n,.string t,.string x,.slice p len cap] 60)) w.heap.size 10 b n t x p len cap:=(zai w rfl).alloc _
 have l1:Six ((w.alloc (.cells #[.int .i64 10,.bool b,.int .i64 n,.string t,.string x,.slice p len cap] 60)).alloc (.cells #[.int .i64 10,.bool b,.int .i64 n,.string t,.string x,.slice p len cap] 60)) (w.heap.size+1) 10 b n t x p len cap:=zai _ (by simp)
 have b0:=zbk w (.cells #[.int .i64 10,.bool b,.int .i64 n,.string t,.string x,.slice p len cap] 60) (.cells #[.int .i64 10,.bool b,.int .i64 n,.string t,.string x,.slice p len cap] 60)
 have l00:=zai (k:=10) (b:=b) (n:=n) (t:=t) (x:=x) (p:=p) (len:=len) (cap:=cap) w rfl
 go_enter Tryz.func171,Tryz.ntmps171
 go_wp2_with (first
  |((with_reducible refine zaj (.tmp 2) w.heap.size (by assumption) ?_ ?_ ?_ ?_);rfl;rfl;rfl)
  |((with_reducible refine zao (.tmp 5) (w.heap.size+1) (by assumption) ?_ ?_ ?_ ?_);rfl;rfl;rfl)
  |(go_at_call 178;(with_reducible refine (zbl 10 b n t x _ 205 rfl _).mono ?_);rintro e w2 ⟨rfl,hb2⟩;have k2:=l0.below hb2;have m2:=l1.below hb2;have b2:=zab b0 hb2 (by have:=l0.lt;omega);have z2:w.heap.size≤w2.heap.size:=by have:=k2.lt;omega
    clear l0 l1 l00 hb2 b0
    have c3:=k2.c3;have c4:=k2.c4)
  |(simp only [zha,zhb,zhc,zhd,zhe,zhf,zhg,zhh,zhi,zhj,Result.andThen_ok])
  |(go_at_call 180;(with_reducible refine (zot x _ h _ hs).mono ?_);rintro e w3 ⟨rfl,hb3⟩;have b3:=zab b2 hb3 z2;have m3:=m2.below hb3;have z3:w.heap.size≤w3.heap.size:=(by have:=m3.lt;omega);have e3:=m3.c3;have f3:=m3.free 3;have n3:=m3.set3 ⟨#[]⟩;have e4:=n3.c4;have f4:=n3.free 4;have n4:=n3.set4 ⟨#[]⟩;have y3:w.heap.size≤(w3.setCell ⟨w.heap.size+1,3,none⟩ (.string ⟨#[]⟩)).heap.size:=(by have:=n3.lt;omega);have y4:w.heap.size≤((w3.setCell ⟨w.heap.size+1,3,none⟩ (.string ⟨#[]⟩)).setCell ⟨w.heap.size+1,4,none⟩ (.string ⟨#[]⟩)).heap.size:=(by have:=n4.lt;omega);have b4:=zam (o:=4) (zam (o:=3) b3 none (.string ⟨#[]⟩) (show w.heap.size≤w.heap.size+1 by omega) z3) none (.string ⟨#[]⟩) (show w.heap.size≤w.heap.size+1 by omega) y3)
  |(go_at_call 183;(with_reducible refine (zcz 10 _ _ _ _ _ _ _ _).mono ?_);rintro e w9 ⟨rfl,hb9⟩;have b9:=zab b4 hb9 y4))
 go_ret
 exact ⟨rfl,b9⟩
set_option maxRecDepth 4000 in
set_option maxHeartbeats 1600000 in
theorem zu8 (b:Bool) (n:Int) (t x:ByteArray) (p:Option Addr) (len cap:Nat) (d:Int) (w:World) (hs:x.size≤maxLen) (hn:(t.size:Int)≤1048576) (h:zck x=false):
 Calls Tryz.prog 171 #[.agg #[.int .i64 10,.bool b,.int .i64 n,.string t,.string x,.slice p len cap],.int .i64 d] w fun e w'=>e=.returned (.bool (false))∧Below w.heap.size w w':=by
 have l0:Six ((w.alloc (.cells #[.int .i64 10,.bool b,.int .i64 n,.string t,.string x,.slice p len cap] 60)).alloc (.cells #[.int .i64 10,.bool b,.int .i64 n,.string t,.string x,.slice p len cap] 60)) w.heap.size 10 b n t x p len cap:=(zai w rfl).alloc _
 have l1:Six ((w.alloc (.cells #[.int .i64 10,.bool b,.int .i64 n,.string t,.string x,.slice p len cap] 60)).alloc (.cells #[.int .i64 10,.bool b,.int .i64 n,.string t,.string x,.slice p len cap] 60)) (w.heap.size+1) 10 b n t x p len cap:=zai _ (by simp)
 have b0:=zbk w (.cells #[.int .i64 10,.bool b,.int .i64 n,.string t,.string x,.slice p len cap] 60) (.cells #[.int .i64 10,.bool b,.int .i64 n,.string t,.string x,.slice p len cap] 60)
 have l00:=zai (k:=10) (b:=b) (n:=n) (t:=t) (x:=x) (p:=p) (len:=len) (cap:=cap) w rfl
 go_enter Tryz.func171,Tryz.ntmps171
 go_wp2_with (first
  |((with_reducible refine zaj (.tmp 2) w.heap.size (by assumption) ?_ ?_ ?_ ?_);rfl;rfl;rfl)
  |((with_reducible refine zao (.tmp 5) (w.heap.size+1) (by assumption) ?_ ?_ ?_ ?_);rfl;rfl;rfl)
  |(go_at_call 178;(with_reducible refine (zbl 10 b n t x _ 205 rfl _).mono ?_);rintro e w2 ⟨rfl,hb2⟩;have k2:=l0.below hb2;have m2:=l1.below hb2;have b2:=zab b0 hb2 (by have:=l0.lt;omega);have z2:w.heap.size≤w2.heap.size:=by have:=k2.lt;omega
    clear l0 l1 l00 hb2 b0
    have c3:=k2.c3;have c4:=k2.c4)
  |(simp only [zha,zhb,zhc,zhd,zhe,zhf,zhg,zhh,zhi,zhj,Result.andThen_ok])
  |(go_at_call 180;(with_reducible refine (zot x _ h _ hs).mono ?_);rintro e w3 ⟨rfl,hb3⟩;have b3:=zab b2 hb3 z2;have m3:=m2.below hb3;have z3:w.heap.size≤w3.heap.size:=(by have:=m3.lt;omega);have e3:=m3.c3;have f3:=m3.free 3;have n3:=m3.set3 ⟨#[]⟩;have e4:=n3.c4;have f4:=n3.free 4;have n4:=n3.set4 ⟨#[]⟩;have y3:w.heap.size≤(w3.setCell ⟨w.heap.size+1,3,none⟩ (.string ⟨#[]⟩)).heap.size:=(by have:=n3.lt;omega);have y4:w.heap.size≤((w3.setCell ⟨w.heap.size+1,3,none⟩ (.string ⟨#[]⟩)).setCell ⟨w.heap.size+1,4,none⟩ (.string ⟨#[]⟩)).heap.size:=(by have:=n4.lt;omega);have b4:=zam (o:=4) (zam (o:=3) b3 none (.string ⟨#[]⟩) (show w.heap.size≤w.heap.size+1 by omega) z3) none (.string ⟨#[]⟩) (show w.heap.size≤w.heap.size+1 by omega) y3))
 go_ret
 exact ⟨rfl,b4⟩
set_option maxRecDepth 4000 in
set_option maxHeartbeats 1600000 in
theorem zpw (b:Bool) (n:Int) (t x:ByteArray) (p:Option Addr) (len cap:Nat) (d:Int) (w:World) (hn:¬ (t.size:Int)≤1048576):
 Calls Tryz.prog 171 #[.agg #[.int .i64 10,.bool b,.int .i64 n,.string t,.string x,.slice p len cap],.int .i64 d] w fun e w'=>e=.returned (.bool (false))∧Below w.heap.size w w':=by
 have l0:Six ((w.alloc (.cells #[.int .i64 10,.bool b,.int .i64 n,.string t,.string x,.slice p len cap] 60)).alloc (.cells #[.int .i64 10,.bool b,.int .i64 n,.string t,.string x,.slice p len cap] 60)) w.heap.size 10 b n t x p len cap:=(zai w rfl).alloc _
 have l1:Six ((w.alloc (.cells #[.int .i64 10,.bool b,.int .i64 n,.string t,.string x,.slice p len cap] 60)).alloc (.cells #[.int .i64 10,.bool b,.int .i64 n,.string t,.string x,.slice p len cap] 60)) (w.heap.size+1) 10 b n t x p len cap:=zai _ (by simp)
 have b0:=zbk w (.cells #[.int .i64 10,.bool b,.int .i64 n,.string t,.string x,.slice p len cap] 60) (.cells #[.int .i64 10,.bool b,.int .i64 n,.string t,.string x,.slice p len cap] 60)
 have l00:=zai (k:=10) (b:=b) (n:=n) (t:=t) (x:=x) (p:=p) (len:=len) (cap:=cap) w rfl
 go_enter Tryz.func171,Tryz.ntmps171
 go_wp2_with (first
  |((with_reducible refine zaj (.tmp 2) w.heap.size (by assumption) ?_ ?_ ?_ ?_);rfl;rfl;rfl)
  |((with_reducible refine zao (.tmp 5) (w.heap.size+1) (by assumption) ?_ ?_ ?_ ?_);rfl;rfl;rfl)
  |(go_at_call 178;(with_reducible refine (zbl 10 b n t x _ 205 rfl _).mono ?_);rintro e w2 ⟨rfl,hb2⟩;have k2:=l0.below hb2;have m2:=l1.below hb2;have b2:=zab b0 hb2 (by have:=l0.lt;omega);have z2:w.heap.size≤w2.heap.size:=by have:=k2.lt;omega
    clear l0 l1 l00 hb2 b0
    have c3:=k2.c3;have c4:=k2.c4;have e3:=m2.c3;have f3:=m2.free 3;have n3:=m2.set3 ⟨#[]⟩;have e4:=n3.c4;have f4:=n3.free 4;have n4:=n3.set4 ⟨#[]⟩;have y3:w.heap.size≤(w2.setCell ⟨w.heap.size+1,3,none⟩ (.string ⟨#[]⟩)).heap.size:=(by have:=n3.lt;omega);have y4:w.heap.size≤((w2.setCell ⟨w.heap.size+1,3,none⟩ (.string ⟨#[]⟩)).setCell ⟨w.heap.size+1,4,none⟩ (.string ⟨#[]⟩)).heap.size:=(by have:=n4.lt;omega);have b4:=zam (o:=4) (zam (o:=3) b2 none (.string ⟨#[]⟩) (show w.heap.size≤w.heap.size+1 by omega) z2) none (.string ⟨#[]⟩) (show w.heap.size≤w.heap.size+1 by omega) y3)
  |(simp only [zha,zhb,zhc,zhd,zhe,zhf,zhg,zhh,zhi,zhj,Result.andThen_ok]))
 go_ret
 exact ⟨rfl,b4⟩
end Go.Proofs.YtcfmenkigolnoaaGreatDoor

/- O1 -/
namespace Go.Proofs.YtcfmenkigolnoaaGreatDoor
open Go.RowKit
def zb8 (k:Int) (b:Bool) (n:Int) (t x:ByteArray) (len:Nat) (r:Bool):Bool:=
 if k=0 then zb1 b n t x len else if k=1 then zb1 false n t x len else if k=2 then zb1 b 0 t x len
 else if k=3 then chk t.data.toList && zb1 b n ⟨#[]⟩ x len
 else if k=4 then decide (t.size≤1048576) && zb1 b n ⟨#[]⟩ x len
 else if k=5 then r && zb1 b n t x 0
 else if k=6∨k=7 then decide (0≤n) && zb1 b 0 t x len
 else if k=8 then zck t && zb1 b n ⟨#[]⟩ x len
 else if k=9 then zc8 t && zb1 b n ⟨#[]⟩ x len
 else if k=10 then decide (t.size≤1048576) && (zck x && zb1 b n ⟨#[]⟩ ⟨#[]⟩ len)
 else false
theorem mayBeOf (k:Int) (b:Bool) (n:Int) (t x:ByteArray) (p:Option Addr) (len cap:Nat) (d:Int) (w:World) (r:Bool) (hG:Gd w) (ht:t.size < 4294967281) (hx:x.size < 4294967281) (d0:0≤d) (d1:d≤1000)
 (hc:k=5→∀ W,Below w.heap.size w W→Calls Tryz.prog 182 #[.slice p len cap,.int .i64 (d+1)] W fun e w'=>e=.returned (.bool r)∧Below W.heap.size W w'):
 Calls Tryz.prog 171 #[.agg #[.int .i64 k,.bool b,.int .i64 n,.string t,.string x,.slice p len cap],.int .i64 d] w fun e w'=>e=.returned (.bool (zb8 k b n t x len r))∧Below w.heap.size w w':=by
 have st:t.size≤maxLen:=by unfold maxLen;omega
 have sx:x.size≤maxLen:=by unfold maxLen;omega
 unfold zb8
 split
 case isTrue h=>subst h;exact mayNull b n t x p len cap d w
 split
 case isTrue h=>subst h;exact zu5 b n t x p len cap d w
 split
 case isTrue h=>subst h;exact zu6 b n t x p len cap d w
 split
 case isTrue h=>
  subst h
  by_cases e:chk t.data.toList=true
  ·rw [e];exact zno b n t x p len cap d w hG ht e
  ·have e:chk t.data.toList=false:=by simpa using e
   rw [e];exact zpq b n t x p len cap d w hG ht e
 split
 case isTrue h=>
  subst h
  by_cases e:t.size≤1048576
  ·rw [decide_eq_true e];exact zpv b n t x p len cap d w (by omega)
  ·rw [decide_eq_false e];exact zsd b n t x p len cap d w (by omega)
 split
 case isTrue h=>
  subst h
  cases r with
  | true=>exact zps b n t x p len cap d w d0 d1 (hc rfl)
  | false=>exact zsa b n t x p len cap d w d0 d1 (hc rfl)
 split
 case isTrue h=>
  rcases h with rfl | rfl
  ·by_cases e:0≤n
   ·rw [decide_eq_true e];exact zpt b n t x p len cap d w e
   ·rw [decide_eq_false e];exact zsb b n t x p len cap d w e
  ·by_cases e:0≤n
   ·rw [decide_eq_true e];exact zpu b n t x p len cap d w e
   ·rw [decide_eq_false e];exact zsc b n t x p len cap d w e
 split
 case isTrue h=>
  subst h
  by_cases e:zck t=true
  ·rw [e];exact zr9 b n t x p len cap d w st e
  ·have e:zck t=false:=by simpa using e
   rw [e];exact zu7 b n t x p len cap d w st e
 split
 case isTrue h=>
  subst h
  by_cases e:zc8 t=true
  ·rw [e];exact znp b n t x p len cap d w st e
  ·have e:zc8 t=false:=by simpa using e
   rw [e];exact zpr b n t x p len cap d w st e
 split
 case isTrue h=>
  subst h
  by_cases e:t.size≤1048576
  ·rw [decide_eq_true e]
   by_cases e2:zck x=true
   ·rw [e2];exact zse b n t x p len cap d w sx (by omega) e2
   ·have e2:zck x=false:=by simpa using e2
    rw [e2];exact zu8 b n t x p len cap d w sx (by omega) e2
  ·rw [decide_eq_false e];exact zpw b n t x p len cap d w (by omega)
 have hk:zpl k=214:=by
  unfold zpl
  simp only [*,if_false]
  rename_i h67 _ _ _
  have a6:k≠6:=fun e=>h67 (.inl e)
  have a7:k≠7:=fun e=>h67 (.inr e)
  simp only [a6,a7,if_false]
 exact znq k b n t x p len cap d w hk
end Go.Proofs.YtcfmenkigolnoaaGreatDoor

/- O2 -/
namespace Go.Proofs.YtcfmenkigolnoaaGreatDoor
open Go.RowKit
inductive Val where
 | mk (k:Int) (b:Bool) (n:Int) (t x:ByteArray) (l:List Val)
structure Fine (n:Int) (t x:ByteArray) (len:Nat):Prop where
 ht:t.size≤2097152
 hx:x.size≤2097152
 hn:len≤2097152
 lo:-9223372036854775808≤n
 hi:n≤9223372036854775807
mutual
def za7 (w:World) (g off:Nat):Val→Prop
 | .mk k b n t x l=>w.cell? ⟨g,off,none⟩=some (.int .i64 k)∧w.cell? ⟨g,off+1,none⟩=some (.bool b)∧w.cell? ⟨g,off+2,none⟩=some (.int .i64 n)∧
   w.cell? ⟨g,off+3,none⟩=some (.string t)∧w.cell? ⟨g,off+4,none⟩=some (.string x)∧Fine n t x l.length∧
   ∃ L,w.cell? ⟨g,off+5,none⟩=some L∧Held w L l
def Held (w:World) (L:Value):List Val→Prop
 | []=>∃ p cap,L=.slice p 0 cap
 | v::r=>∃ g off cap,L=.slice (some ⟨g,off,none⟩) (r.length+1) cap∧za7 w g off v∧zb5 w g (off+6) r
def zb5 (w:World) (g off:Nat):List Val→Prop
 | []=>True
 | v::r=>za7 w g off v∧zb5 w g (off+6) r
end
mutual
theorem za7.below {w w':World} {g off:Nat}:(v:Val)→za7 w g off v→Below w.heap.size w w'→za7 w' g off v
 | .mk _ _ _ _ _ l,h,q=>by
   unfold za7 at h ⊢
   obtain ⟨h0,h1,h2,h3,h4,hf,L,h5,hl⟩:=h
   have hg:=World.block_lt_of_cell? w _ h0
   exact ⟨(q.cell (p:=⟨g,off,none⟩) hg).trans h0,(q.cell (p:=⟨g,off+1,none⟩) hg).trans h1,(q.cell (p:=⟨g,off+2,none⟩) hg).trans h2,(q.cell (p:=⟨g,off+3,none⟩) hg).trans h3,
    (q.cell (p:=⟨g,off+4,none⟩) hg).trans h4,hf,L,(q.cell (p:=⟨g,off+5,none⟩) hg).trans h5,Held.below l hl q⟩
theorem Held.below {w w':World} {L:Value}:(l:List Val)→Held w L l→Below w.heap.size w w'→Held w' L l
 | [],h,_=>by
   unfold Held at h ⊢
   exact h
 | v::r,h,q=>by
   unfold Held at h ⊢
   obtain ⟨g,off,cap,e,hv,hr⟩:=h
   exact ⟨g,off,cap,e,za7.below v hv q,zb5.below r hr q⟩
theorem zb5.below {w w':World} {g off:Nat}:(l:List Val)→zb5 w g off l→Below w.heap.size w w'→zb5 w' g off l
 | [],_,_=>by
   unfold zb5
   trivial
 | v::r,h,q=>by
   unfold zb5 at h ⊢
   exact ⟨za7.below v h.1 q,zb5.below r h.2 q⟩
end
mutual
def mayP:Val→Nat→Bool
 | .mk k b n t x l,d=>zb8 k b n t x l.length (decide (l.length≤4096) && decide (d+1≤60) && zed l (d+1))
def zed:List Val→Nat→Bool
 | [],_=>true
 | v::r,d=>mayP v d && zed r d
end
end Go.Proofs.YtcfmenkigolnoaaGreatDoor

/- O3 -/
namespace Go.Proofs.YtcfmenkigolnoaaGreatDoor
open Go.RowKit
theorem zwd {w:World} {g off:Nat} {a b c d e f:Value} (h0:w.cell? ⟨g,off,none⟩=some a) (h1:w.cell? ⟨g,off+1,none⟩=some b) (h2:w.cell? ⟨g,off+2,none⟩=some c)
 (h3:w.cell? ⟨g,off+3,none⟩=some d) (h4:w.cell? ⟨g,off+4,none⟩=some e) (h5:w.cell? ⟨g,off+5,none⟩=some f):w.rangeAt g off [a,b,c,d,e,f]:=by
 intro j v hv
 match j,hv with
 | 0,e=>cases e;exact h0
 | 1,e=>cases e;exact h1
 | 2,e=>cases e;exact h2
 | 3,e=>cases e;exact h3
 | 4,e=>cases e;exact h4
 | 5,e=>cases e;exact h5
 | j+6,e=>simp at e
theorem zby {ops:Array Oper} {rest:List Oper} {o:Oper} {a:Act} {w:World} {Q:Exit→Act→World→Prop} (y:Operand) (g off:Nat) (k:Int) (b:Bool) (n:Int) (t x:ByteArray) (L:Value)
 (h0:w.cell? ⟨g,off,none⟩=some (.int .i64 k)) (h1:w.cell? ⟨g,off+1,none⟩=some (.bool b)) (h2:w.cell? ⟨g,off+2,none⟩=some (.int .i64 n))
 (h3:w.cell? ⟨g,off+3,none⟩=some (.string t)) (h4:w.cell? ⟨g,off+4,none⟩=some (.string x)) (h5:w.cell? ⟨g,off+5,none⟩=some L)
 (hgd:o.guard=none) (ho:o.op=.load 60 y) (hx:a.eval y=.pointer (some ⟨g,off,none⟩))
 (h:wpList Tryz.prog ops Q rest (a.put o.dst (.agg #[.int .i64 k,.bool b,.int .i64 n,.string t,.string x,L])) w):wpList Tryz.prog ops Q (o::rest) a w:=
 wpList_load_mid hgd 60 y ho g off hx [.int .i64 k,.bool b,.int .i64 n,.string t,.string x,L] _ (zwd h0 h1 h2 h3 h4 h5) Tryz.underlying60 rfl zg9 h
end Go.Proofs.YtcfmenkigolnoaaGreatDoor

/- O4 -/
namespace Go.Proofs.YtcfmenkigolnoaaGreatDoor
open Go.RowKit
theorem zb5.at_ {w:World} {g:Nat}:(l:List Val)→(off:Nat)→zb5 w g off l→∀ (i:Nat) (h:i < l.length),za7 w g (off+i*6) l[i]
 | [],_,_,i,h=>absurd h (by simp)
 | v::r,off,hh,i,h=>by
   unfold zb5 at hh
   match i,h with
   | 0,_=>rw [Nat.zero_mul];exact hh.1
   | i+1,h=>
     have:=zb5.at_ r (off+6) hh.2 i (by simpa using h)
     rw [show off+(i+1)*6=off+6+i*6 by omega]
     exact this
theorem zg0:(l:List Val)→(d:Nat)→∀ (i:Nat) (h:i < l.length),mayP l[i] d=false→zed l d=false
 | [],_,i,h,_=>absurd h (by simp)
 | v::r,d,i,h,e=>by
   unfold zed
   match i,h with
   | 0,_=>rw [show mayP v d=false from e];rfl
   | i+1,h=>rw [zg0 r d i (by simpa using h) e,Bool.and_false]
theorem zhm:(l:List Val)→(d:Nat)→(∀ (i:Nat) (h:i < l.length),mayP l[i] d=true)→zed l d=true
 | [],_,_=>by unfold zed;rfl
 | v::r,d,e=>by
   unfold zed
   rw [show mayP v d=true from e 0 (by simp),zhm r d fun i h=>e (i+1) (by simpa using h)]
   rfl
def zhn (v:Val) (d:Nat):Prop:=∀ (W:World) (k:Int) (b:Bool) (n:Int) (t x:ByteArray) (l:List Val) (L:Value),v=.mk k b n t x l→Gd W→t.size≤2097152→x.size≤2097152→Held W L l→
 Calls Tryz.prog 171 #[.agg #[.int .i64 k,.bool b,.int .i64 n,.string t,.string x,L],.int .i64 d] W fun e w'=>e=.returned (.bool (mayP v d))∧Below W.heap.size W w'
set_option maxHeartbeats 1600000 in
theorem zu9 (l:List Val) (g off cap d:Nat) (w:World) (hG:Gd w) (hl:zb5 w g off l) (h1:l.length≤4096) (h2:d≤60) (each:∀ v∈l,zhn v d):
 Calls Tryz.prog 182 #[.slice (some ⟨g,off,none⟩) l.length cap,.int .i64 d] w fun e w'=>e=.returned (.bool (zed l d))∧Below w.heap.size w w':=by
 have a1:(l.length:Int)≤4096:=by omega
 have a2:(d:Int)≤60:=by omega
 have HH:=Lib.hid hl
 have HE:=Lib.hid each
 clear hl each
 go_enter Tryz.func182,Tryz.ntmps182
 go_wp2_with fail
 go_loopw [16] (fun i wr=>∃ j:Nat,j≤l.length∧i=.int .i64 j∧Below w.heap.size w wr∧∀ (i:Nat) (h:i < l.length),i < j→mayP l[i] d=true) (fun i _=>l.length - (intOf i).toNat)
 case atStart=>exact ⟨0,Nat.zero_le _,rfl,Below.refl _ _,fun _ _ h=>absurd h (by omega)⟩
 case round=>
  obtain ⟨j,hj,rfl,hb,hall⟩:=hrel
  have HA:=Lib.hid hall
  clear hall
  by_cases hlt:j < l.length
  ·have ho:=(zb5.at_ l off HH.out j hlt).below _ hb
   have hev:=HE.out l[j] (List.getElem_mem hlt)
   obtain ⟨k,b,n,t,x,q,ev⟩:∃ k b n t x q,l[j]=Val.mk k b n t x q:=by cases l[j] with | mk k b n t x q=>exact ⟨k,b,n,t,x,q,rfl⟩
   rw [ev] at ho
   unfold za7 at ho
   obtain ⟨c0,c1,c2,c3,c4,hf,L,c5,hL⟩:=ho
   have ht:=hf.ht
   have hx:=hf.hx
   clear hf
   obtain ⟨p,len,cp,rfl⟩:∃ p len cp,L=.slice p len cp:=by
    cases q with
    | nil=>unfold Held at hL;obtain ⟨p,cp,e⟩:=hL;exact ⟨p,0,cp,e⟩
    | cons v r=>unfold Held at hL;obtain ⟨g',off',cp,e,_⟩:=hL;exact ⟨_,_,_,e⟩
   have gr:=hG.below hb
   cases hr:mayP l[j] d with
   | true=>
     have hc:=(hev (wr.alloc (.cells #[.int .i64 k,.bool b,.int .i64 n,.string t,.string x,.slice p len cp] 60)) k b n t x q (.slice p len cp) ev (gr.alloc _) ht hx (Held.below q hL (zas _ _)))
     rw [hr] at hc
     have hs:w.heap.size≤wr.heap.size:=hb.size
     have l0:Six (wr.alloc (.cells #[.int .i64 k,.bool b,.int .i64 n,.string t,.string x,.slice p len cp] 60)) wr.heap.size k b n t x p len cp:=zai _ rfl
     have b0:Below w.heap.size w (wr.alloc (.cells #[.int .i64 k,.bool b,.int .i64 n,.string t,.string x,.slice p len cp] 60)):=hb.alloc hs _
     have z0:w.heap.size≤(wr.alloc (.cells #[.int .i64 k,.bool b,.int .i64 n,.string t,.string x,.slice p len cp] 60)).heap.size:=by have:=l0.lt;omega
     go_wp2_with (first
      |((with_reducible refine zby (.tmp 18) g (off+j*6) k b n t x (.slice p len cp) c0 c1 c2 c3 c4 c5 ?_ ?_ ?_ ?_);rfl;rfl;rfl)
      |((with_reducible refine zaj (.tmp 6) wr.heap.size l0 ?_ ?_ ?_ ?_);rfl;rfl;rfl)
      |(go_at_call 171;(with_reducible refine hc.mono ?_);rintro e w3 ⟨rfl,hb3⟩;have b3:=zab b0 hb3 z0))
     go_roundw
     case rel=>
      refine ⟨j+1,by omega,by go_num,b3,fun i hi hlt'=>?_⟩
      by_cases e:i=j
      ·subst e;exact hr
      ·exact HA.out i hi (by omega)
     case measure=>simp [intOf];omega
   | false=>
     have hc:=(hev (wr.alloc (.cells #[.int .i64 k,.bool b,.int .i64 n,.string t,.string x,.slice p len cp] 60)) k b n t x q (.slice p len cp) ev (gr.alloc _) ht hx (Held.below q hL (zas _ _)))
     rw [hr] at hc
     have hs:w.heap.size≤wr.heap.size:=hb.size
     have l0:Six (wr.alloc (.cells #[.int .i64 k,.bool b,.int .i64 n,.string t,.string x,.slice p len cp] 60)) wr.heap.size k b n t x p len cp:=zai _ rfl
     have b0:Below w.heap.size w (wr.alloc (.cells #[.int .i64 k,.bool b,.int .i64 n,.string t,.string x,.slice p len cp] 60)):=hb.alloc hs _
     have z0:w.heap.size≤(wr.alloc (.cells #[.int .i64 k,.bool b,.int .i64 n,.string t,.string x,.slice p len cp] 60)).heap.size:=by have:=l0.lt;omega
     go_wp2_with (first
      |((with_reducible refine zby (.tmp 18) g (off+j*6) k b n t x (.slice p len cp) c0 c1 c2 c3 c4 c5 ?_ ?_ ?_ ?_);rfl;rfl;rfl)
      |((with_reducible refine zaj (.tmp 6) wr.heap.size l0 ?_ ?_ ?_ ?_);rfl;rfl;rfl)
      |(go_at_call 171;(with_reducible refine hc.mono ?_);rintro e w3 ⟨rfl,hb3⟩;have b3:=zab b0 hb3 z0))
     go_ret
     exact ⟨by rw [zg0 l d j hlt hr];rfl,b3⟩
  ·go_wp2_with fail
   go_ret
   exact ⟨by rw [zhm l d fun i h=>HA.out i h (by omega)];rfl,hb⟩
end Go.Proofs.YtcfmenkigolnoaaGreatDoor

/- O5 -/
namespace Go.Proofs.YtcfmenkigolnoaaGreatDoor
open Go.RowKit
theorem za5 {W:World} {L:Value} {l:List Val} (h:Held W L l):∃ p cap,L=.slice p l.length cap:=by
 cases l with
 | nil=>unfold Held at h;exact h
 | cons v r=>unfold Held at h;obtain ⟨g,off,cap,e,_⟩:=h;exact ⟨_,cap,e⟩
theorem allBig (p:Option Addr) (len cap:Nat) (d:Int) (w:World) (h:(4096:Int) < len):
 Calls Tryz.prog 182 #[.slice p len cap,.int .i64 d] w fun e w'=>e=.returned (.bool false)∧Below w.heap.size w w':=by
 go_enter Tryz.func182,Tryz.ntmps182
 go_wp2_with fail
 go_ret
 exact ⟨rfl,Below.refl _ _⟩
theorem allDeep (p:Option Addr) (len cap:Nat) (d:Int) (w:World) (h:¬ (4096:Int) < len) (h2:60 < d):
 Calls Tryz.prog 182 #[.slice p len cap,.int .i64 d] w fun e w'=>e=.returned (.bool false)∧Below w.heap.size w w':=by
 go_enter Tryz.func182,Tryz.ntmps182
 go_wp2_with fail
 go_ret
 exact ⟨rfl,Below.refl _ _⟩
theorem allNone (p:Option Addr) (cap:Nat) (d:Int) (w:World) (h2:¬ 60 < d):
 Calls Tryz.prog 182 #[.slice p 0 cap,.int .i64 d] w fun e w'=>e=.returned (.bool true)∧Below w.heap.size w w':=by
 go_enter Tryz.func182,Tryz.ntmps182
 go_wp2_with fail
 go_loopw [16] (fun i wr=>i=.int .i64 0∧wr=w) (fun _ _=>0)
 case atStart=>exact ⟨rfl,rfl⟩
 case round=>
  obtain ⟨rfl,rfl⟩:=hrel
  go_wp2_with fail
  go_ret
  exact ⟨rfl,Below.refl _ _⟩
theorem allAny (l:List Val) (L:Value) (d:Nat) (w:World) (hG:Gd w) (hl:Held w L l) (each:d≤60→∀ v∈l,zhn v d):
 Calls Tryz.prog 182 #[L,.int .i64 d] w fun e w'=>e=.returned (.bool (decide (l.length≤4096) && decide (d≤60) && zed l d))∧Below w.heap.size w w':=by
 obtain ⟨p,cap,rfl⟩:=za5 hl
 by_cases h1:l.length≤4096
 ·rw [decide_eq_true h1,Bool.true_and]
  by_cases h2:d≤60
  ·rw [decide_eq_true h2,Bool.true_and]
   cases l with
   | nil=>
     unfold zed
     exact allNone p cap d w (by omega)
   | cons v r=>
     unfold Held at hl
     obtain ⟨g,off,cap',e,hv,hr⟩:=hl
     cases e
     refine zu9 (v::r) g off cap d w hG ?_ h1 h2 (each h2)
     unfold zb5
     exact ⟨hv,hr⟩
  ·rw [decide_eq_false h2,Bool.false_and]
   exact allDeep p _ cap d w (by omega) (by omega)
 ·rw [decide_eq_false h1,Bool.false_and,Bool.false_and]
  exact allBig p _ cap d w (by omega)
theorem ziw (d:Nat) (hd:d≤60) (next:d+1≤60→∀ v,zhn v (d+1)) (v:Val):zhn v d:=by
 intro W k b n t x l L e hG ht hx hL
 subst e
 obtain ⟨p,cap,rfl⟩:=za5 hL
 unfold mayP
 refine mayBeOf k b n t x p l.length cap d W _ hG (by omega) (by omega) (by omega) (by omega) fun _ W' hb=>?_
 have:=allAny l _ (d+1) W' (hG.below hb) (Held.below l hL hb) fun h v _=>next h v
 simpa using this
theorem zou:∀ (m d:Nat),m+d=60→∀ v,zhn v d
 | 0,d,e,v=>ziw d (by omega) (fun h=>absurd h (by omega)) v
 | m+1,d,e,v=>ziw d (by omega) (fun _=>zou m (d+1) (by omega)) v
theorem zva (v:Val) (k:Int) (b:Bool) (n:Int) (t x:ByteArray) (l:List Val) (L:Value) (W:World) (e:v=.mk k b n t x l) (hG:Gd W) (ht:t.size≤2097152) (hx:x.size≤2097152) (hL:Held W L l):
 Calls Tryz.prog 150 #[.agg #[.int .i64 k,.bool b,.int .i64 n,.string t,.string x,L]] W fun e w'=>e=.returned (.bool (mayP v 0))∧Below W.heap.size W w':=by
 obtain ⟨p,cap,rfl⟩:=za5 hL
 have l0:Six (W.alloc (.cells #[.int .i64 k,.bool b,.int .i64 n,.string t,.string x,.slice p l.length cap] 60)) W.heap.size k b n t x p l.length cap:=zai _ rfl
 have b0:=zas W (.cells #[.int .i64 k,.bool b,.int .i64 n,.string t,.string x,.slice p l.length cap] 60)
 have hc:Calls Tryz.prog 171 #[.agg #[.int .i64 k,.bool b,.int .i64 n,.string t,.string x,.slice p l.length cap],.int .i64 0] (W.alloc (.cells #[.int .i64 k,.bool b,.int .i64 n,.string t,.string x,.slice p l.length cap] 60)) _:=
  zou 60 0 rfl v _ k b n t x l _ e (hG.alloc _) ht hx (Held.below l hL b0)
 go_enter Tryz.func150,Tryz.ntmps150
 go_wp2_with (first
  |((with_reducible refine zaj (.tmp 1) W.heap.size l0 ?_ ?_ ?_ ?_);rfl;rfl;rfl)
  |(go_at_call 171;(with_reducible refine hc.mono ?_);rintro e w' ⟨rfl,hb⟩;have b3:=zab b0 hb (Nat.le_of_lt l0.lt)))
 go_ret
 exact ⟨by first | rfl |(subst e;rfl),b3⟩
end Go.Proofs.YtcfmenkigolnoaaGreatDoor

/- V1 -/
namespace Go.Proofs.YtcfmenkigolnoaaGreatDoor
open Go.RowKit
mutual
def zgu:Val→Val→Bool
 | .mk k b n t x l,.mk k2 b2 n2 t2 x2 l2=>(k == k2) && ((b == b2) && ((n == n2) && ((t.toList == t2.toList) && ((x.toList == x2.toList) && ((l.length == l2.length) && zcc l l2)))))
def zcc:List Val→List Val→Bool
 | v::r,v2::r2=>zgu v v2 && zcc r r2
 | _,_=>true
end
theorem zho:(l l2:List Val)→∀ (i:Nat) (h:i < l.length) (h2:i < l2.length),zgu l[i] l2[i]=false→zcc l l2=false
 | [],_,i,h,_,_=>absurd h (by simp)
 | _::_,[],i,_,h2,_=>absurd h2 (by simp)
 | v::r,v2::r2,i,h,h2,e=>by
   unfold zcc
   match i,h,h2 with
   | 0,_,_=>rw [show zgu v v2=false from e];rfl
   | i+1,h,h2=>rw [zho r r2 i (by simpa using h) (by simpa using h2) e,Bool.and_false]
theorem zgi:(l l2:List Val)→(∀ (i:Nat) (h:i < l.length) (h2:i < l2.length),zgu l[i] l2[i]=true)→zcc l l2=true
 | [],_,_=>by unfold zcc;rfl
 | _::_,[],_=>by unfold zcc;rfl
 | v::r,v2::r2,h=>by
   unfold zcc
   rw [show zgu v v2=true from h 0 (by simp) (by simp),Bool.true_and]
   exact zgi r r2 fun i h1 h2=>h (i+1) (by simpa using h1) (by simpa using h2)
structure zpx (w:World) (g off:Nat) (v:Val) (k:Int) (b:Bool) (n:Int) (t x:ByteArray) (q:List Val) (p:Option Addr) (cap:Nat):Prop where
 e:v=.mk k b n t x q
 c0:w.cell? ⟨g,off,none⟩=some (.int .i64 k)
 c1:w.cell? ⟨g,off+1,none⟩=some (.bool b)
 c2:w.cell? ⟨g,off+2,none⟩=some (.int .i64 n)
 c3:w.cell? ⟨g,off+3,none⟩=some (.string t)
 c4:w.cell? ⟨g,off+4,none⟩=some (.string x)
 c5:w.cell? ⟨g,off+5,none⟩=some (.slice p q.length cap)
 hf:Fine n t x q.length
 hl:Held w (.slice p q.length cap) q
theorem za7.opens {w:World} {g off:Nat}:{v:Val}→za7 w g off v→∃ k b n t x q p cap,zpx w g off v k b n t x q p cap
 | .mk k b n t x q,h=>by
   unfold za7 at h
   obtain ⟨h0,h1,h2,h3,h4,hf,L,h5,hl⟩:=h
   obtain ⟨p,cap,rfl⟩:=za5 hl
   exact ⟨k,b,n,t,x,q,p,cap,rfl,h0,h1,h2,h3,h4,h5,hf,hl⟩
theorem Held.form {w:World} {p:Option Addr} {cap n:Nat} {v:Val} {r:List Val} (h:Held w (.slice p n cap) (v::r)):∃ g off,p=some ⟨g,off,none⟩∧zb5 w g off (v::r):=by
 unfold Held at h
 obtain ⟨g,off,cap',e,hv,hr⟩:=h
 cases e
 refine ⟨g,off,rfl,?_⟩
 unfold zb5
 exact ⟨hv,hr⟩
end Go.Proofs.YtcfmenkigolnoaaGreatDoor

/- V2 -/
namespace Go.Proofs.YtcfmenkigolnoaaGreatDoor
open Go.RowKit
theorem zpx.below {w w':World} {g off:Nat} {v:Val} {k:Int} {b:Bool} {n:Int} {t x:ByteArray} {q:List Val} {p:Option Addr} {cap:Nat} (o:zpx w g off v k b n t x q p cap) (h:Below w.heap.size w w'):zpx w' g off v k b n t x q p cap:=by
 have hg:=World.block_lt_of_cell? w _ o.c0
 exact ⟨o.e,(h.cell (p:=⟨g,off,none⟩) hg).trans o.c0,(h.cell (p:=⟨g,off+1,none⟩) hg).trans o.c1,(h.cell (p:=⟨g,off+2,none⟩) hg).trans o.c2,(h.cell (p:=⟨g,off+3,none⟩) hg).trans o.c3,
  (h.cell (p:=⟨g,off+4,none⟩) hg).trans o.c4,(h.cell (p:=⟨g,off+5,none⟩) hg).trans o.c5,o.hf,Held.below q o.hl h⟩
theorem zpx.range {w:World} {g off:Nat} {v:Val} {k:Int} {b:Bool} {n:Int} {t x:ByteArray} {q:List Val} {p:Option Addr} {cap:Nat} (o:zpx w g off v k b n t x q p cap):w.rangeAt g off [.int .i64 k,.bool b,.int .i64 n,.string t,.string x,.slice p q.length cap]:=
 zwd o.c0 o.c1 o.c2 o.c3 o.c4 o.c5
end Go.Proofs.YtcfmenkigolnoaaGreatDoor
