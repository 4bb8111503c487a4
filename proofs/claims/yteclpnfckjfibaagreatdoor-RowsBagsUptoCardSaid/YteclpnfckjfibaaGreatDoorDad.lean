/- Texts of one kind, one behind the other: each says ahead of itself what it shows. -/
import Derived.Test.YteclpnfckjfibaaGreatDoorDac
import Derived.BigQuiet
import Derived.Deep.MidRow
import Derived.Deep.RegionHeld3
import Derived.StillTailTactics
import Derived.Deep.QuietTactic
import Derived.Shelf.SortM.Plain
import Derived.Shelf.SortM.SortNone
import Derived.Test.YteclpnfckjfibaaGreatDoorProg
/- N8 -/
namespace Go.Proofs.YteclpnfckjfibaaGreatDoor
open Go.RowKit
set_option maxRecDepth 4000 in
set_option maxHeartbeats 1600000 in
theorem zvm (b:Bool) (n:Int) (t x:ByteArray) (p:Option Addr) (len cap:Nat) (d:Int) (w:World) (hn:0≤n):
 Calls Tryz.prog 99 #[.agg #[.int .i64 6,.bool b,.int .i64 n,.string t,.string x,.slice p len cap],.int .i64 d] w fun e w'=>e=.returned (.bool (zca b 0 t x len))∧Low w.heap.size w w':=by
 have l0:Six ((w.alloc (.cells #[.int .i64 6,.bool b,.int .i64 n,.string t,.string x,.slice p len cap] 48)).alloc (.cells #[.int .i64 6,.bool b,.int .i64 n,.string t,.string x,.slice p len cap] 48)) w.heap.size 6 b n t x p len cap:=(zaj w rfl).alloc _
 have l1:Six ((w.alloc (.cells #[.int .i64 6,.bool b,.int .i64 n,.string t,.string x,.slice p len cap] 48)).alloc (.cells #[.int .i64 6,.bool b,.int .i64 n,.string t,.string x,.slice p len cap] 48)) (w.heap.size+1) 6 b n t x p len cap:=zaj _ (by simp)
 have b0:=low2 w (.cells #[.int .i64 6,.bool b,.int .i64 n,.string t,.string x,.slice p len cap] 48) (.cells #[.int .i64 6,.bool b,.int .i64 n,.string t,.string x,.slice p len cap] 48)
 have l00:=zaj (k:=6) (b:=b) (n:=n) (t:=t) (x:=x) (p:=p) (len:=len) (cap:=cap) w rfl
 go_enter Tryz.func99,Tryz.ntmps99
 go_wp2_with (first
  |((with_reducible refine zac (.tmp 2) w.heap.size (by assumption) ?_ ?_ ?_ ?_);rfl;rfl;rfl)
  |((with_reducible refine zas (.tmp 5) (w.heap.size+1) (by assumption) ?_ ?_ ?_ ?_);rfl;rfl;rfl)
  |(go_at_call 156;(with_reducible refine (zau 6 b n t x _ 167 rfl _).mono ?_);rintro e w2 ⟨rfl,hb2⟩;have k2:=l0.below hb2.is;have m2:=l1.below hb2.is;have b2:=zak b0 hb2 (by have:=l0.lt;omega);have z2:w.heap.size≤w2.heap.size:=by have:=k2.lt;omega
    clear l0 l1 l00 hb2 b0
    have c1:=m2.c2;have f1:=m2.free 2;have q1:=k2.c2;have m3:Six (w2.setCell ⟨w.heap.size+1,2,none⟩ (.int .i64 0)).drew (w.heap.size+1) _ _ _ _ _ _ _ _:=m2.set2 0;have b3:=(zcf (o:=2) b2 none (.int .i64 0) (show w.heap.size≤w.heap.size+1 by omega) z2).drew;have z3:w.heap.size≤(w2.setCell ⟨w.heap.size+1,2,none⟩ (.int .i64 0)).drew.heap.size:=by simpa [World.setCell] using z2)
  |(simp only [zju,zgn,zgo,zgp,zgq,Result.andThen_ok]))
 go_region_with fail
 all_goals
  go_wp2_with (first
   |((with_reducible refine zas (.tmp 5) (w.heap.size+1) (by assumption) ?_ ?_ ?_ ?_);rfl;rfl;rfl)
   |(go_at_call 161;(with_reducible refine (zdo 6 _ _ _ _ _ _ _ _).mono ?_);rintro e w9 ⟨rfl,hb9⟩;have b9:=zak b3 hb9 z3))
  go_ret
  exact ⟨rfl,b9⟩
set_option maxRecDepth 4000 in
set_option maxHeartbeats 1600000 in
theorem zxp (b:Bool) (n:Int) (t x:ByteArray) (p:Option Addr) (len cap:Nat) (d:Int) (w:World) (hn:¬ 0≤n):
 Calls Tryz.prog 99 #[.agg #[.int .i64 6,.bool b,.int .i64 n,.string t,.string x,.slice p len cap],.int .i64 d] w fun e w'=>e=.returned (.bool (false))∧Low w.heap.size w w':=by
 have l0:Six ((w.alloc (.cells #[.int .i64 6,.bool b,.int .i64 n,.string t,.string x,.slice p len cap] 48)).alloc (.cells #[.int .i64 6,.bool b,.int .i64 n,.string t,.string x,.slice p len cap] 48)) w.heap.size 6 b n t x p len cap:=(zaj w rfl).alloc _
 have l1:Six ((w.alloc (.cells #[.int .i64 6,.bool b,.int .i64 n,.string t,.string x,.slice p len cap] 48)).alloc (.cells #[.int .i64 6,.bool b,.int .i64 n,.string t,.string x,.slice p len cap] 48)) (w.heap.size+1) 6 b n t x p len cap:=zaj _ (by simp)
 have b0:=low2 w (.cells #[.int .i64 6,.bool b,.int .i64 n,.string t,.string x,.slice p len cap] 48) (.cells #[.int .i64 6,.bool b,.int .i64 n,.string t,.string x,.slice p len cap] 48)
 have l00:=zaj (k:=6) (b:=b) (n:=n) (t:=t) (x:=x) (p:=p) (len:=len) (cap:=cap) w rfl
 go_enter Tryz.func99,Tryz.ntmps99
 go_wp2_with (first
  |((with_reducible refine zac (.tmp 2) w.heap.size (by assumption) ?_ ?_ ?_ ?_);rfl;rfl;rfl)
  |((with_reducible refine zas (.tmp 5) (w.heap.size+1) (by assumption) ?_ ?_ ?_ ?_);rfl;rfl;rfl)
  |(go_at_call 156;(with_reducible refine (zau 6 b n t x _ 167 rfl _).mono ?_);rintro e w2 ⟨rfl,hb2⟩;have k2:=l0.below hb2.is;have m2:=l1.below hb2.is;have b2:=zak b0 hb2 (by have:=l0.lt;omega);have z2:w.heap.size≤w2.heap.size:=by have:=k2.lt;omega
    clear l0 l1 l00 hb2 b0
    have c1:=m2.c2;have f1:=m2.free 2;have q1:=k2.c2;have m3:Six (w2.setCell ⟨w.heap.size+1,2,none⟩ (.int .i64 0)).drew (w.heap.size+1) _ _ _ _ _ _ _ _:=m2.set2 0;have b3:=(zcf (o:=2) b2 none (.int .i64 0) (show w.heap.size≤w.heap.size+1 by omega) z2).drew;have z3:w.heap.size≤(w2.setCell ⟨w.heap.size+1,2,none⟩ (.int .i64 0)).drew.heap.size:=by simpa [World.setCell] using z2)
  |(simp only [zju,zgn,zgo,zgp,zgq,Result.andThen_ok]))
 go_region_with fail
 all_goals
  go_wp2_with fail
  go_ret
  exact ⟨rfl,b3⟩
set_option maxRecDepth 4000 in
set_option maxHeartbeats 1600000 in
theorem zvn (b:Bool) (n:Int) (t x:ByteArray) (p:Option Addr) (len cap:Nat) (d:Int) (w:World) (hn:0≤n):
 Calls Tryz.prog 99 #[.agg #[.int .i64 7,.bool b,.int .i64 n,.string t,.string x,.slice p len cap],.int .i64 d] w fun e w'=>e=.returned (.bool (zca b 0 t x len))∧Low w.heap.size w w':=by
 have l0:Six ((w.alloc (.cells #[.int .i64 7,.bool b,.int .i64 n,.string t,.string x,.slice p len cap] 48)).alloc (.cells #[.int .i64 7,.bool b,.int .i64 n,.string t,.string x,.slice p len cap] 48)) w.heap.size 7 b n t x p len cap:=(zaj w rfl).alloc _
 have l1:Six ((w.alloc (.cells #[.int .i64 7,.bool b,.int .i64 n,.string t,.string x,.slice p len cap] 48)).alloc (.cells #[.int .i64 7,.bool b,.int .i64 n,.string t,.string x,.slice p len cap] 48)) (w.heap.size+1) 7 b n t x p len cap:=zaj _ (by simp)
 have b0:=low2 w (.cells #[.int .i64 7,.bool b,.int .i64 n,.string t,.string x,.slice p len cap] 48) (.cells #[.int .i64 7,.bool b,.int .i64 n,.string t,.string x,.slice p len cap] 48)
 have l00:=zaj (k:=7) (b:=b) (n:=n) (t:=t) (x:=x) (p:=p) (len:=len) (cap:=cap) w rfl
 go_enter Tryz.func99,Tryz.ntmps99
 go_wp2_with (first
  |((with_reducible refine zac (.tmp 2) w.heap.size (by assumption) ?_ ?_ ?_ ?_);rfl;rfl;rfl)
  |((with_reducible refine zas (.tmp 5) (w.heap.size+1) (by assumption) ?_ ?_ ?_ ?_);rfl;rfl;rfl)
  |(go_at_call 156;(with_reducible refine (zau 7 b n t x _ 168 rfl _).mono ?_);rintro e w2 ⟨rfl,hb2⟩;have k2:=l0.below hb2.is;have m2:=l1.below hb2.is;have b2:=zak b0 hb2 (by have:=l0.lt;omega);have z2:w.heap.size≤w2.heap.size:=by have:=k2.lt;omega
    clear l0 l1 l00 hb2 b0
    have c1:=m2.c2;have f1:=m2.free 2;have q1:=k2.c2;have m3:Six (w2.setCell ⟨w.heap.size+1,2,none⟩ (.int .i64 0)).drew (w.heap.size+1) _ _ _ _ _ _ _ _:=m2.set2 0;have b3:=(zcf (o:=2) b2 none (.int .i64 0) (show w.heap.size≤w.heap.size+1 by omega) z2).drew;have z3:w.heap.size≤(w2.setCell ⟨w.heap.size+1,2,none⟩ (.int .i64 0)).drew.heap.size:=by simpa [World.setCell] using z2)
  |(simp only [zjz,zgt,zgu,zgv,zgw,Result.andThen_ok]))
 go_region_with fail
 all_goals
  go_wp2_with (first
   |((with_reducible refine zas (.tmp 5) (w.heap.size+1) (by assumption) ?_ ?_ ?_ ?_);rfl;rfl;rfl)
   |(go_at_call 161;(with_reducible refine (zdo 7 _ _ _ _ _ _ _ _).mono ?_);rintro e w9 ⟨rfl,hb9⟩;have b9:=zak b3 hb9 z3))
  go_ret
  exact ⟨rfl,b9⟩
set_option maxRecDepth 4000 in
set_option maxHeartbeats 1600000 in
theorem zxq (b:Bool) (n:Int) (t x:ByteArray) (p:Option Addr) (len cap:Nat) (d:Int) (w:World) (hn:¬ 0≤n):
 Calls Tryz.prog 99 #[.agg #[.int .i64 7,.bool b,.int .i64 n,.string t,.string x,.slice p len cap],.int .i64 d] w fun e w'=>e=.returned (.bool (false))∧Low w.heap.size w w':=by
 have l0:Six ((w.alloc (.cells #[.int .i64 7,.bool b,.int .i64 n,.string t,.string x,.slice p len cap] 48)).alloc (.cells #[.int .i64 7,.bool b,.int .i64 n,.string t,.string x,.slice p len cap] 48)) w.heap.size 7 b n t x p len cap:=(zaj w rfl).alloc _
 have l1:Six ((w.alloc (.cells #[.int .i64 7,.bool b,.int .i64 n,.string t,.string x,.slice p len cap] 48)).alloc (.cells #[.int .i64 7,.bool b,.int .i64 n,.string t,.string x,.slice p len cap] 48)) (w.heap.size+1) 7 b n t x p len cap:=zaj _ (by simp)
 have b0:=low2 w (.cells #[.int .i64 7,.bool b,.int .i64 n,.string t,.string x,.slice p len cap] 48) (.cells #[.int .i64 7,.bool b,.int .i64 n,.string t,.string x,.slice p len cap] 48)
 have l00:=zaj (k:=7) (b:=b) (n:=n) (t:=t) (x:=x) (p:=p) (len:=len) (cap:=cap) w rfl
 go_enter Tryz.func99,Tryz.ntmps99
 go_wp2_with (first
  |((with_reducible refine zac (.tmp 2) w.heap.size (by assumption) ?_ ?_ ?_ ?_);rfl;rfl;rfl)
  |((with_reducible refine zas (.tmp 5) (w.heap.size+1) (by assumption) ?_ ?_ ?_ ?_);rfl;rfl;rfl)
  |(go_at_call 156;(with_reducible refine (zau 7 b n t x _ 168 rfl _).mono ?_);rintro e w2 ⟨rfl,hb2⟩;have k2:=l0.below hb2.is;have m2:=l1.below hb2.is;have b2:=zak b0 hb2 (by have:=l0.lt;omega);have z2:w.heap.size≤w2.heap.size:=by have:=k2.lt;omega
    clear l0 l1 l00 hb2 b0
    have c1:=m2.c2;have f1:=m2.free 2;have q1:=k2.c2;have m3:Six (w2.setCell ⟨w.heap.size+1,2,none⟩ (.int .i64 0)).drew (w.heap.size+1) _ _ _ _ _ _ _ _:=m2.set2 0;have b3:=(zcf (o:=2) b2 none (.int .i64 0) (show w.heap.size≤w.heap.size+1 by omega) z2).drew;have z3:w.heap.size≤(w2.setCell ⟨w.heap.size+1,2,none⟩ (.int .i64 0)).drew.heap.size:=by simpa [World.setCell] using z2)
  |(simp only [zjz,zgt,zgu,zgv,zgw,Result.andThen_ok]))
 go_region_with fail
 all_goals
  go_wp2_with fail
  go_ret
  exact ⟨rfl,b3⟩
set_option maxRecDepth 4000 in
set_option maxHeartbeats 1600000 in
theorem zvo (b:Bool) (n:Int) (t x:ByteArray) (p:Option Addr) (len cap:Nat) (d:Int) (w:World) (hn:(t.size:Int)≤1048576):
 Calls Tryz.prog 99 #[.agg #[.int .i64 4,.bool b,.int .i64 n,.string t,.string x,.slice p len cap],.int .i64 d] w fun e w'=>e=.returned (.bool (zca b n ⟨#[]⟩ x len))∧Low w.heap.size w w':=by
 have l0:Six ((w.alloc (.cells #[.int .i64 4,.bool b,.int .i64 n,.string t,.string x,.slice p len cap] 48)).alloc (.cells #[.int .i64 4,.bool b,.int .i64 n,.string t,.string x,.slice p len cap] 48)) w.heap.size 4 b n t x p len cap:=(zaj w rfl).alloc _
 have l1:Six ((w.alloc (.cells #[.int .i64 4,.bool b,.int .i64 n,.string t,.string x,.slice p len cap] 48)).alloc (.cells #[.int .i64 4,.bool b,.int .i64 n,.string t,.string x,.slice p len cap] 48)) (w.heap.size+1) 4 b n t x p len cap:=zaj _ (by simp)
 have b0:=low2 w (.cells #[.int .i64 4,.bool b,.int .i64 n,.string t,.string x,.slice p len cap] 48) (.cells #[.int .i64 4,.bool b,.int .i64 n,.string t,.string x,.slice p len cap] 48)
 have l00:=zaj (k:=4) (b:=b) (n:=n) (t:=t) (x:=x) (p:=p) (len:=len) (cap:=cap) w rfl
 go_enter Tryz.func99,Tryz.ntmps99
 go_wp2_with (first
  |((with_reducible refine zac (.tmp 2) w.heap.size (by assumption) ?_ ?_ ?_ ?_);rfl;rfl;rfl)
  |((with_reducible refine zas (.tmp 5) (w.heap.size+1) (by assumption) ?_ ?_ ?_ ?_);rfl;rfl;rfl)
  |(go_at_call 156;(with_reducible refine (zau 4 b n t x _ 170 rfl _).mono ?_);rintro e w2 ⟨rfl,hb2⟩;have k2:=l0.below hb2.is;have m2:=l1.below hb2.is;have b2:=zak b0 hb2 (by have:=l0.lt;omega);have z2:w.heap.size≤w2.heap.size:=by have:=k2.lt;omega
    clear l0 l1 l00 hb2 b0
    have c1:=m2.c3;have f1:=m2.free 3;have q1:=k2.c3;have m3:Six (w2.setCell ⟨w.heap.size+1,3,none⟩ (.string ⟨#[]⟩)).drew (w.heap.size+1) _ _ _ _ _ _ _ _:=m2.set3 ⟨#[]⟩;have b3:=(zcf (o:=3) b2 none (.string ⟨#[]⟩) (show w.heap.size≤w.heap.size+1 by omega) z2).drew;have z3:w.heap.size≤(w2.setCell ⟨w.heap.size+1,3,none⟩ (.string ⟨#[]⟩)).drew.heap.size:=by simpa [World.setCell] using z2)
  |(simp only [zj9,zg5,zg6,zg7,zg8,zg9,zka,Result.andThen_ok]))
 go_region_with fail
 all_goals
  go_wp2_with (first
   |((with_reducible refine zas (.tmp 5) (w.heap.size+1) (by assumption) ?_ ?_ ?_ ?_);rfl;rfl;rfl)
   |(go_at_call 161;(with_reducible refine (zdo 4 _ _ _ _ _ _ _ _).mono ?_);rintro e w9 ⟨rfl,hb9⟩;have b9:=zak b3 hb9 z3))
  go_ret
  exact ⟨rfl,b9⟩
set_option maxRecDepth 4000 in
set_option maxHeartbeats 1600000 in
theorem zxr (b:Bool) (n:Int) (t x:ByteArray) (p:Option Addr) (len cap:Nat) (d:Int) (w:World) (hn:¬ (t.size:Int)≤1048576):
 Calls Tryz.prog 99 #[.agg #[.int .i64 4,.bool b,.int .i64 n,.string t,.string x,.slice p len cap],.int .i64 d] w fun e w'=>e=.returned (.bool (false))∧Low w.heap.size w w':=by
 have l0:Six ((w.alloc (.cells #[.int .i64 4,.bool b,.int .i64 n,.string t,.string x,.slice p len cap] 48)).alloc (.cells #[.int .i64 4,.bool b,.int .i64 n,.string t,.string x,.slice p len cap] 48)) w.heap.size 4 b n t x p len cap:=(zaj w rfl).alloc _
 have l1:Six ((w.alloc (.cells #[.int .i64 4,.bool b,.int .i64 n,.string t,.string x,.slice p len cap] 48)).alloc (.cells #[.int .i64 4,.bool b,.int .i64 n,.string t,.string x,.slice p len cap] 48)) (w.heap.size+1) 4 b n t x p len cap:=zaj _ (by simp)
 have b0:=low2 w (.cells #[.int .i64 4,.bool b,.int .i64 n,.string t,.string x,.slice p len cap] 48) (.cells #[.int .i64 4,.bool b,.int .i64 n,.string t,.string x,.slice p len cap] 48)
 have l00:=zaj (k:=4) (b:=b) (n:=n) (t:=t) (x:=x) (p:=p) (len:=len) (cap:=cap) w rfl
 go_enter Tryz.func99,Tryz.ntmps99
 go_wp2_with (first
  |((with_reducible refine zac (.tmp 2) w.heap.size (by assumption) ?_ ?_ ?_ ?_);rfl;rfl;rfl)
  |((with_reducible refine zas (.tmp 5) (w.heap.size+1) (by assumption) ?_ ?_ ?_ ?_);rfl;rfl;rfl)
  |(go_at_call 156;(with_reducible refine (zau 4 b n t x _ 170 rfl _).mono ?_);rintro e w2 ⟨rfl,hb2⟩;have k2:=l0.below hb2.is;have m2:=l1.below hb2.is;have b2:=zak b0 hb2 (by have:=l0.lt;omega);have z2:w.heap.size≤w2.heap.size:=by have:=k2.lt;omega
    clear l0 l1 l00 hb2 b0
    have c1:=m2.c3;have f1:=m2.free 3;have q1:=k2.c3;have m3:Six (w2.setCell ⟨w.heap.size+1,3,none⟩ (.string ⟨#[]⟩)).drew (w.heap.size+1) _ _ _ _ _ _ _ _:=m2.set3 ⟨#[]⟩;have b3:=(zcf (o:=3) b2 none (.string ⟨#[]⟩) (show w.heap.size≤w.heap.size+1 by omega) z2).drew;have z3:w.heap.size≤(w2.setCell ⟨w.heap.size+1,3,none⟩ (.string ⟨#[]⟩)).drew.heap.size:=by simpa [World.setCell] using z2)
  |(simp only [zj9,zg5,zg6,zg7,zg8,zg9,zka,Result.andThen_ok]))
 go_region_with fail
 all_goals
  go_wp2_with fail
  go_ret
  exact ⟨rfl,b3⟩
end Go.Proofs.YteclpnfckjfibaaGreatDoor

/- N9 -/
namespace Go.Proofs.YteclpnfckjfibaaGreatDoor
open Go.RowKit
set_option maxRecDepth 4000 in
set_option maxHeartbeats 1600000 in
theorem zxs (b:Bool) (n:Int) (t x:ByteArray) (p:Option Addr) (len cap:Nat) (d:Int) (w:World) (hs:x.size≤maxLen) (hn:(t.size:Int)≤1048576) (h:zcw x=true):
 Calls Tryz.prog 99 #[.agg #[.int .i64 10,.bool b,.int .i64 n,.string t,.string x,.slice p len cap],.int .i64 d] w fun e w'=>e=.returned (.bool (zca b n ⟨#[]⟩ ⟨#[]⟩ len))∧Low w.heap.size w w':=by
 have l0:Six ((w.alloc (.cells #[.int .i64 10,.bool b,.int .i64 n,.string t,.string x,.slice p len cap] 48)).alloc (.cells #[.int .i64 10,.bool b,.int .i64 n,.string t,.string x,.slice p len cap] 48)) w.heap.size 10 b n t x p len cap:=(zaj w rfl).alloc _
 have l1:Six ((w.alloc (.cells #[.int .i64 10,.bool b,.int .i64 n,.string t,.string x,.slice p len cap] 48)).alloc (.cells #[.int .i64 10,.bool b,.int .i64 n,.string t,.string x,.slice p len cap] 48)) (w.heap.size+1) 10 b n t x p len cap:=zaj _ (by simp)
 have b0:=low2 w (.cells #[.int .i64 10,.bool b,.int .i64 n,.string t,.string x,.slice p len cap] 48) (.cells #[.int .i64 10,.bool b,.int .i64 n,.string t,.string x,.slice p len cap] 48)
 have l00:=zaj (k:=10) (b:=b) (n:=n) (t:=t) (x:=x) (p:=p) (len:=len) (cap:=cap) w rfl
 go_enter Tryz.func99,Tryz.ntmps99
 go_wp2_with (first
  |((with_reducible refine zac (.tmp 2) w.heap.size (by assumption) ?_ ?_ ?_ ?_);rfl;rfl;rfl)
  |((with_reducible refine zas (.tmp 5) (w.heap.size+1) (by assumption) ?_ ?_ ?_ ?_);rfl;rfl;rfl)
  |(go_at_call 156;(with_reducible refine (zau 10 b n t x _ 173 rfl _).mono ?_);rintro e w2 ⟨rfl,hb2⟩;have k2:=l0.below hb2.is;have m2:=l1.below hb2.is;have b2:=zak b0 hb2 (by have:=l0.lt;omega);have z2:w.heap.size≤w2.heap.size:=by have:=k2.lt;omega
    clear l0 l1 l00 hb2 b0
    have c3:=k2.c3;have c4:=k2.c4)
  |(simp only [zhn,ze4,ze5,ze6,ze7,ze8,zho,zhp,zhq,zhr,Result.andThen_ok])
  |(go_at_call 158;(with_reducible refine (zuf x _ h _ hs).mono ?_);rintro e w3 ⟨rfl,hb3⟩;have b3:=zak b2 hb3 z2;have m3:=m2.below hb3.is;have z3:w.heap.size≤w3.heap.size:=(by have:=m3.lt;omega);have e3:=m3.c3;have f3:=m3.free 3;have n3:=m3.set3 ⟨#[]⟩;have e4:=n3.c4;have f4:=n3.free 4;have n4:=n3.set4 ⟨#[]⟩;have y3:w.heap.size≤(w3.setCell ⟨w.heap.size+1,3,none⟩ (.string ⟨#[]⟩)).heap.size:=(by have:=n3.lt;omega);have y4:w.heap.size≤((w3.setCell ⟨w.heap.size+1,3,none⟩ (.string ⟨#[]⟩)).setCell ⟨w.heap.size+1,4,none⟩ (.string ⟨#[]⟩)).heap.size:=(by have:=n4.lt;omega);have b4:=zcf (o:=4) (zcf (o:=3) b3 none (.string ⟨#[]⟩) (show w.heap.size≤w.heap.size+1 by omega) z3) none (.string ⟨#[]⟩) (show w.heap.size≤w.heap.size+1 by omega) y3)
  |(go_at_call 161;(with_reducible refine (zdo 10 _ _ _ _ _ _ _ _).mono ?_);rintro e w9 ⟨rfl,hb9⟩;have b9:=zak b4 hb9 y4))
 go_ret
 exact ⟨rfl,b9⟩
set_option maxRecDepth 4000 in
set_option maxHeartbeats 1600000 in
theorem z1b (b:Bool) (n:Int) (t x:ByteArray) (p:Option Addr) (len cap:Nat) (d:Int) (w:World) (hs:x.size≤maxLen) (hn:(t.size:Int)≤1048576) (h:zcw x=false):
 Calls Tryz.prog 99 #[.agg #[.int .i64 10,.bool b,.int .i64 n,.string t,.string x,.slice p len cap],.int .i64 d] w fun e w'=>e=.returned (.bool (false))∧Low w.heap.size w w':=by
 have l0:Six ((w.alloc (.cells #[.int .i64 10,.bool b,.int .i64 n,.string t,.string x,.slice p len cap] 48)).alloc (.cells #[.int .i64 10,.bool b,.int .i64 n,.string t,.string x,.slice p len cap] 48)) w.heap.size 10 b n t x p len cap:=(zaj w rfl).alloc _
 have l1:Six ((w.alloc (.cells #[.int .i64 10,.bool b,.int .i64 n,.string t,.string x,.slice p len cap] 48)).alloc (.cells #[.int .i64 10,.bool b,.int .i64 n,.string t,.string x,.slice p len cap] 48)) (w.heap.size+1) 10 b n t x p len cap:=zaj _ (by simp)
 have b0:=low2 w (.cells #[.int .i64 10,.bool b,.int .i64 n,.string t,.string x,.slice p len cap] 48) (.cells #[.int .i64 10,.bool b,.int .i64 n,.string t,.string x,.slice p len cap] 48)
 have l00:=zaj (k:=10) (b:=b) (n:=n) (t:=t) (x:=x) (p:=p) (len:=len) (cap:=cap) w rfl
 go_enter Tryz.func99,Tryz.ntmps99
 go_wp2_with (first
  |((with_reducible refine zac (.tmp 2) w.heap.size (by assumption) ?_ ?_ ?_ ?_);rfl;rfl;rfl)
  |((with_reducible refine zas (.tmp 5) (w.heap.size+1) (by assumption) ?_ ?_ ?_ ?_);rfl;rfl;rfl)
  |(go_at_call 156;(with_reducible refine (zau 10 b n t x _ 173 rfl _).mono ?_);rintro e w2 ⟨rfl,hb2⟩;have k2:=l0.below hb2.is;have m2:=l1.below hb2.is;have b2:=zak b0 hb2 (by have:=l0.lt;omega);have z2:w.heap.size≤w2.heap.size:=by have:=k2.lt;omega
    clear l0 l1 l00 hb2 b0
    have c3:=k2.c3;have c4:=k2.c4)
  |(simp only [zhn,ze4,ze5,ze6,ze7,ze8,zho,zhp,zhq,zhr,Result.andThen_ok])
  |(go_at_call 158;(with_reducible refine (zuf x _ h _ hs).mono ?_);rintro e w3 ⟨rfl,hb3⟩;have b3:=zak b2 hb3 z2;have m3:=m2.below hb3.is;have z3:w.heap.size≤w3.heap.size:=(by have:=m3.lt;omega);have e3:=m3.c3;have f3:=m3.free 3;have n3:=m3.set3 ⟨#[]⟩;have e4:=n3.c4;have f4:=n3.free 4;have n4:=n3.set4 ⟨#[]⟩;have y3:w.heap.size≤(w3.setCell ⟨w.heap.size+1,3,none⟩ (.string ⟨#[]⟩)).heap.size:=(by have:=n3.lt;omega);have y4:w.heap.size≤((w3.setCell ⟨w.heap.size+1,3,none⟩ (.string ⟨#[]⟩)).setCell ⟨w.heap.size+1,4,none⟩ (.string ⟨#[]⟩)).heap.size:=(by have:=n4.lt;omega);have b4:=zcf (o:=4) (zcf (o:=3) b3 none (.string ⟨#[]⟩) (show w.heap.size≤w.heap.size+1 by omega) z3) none (.string ⟨#[]⟩) (show w.heap.size≤w.heap.size+1 by omega) y3))
 go_ret
 exact ⟨rfl,b4⟩
set_option maxRecDepth 4000 in
set_option maxHeartbeats 1600000 in
theorem zvp (b:Bool) (n:Int) (t x:ByteArray) (p:Option Addr) (len cap:Nat) (d:Int) (w:World) (hn:¬ (t.size:Int)≤1048576):
 Calls Tryz.prog 99 #[.agg #[.int .i64 10,.bool b,.int .i64 n,.string t,.string x,.slice p len cap],.int .i64 d] w fun e w'=>e=.returned (.bool (false))∧Low w.heap.size w w':=by
 have l0:Six ((w.alloc (.cells #[.int .i64 10,.bool b,.int .i64 n,.string t,.string x,.slice p len cap] 48)).alloc (.cells #[.int .i64 10,.bool b,.int .i64 n,.string t,.string x,.slice p len cap] 48)) w.heap.size 10 b n t x p len cap:=(zaj w rfl).alloc _
 have l1:Six ((w.alloc (.cells #[.int .i64 10,.bool b,.int .i64 n,.string t,.string x,.slice p len cap] 48)).alloc (.cells #[.int .i64 10,.bool b,.int .i64 n,.string t,.string x,.slice p len cap] 48)) (w.heap.size+1) 10 b n t x p len cap:=zaj _ (by simp)
 have b0:=low2 w (.cells #[.int .i64 10,.bool b,.int .i64 n,.string t,.string x,.slice p len cap] 48) (.cells #[.int .i64 10,.bool b,.int .i64 n,.string t,.string x,.slice p len cap] 48)
 have l00:=zaj (k:=10) (b:=b) (n:=n) (t:=t) (x:=x) (p:=p) (len:=len) (cap:=cap) w rfl
 go_enter Tryz.func99,Tryz.ntmps99
 go_wp2_with (first
  |((with_reducible refine zac (.tmp 2) w.heap.size (by assumption) ?_ ?_ ?_ ?_);rfl;rfl;rfl)
  |((with_reducible refine zas (.tmp 5) (w.heap.size+1) (by assumption) ?_ ?_ ?_ ?_);rfl;rfl;rfl)
  |(go_at_call 156;(with_reducible refine (zau 10 b n t x _ 173 rfl _).mono ?_);rintro e w2 ⟨rfl,hb2⟩;have k2:=l0.below hb2.is;have m2:=l1.below hb2.is;have b2:=zak b0 hb2 (by have:=l0.lt;omega);have z2:w.heap.size≤w2.heap.size:=by have:=k2.lt;omega
    clear l0 l1 l00 hb2 b0
    have c3:=k2.c3;have c4:=k2.c4;have e3:=m2.c3;have f3:=m2.free 3;have n3:=m2.set3 ⟨#[]⟩;have e4:=n3.c4;have f4:=n3.free 4;have n4:=n3.set4 ⟨#[]⟩;have y3:w.heap.size≤(w2.setCell ⟨w.heap.size+1,3,none⟩ (.string ⟨#[]⟩)).heap.size:=(by have:=n3.lt;omega);have y4:w.heap.size≤((w2.setCell ⟨w.heap.size+1,3,none⟩ (.string ⟨#[]⟩)).setCell ⟨w.heap.size+1,4,none⟩ (.string ⟨#[]⟩)).heap.size:=(by have:=n4.lt;omega);have b4:=zcf (o:=4) (zcf (o:=3) b2 none (.string ⟨#[]⟩) (show w.heap.size≤w.heap.size+1 by omega) z2) none (.string ⟨#[]⟩) (show w.heap.size≤w.heap.size+1 by omega) y3)
  |(simp only [zhn,ze4,ze5,ze6,ze7,ze8,zho,zhp,zhq,zhr,Result.andThen_ok]))
 go_ret
 exact ⟨rfl,b4⟩
end Go.Proofs.YteclpnfckjfibaaGreatDoor

/- O1 -/
namespace Go.Proofs.YteclpnfckjfibaaGreatDoor
open Go.RowKit
def zb2 (k:Int) (b:Bool) (n:Int) (t x:ByteArray) (len:Nat) (r:Bool):Bool:=
 if k=0 then zca b n t x len else if k=1 then zca false n t x len else if k=2 then zca b 0 t x len
 else if k=3 then chk t.data.toList && zca b n ⟨#[]⟩ x len
 else if k=4 then decide (t.size≤1048576) && zca b n ⟨#[]⟩ x len
 else if k=5 then r && zca b n t x 0
 else if k=6∨k=7 then decide (0≤n) && zca b 0 t x len
 else if k=8 then zcw t && zca b n ⟨#[]⟩ x len
 else if k=9 then zcc t && zca b n ⟨#[]⟩ x len
 else if k=10 then decide (t.size≤1048576) && (zcw x && zca b n ⟨#[]⟩ ⟨#[]⟩ len)
 else false
theorem mayBeOf (k:Int) (b:Bool) (n:Int) (t x:ByteArray) (p:Option Addr) (len cap:Nat) (d:Int) (w:World) (r:Bool) (hG:Gd w) (ht:t.size < 4294967281) (hx:x.size < 4294967281) (d0:0≤d) (d1:d≤1000)
 (hc:k=5→∀ W,Low w.heap.size w W→Calls Tryz.prog 160 #[.slice p len cap,.int .i64 (d+1)] W fun e w'=>e=.returned (.bool r)∧Low W.heap.size W w'):
 Calls Tryz.prog 99 #[.agg #[.int .i64 k,.bool b,.int .i64 n,.string t,.string x,.slice p len cap],.int .i64 d] w fun e w'=>e=.returned (.bool (zb2 k b n t x len r))∧Low w.heap.size w w':=by
 have st:t.size≤maxLen:=by unfold maxLen;omega
 have sx:x.size≤maxLen:=by unfold maxLen;omega
 unfold zb2
 split
 case isTrue h=>subst h;exact mayNull b n t x p len cap d w
 split
 case isTrue h=>subst h;exact z08 b n t x p len cap d w
 split
 case isTrue h=>subst h;exact z09 b n t x p len cap d w
 split
 case isTrue h=>
  subst h
  by_cases e:chk t.data.toList=true
  ·rw [e];exact zss b n t x p len cap d w hG ht e
  ·have e:chk t.data.toList=false:=by simpa using e
   rw [e];exact zvj b n t x p len cap d w hG ht e
 split
 case isTrue h=>
  subst h
  by_cases e:t.size≤1048576
  ·rw [decide_eq_true e];exact zvo b n t x p len cap d w (by omega)
  ·rw [decide_eq_false e];exact zxr b n t x p len cap d w (by omega)
 split
 case isTrue h=>
  subst h
  cases r with
  | true=>exact zvl b n t x p len cap d w d0 d1 (hc rfl)
  | false=>exact zxo b n t x p len cap d w d0 d1 (hc rfl)
 split
 case isTrue h=>
  rcases h with rfl | rfl
  ·by_cases e:0≤n
   ·rw [decide_eq_true e];exact zvm b n t x p len cap d w e
   ·rw [decide_eq_false e];exact zxp b n t x p len cap d w e
  ·by_cases e:0≤n
   ·rw [decide_eq_true e];exact zvn b n t x p len cap d w e
   ·rw [decide_eq_false e];exact zxq b n t x p len cap d w e
 split
 case isTrue h=>
  subst h
  by_cases e:zcw t=true
  ·rw [e];exact zxn b n t x p len cap d w st e
  ·have e:zcw t=false:=by simpa using e
   rw [e];exact z1a b n t x p len cap d w st e
 split
 case isTrue h=>
  subst h
  by_cases e:zcc t=true
  ·rw [e];exact zst b n t x p len cap d w st e
  ·have e:zcc t=false:=by simpa using e
   rw [e];exact zvk b n t x p len cap d w st e
 split
 case isTrue h=>
  subst h
  by_cases e:t.size≤1048576
  ·rw [decide_eq_true e]
   by_cases e2:zcw x=true
   ·rw [e2];exact zxs b n t x p len cap d w sx (by omega) e2
   ·have e2:zcw x=false:=by simpa using e2
    rw [e2];exact z1b b n t x p len cap d w sx (by omega) e2
  ·rw [decide_eq_false e];exact zvp b n t x p len cap d w (by omega)
 have hk:zlq k=200:=by
  unfold zlq
  simp only [*,if_false]
  rename_i h67 _ _ _
  have a6:k≠6:=fun e=>h67 (.inl e)
  have a7:k≠7:=fun e=>h67 (.inr e)
  simp only [a6,a7,if_false]
 exact zsu k b n t x p len cap d w hk
end Go.Proofs.YteclpnfckjfibaaGreatDoor

/- O2 -/
namespace Go.Proofs.YteclpnfckjfibaaGreatDoor
open Go.RowKit
inductive Val where
 | mk (k:Int) (b:Bool) (n:Int) (t x:ByteArray) (l:List Val)
structure Fine (n:Int) (t x:ByteArray) (len:Nat):Prop where
 ht:t.size≤2097152
 hx:x.size≤2097152
 hn:len≤2097152
 lo:-9223372036854775808≤n
 hi:n≤9223372036854775807
mutual
def za7 (w:World) (g off:Nat):Val→Prop
 | .mk k b n t x l=>w.cell? ⟨g,off,none⟩=some (.int .i64 k)∧w.cell? ⟨g,off+1,none⟩=some (.bool b)∧w.cell? ⟨g,off+2,none⟩=some (.int .i64 n)∧
   w.cell? ⟨g,off+3,none⟩=some (.string t)∧w.cell? ⟨g,off+4,none⟩=some (.string x)∧Fine n t x l.length∧
   ∃ L,w.cell? ⟨g,off+5,none⟩=some L∧Held w L l
def Held (w:World) (L:Value):List Val→Prop
 | []=>∃ p cap,L=.slice p 0 cap
 | v::r=>∃ g off cap,L=.slice (some ⟨g,off,none⟩) (r.length+1) cap∧za7 w g off v∧zbp w g (off+6) r
def zbp (w:World) (g off:Nat):List Val→Prop
 | []=>True
 | v::r=>za7 w g off v∧zbp w g (off+6) r
end
mutual
theorem za7.below {w w':World} {g off:Nat}:(v:Val)→za7 w g off v→Below w.heap.size w w'→za7 w' g off v
 | .mk _ _ _ _ _ l,h,q=>by
   unfold za7 at h ⊢
   obtain ⟨h0,h1,h2,h3,h4,hf,L,h5,hl⟩:=h
   have hg:=World.block_lt_of_cell? w _ h0
   exact ⟨(q.cell (p:=⟨g,off,none⟩) hg).trans h0,(q.cell (p:=⟨g,off+1,none⟩) hg).trans h1,(q.cell (p:=⟨g,off+2,none⟩) hg).trans h2,(q.cell (p:=⟨g,off+3,none⟩) hg).trans h3,
    (q.cell (p:=⟨g,off+4,none⟩) hg).trans h4,hf,L,(q.cell (p:=⟨g,off+5,none⟩) hg).trans h5,Held.below l hl q⟩
theorem Held.below {w w':World} {L:Value}:(l:List Val)→Held w L l→Below w.heap.size w w'→Held w' L l
 | [],h,_=>by
   unfold Held at h ⊢
   exact h
 | v::r,h,q=>by
   unfold Held at h ⊢
   obtain ⟨g,off,cap,e,hv,hr⟩:=h
   exact ⟨g,off,cap,e,za7.below v hv q,zbp.below r hr q⟩
theorem zbp.below {w w':World} {g off:Nat}:(l:List Val)→zbp w g off l→Below w.heap.size w w'→zbp w' g off l
 | [],_,_=>by
   unfold zbp
   trivial
 | v::r,h,q=>by
   unfold zbp at h ⊢
   exact ⟨za7.below v h.1 q,zbp.below r h.2 q⟩
end
mutual
def mayP:Val→Nat→Bool
 | .mk k b n t x l,d=>zb2 k b n t x l.length (decide (l.length≤4096) && decide (d+1≤60) && zd5 l (d+1))
def zd5:List Val→Nat→Bool
 | [],_=>true
 | v::r,d=>mayP v d && zd5 r d
end
end Go.Proofs.YteclpnfckjfibaaGreatDoor

/- O3 -/
namespace Go.Proofs.YteclpnfckjfibaaGreatDoor
open Go.RowKit
theorem zxt {w:World} {g off:Nat} {a b c d e f:Value} (h0:w.cell? ⟨g,off,none⟩=some a) (h1:w.cell? ⟨g,off+1,none⟩=some b) (h2:w.cell? ⟨g,off+2,none⟩=some c)
 (h3:w.cell? ⟨g,off+3,none⟩=some d) (h4:w.cell? ⟨g,off+4,none⟩=some e) (h5:w.cell? ⟨g,off+5,none⟩=some f):w.rangeAt g off [a,b,c,d,e,f]:=by
 intro j v hv
 match j,hv with
 | 0,e=>cases e;exact h0
 | 1,e=>cases e;exact h1
 | 2,e=>cases e;exact h2
 | 3,e=>cases e;exact h3
 | 4,e=>cases e;exact h4
 | 5,e=>cases e;exact h5
 | j+6,e=>simp at e
theorem zax {ops:Array Oper} {rest:List Oper} {o:Oper} {a:Act} {w:World} {Q:Exit→Act→World→Prop} (y:Operand) (g off:Nat) (k:Int) (b:Bool) (n:Int) (t x:ByteArray) (L:Value)
 (h0:w.cell? ⟨g,off,none⟩=some (.int .i64 k)) (h1:w.cell? ⟨g,off+1,none⟩=some (.bool b)) (h2:w.cell? ⟨g,off+2,none⟩=some (.int .i64 n))
 (h3:w.cell? ⟨g,off+3,none⟩=some (.string t)) (h4:w.cell? ⟨g,off+4,none⟩=some (.string x)) (h5:w.cell? ⟨g,off+5,none⟩=some L)
 (hgd:o.guard=none) (ho:o.op=.load 48 y) (hx:a.eval y=.pointer (some ⟨g,off,none⟩))
 (h:wpList Tryz.prog ops Q rest (a.put o.dst (.agg #[.int .i64 k,.bool b,.int .i64 n,.string t,.string x,L])) w):wpList Tryz.prog ops Q (o::rest) a w:=
 wpList_load_mid hgd 48 y ho g off hx [.int .i64 k,.bool b,.int .i64 n,.string t,.string x,L] _ (zxt h0 h1 h2 h3 h4 h5) Tryz.underlying48 rfl zmb h
end Go.Proofs.YteclpnfckjfibaaGreatDoor

/- O4 -/
namespace Go.Proofs.YteclpnfckjfibaaGreatDoor
open Go.RowKit
theorem zbp.at_ {w:World} {g:Nat}:(l:List Val)→(off:Nat)→zbp w g off l→∀ (i:Nat) (h:i < l.length),za7 w g (off+i*6) l[i]
 | [],_,_,i,h=>absurd h (by simp)
 | v::r,off,hh,i,h=>by
   unfold zbp at hh
   match i,h with
   | 0,_=>rw [Nat.zero_mul];exact hh.1
   | i+1,h=>
     have:=zbp.at_ r (off+6) hh.2 i (by simpa using h)
     rw [show off+(i+1)*6=off+6+i*6 by omega]
     exact this
theorem zp5:(l:List Val)→(d:Nat)→∀ (i:Nat) (h:i < l.length),mayP l[i] d=false→zd5 l d=false
 | [],_,i,h,_=>absurd h (by simp)
 | v::r,d,i,h,e=>by
   unfold zd5
   match i,h with
   | 0,_=>rw [show mayP v d=false from e];rfl
   | i+1,h=>rw [zp5 r d i (by simpa using h) e,Bool.and_false]
theorem znn:(l:List Val)→(d:Nat)→(∀ (i:Nat) (h:i < l.length),mayP l[i] d=true)→zd5 l d=true
 | [],_,_=>by unfold zd5;rfl
 | v::r,d,e=>by
   unfold zd5
   rw [show mayP v d=true from e 0 (by simp),znn r d fun i h=>e (i+1) (by simpa using h)]
   rfl
def zno (v:Val) (d:Nat):Prop:=∀ (W:World) (k:Int) (b:Bool) (n:Int) (t x:ByteArray) (l:List Val) (L:Value),v=.mk k b n t x l→Gd W→t.size≤2097152→x.size≤2097152→Held W L l→
 Calls Tryz.prog 99 #[.agg #[.int .i64 k,.bool b,.int .i64 n,.string t,.string x,L],.int .i64 d] W fun e w'=>e=.returned (.bool (mayP v d))∧Low W.heap.size W w'
set_option maxHeartbeats 1600000 in
theorem z1c (l:List Val) (g off cap d:Nat) (w:World) (hG:Gd w) (hl:zbp w g off l) (h1:l.length≤4096) (h2:d≤60) (each:∀ v∈l,zno v d):
 Calls Tryz.prog 160 #[.slice (some ⟨g,off,none⟩) l.length cap,.int .i64 d] w fun e w'=>e=.returned (.bool (zd5 l d))∧Low w.heap.size w w':=by
 have a1:(l.length:Int)≤4096:=by omega
 have a2:(d:Int)≤60:=by omega
 have HH:=Lib.hid hl
 have HE:=Lib.hid each
 clear hl each
 go_enter Tryz.func160,Tryz.ntmps160
 go_wp2_with fail
 go_loopw [16] (fun i wr=>∃ j:Nat,j≤l.length∧i=.int .i64 j∧Low w.heap.size w wr∧∀ (i:Nat) (h:i < l.length),i < j→mayP l[i] d=true) (fun i _=>l.length - (intOf i).toNat)
 case atStart=>exact ⟨0,Nat.zero_le _,rfl,Low.refl _ _,fun _ _ h=>absurd h (by omega)⟩
 case round=>
  obtain ⟨j,hj,rfl,hb,hall⟩:=hrel
  have HA:=Lib.hid hall
  clear hall
  by_cases hlt:j < l.length
  ·have ho:=(zbp.at_ l off HH.out j hlt).below _ hb.is
   have hev:=HE.out l[j] (List.getElem_mem hlt)
   obtain ⟨k,b,n,t,x,q,ev⟩:∃ k b n t x q,l[j]=Val.mk k b n t x q:=by cases l[j] with | mk k b n t x q=>exact ⟨k,b,n,t,x,q,rfl⟩
   rw [ev] at ho
   unfold za7 at ho
   obtain ⟨c0,c1,c2,c3,c4,hf,L,c5,hL⟩:=ho
   have ht:=hf.ht
   have hx:=hf.hx
   clear hf
   obtain ⟨p,len,cp,rfl⟩:∃ p len cp,L=.slice p len cp:=by
    cases q with
    | nil=>unfold Held at hL;obtain ⟨p,cp,e⟩:=hL;exact ⟨p,0,cp,e⟩
    | cons v r=>unfold Held at hL;obtain ⟨g',off',cp,e,_⟩:=hL;exact ⟨_,_,_,e⟩
   have gr:=hG.below hb.is
   cases hr:mayP l[j] d with
   | true=>
     have hc:=(hev (wr.alloc (.cells #[.int .i64 k,.bool b,.int .i64 n,.string t,.string x,.slice p len cp] 48)) k b n t x q (.slice p len cp) ev (gr.alloc _) ht hx (Held.below q hL (low1 _ _).is))
     rw [hr] at hc
     have hs:w.heap.size≤wr.heap.size:=hb.size
     have l0:Six (wr.alloc (.cells #[.int .i64 k,.bool b,.int .i64 n,.string t,.string x,.slice p len cp] 48)) wr.heap.size k b n t x p len cp:=zaj _ rfl
     have b0:Low w.heap.size w (wr.alloc (.cells #[.int .i64 k,.bool b,.int .i64 n,.string t,.string x,.slice p len cp] 48)):=hb.alloc hs _
     have z0:w.heap.size≤(wr.alloc (.cells #[.int .i64 k,.bool b,.int .i64 n,.string t,.string x,.slice p len cp] 48)).heap.size:=by have:=l0.lt;omega
     go_wp2_with (first
      |((with_reducible refine zax (.tmp 18) g (off+j*6) k b n t x (.slice p len cp) c0 c1 c2 c3 c4 c5 ?_ ?_ ?_ ?_);rfl;rfl;rfl)
      |((with_reducible refine zac (.tmp 6) wr.heap.size l0 ?_ ?_ ?_ ?_);rfl;rfl;rfl)
      |(go_at_call 99;(with_reducible refine hc.mono ?_);rintro e w3 ⟨rfl,hb3⟩;have b3:=zak b0 hb3 z0))
     go_roundw
     case rel=>
      refine ⟨j+1,by omega,by go_num,b3,fun i hi hlt'=>?_⟩
      by_cases e:i=j
      ·subst e;exact hr
      ·exact HA.out i hi (by omega)
     case measure=>simp [intOf];omega
   | false=>
     have hc:=(hev (wr.alloc (.cells #[.int .i64 k,.bool b,.int .i64 n,.string t,.string x,.slice p len cp] 48)) k b n t x q (.slice p len cp) ev (gr.alloc _) ht hx (Held.below q hL (low1 _ _).is))
     rw [hr] at hc
     have hs:w.heap.size≤wr.heap.size:=hb.size
     have l0:Six (wr.alloc (.cells #[.int .i64 k,.bool b,.int .i64 n,.string t,.string x,.slice p len cp] 48)) wr.heap.size k b n t x p len cp:=zaj _ rfl
     have b0:Low w.heap.size w (wr.alloc (.cells #[.int .i64 k,.bool b,.int .i64 n,.string t,.string x,.slice p len cp] 48)):=hb.alloc hs _
     have z0:w.heap.size≤(wr.alloc (.cells #[.int .i64 k,.bool b,.int .i64 n,.string t,.string x,.slice p len cp] 48)).heap.size:=by have:=l0.lt;omega
     go_wp2_with (first
      |((with_reducible refine zax (.tmp 18) g (off+j*6) k b n t x (.slice p len cp) c0 c1 c2 c3 c4 c5 ?_ ?_ ?_ ?_);rfl;rfl;rfl)
      |((with_reducible refine zac (.tmp 6) wr.heap.size l0 ?_ ?_ ?_ ?_);rfl;rfl;rfl)
      |(go_at_call 99;(with_reducible refine hc.mono ?_);rintro e w3 ⟨rfl,hb3⟩;have b3:=zak b0 hb3 z0))
     go_ret
     exact ⟨by rw [zp5 l d j hlt hr];rfl,b3⟩
  ·go_wp2_with fail
   go_ret
   exact ⟨by rw [znn l d fun i h=>HA.out i h (by omega)];rfl,hb⟩
end Go.Proofs.YteclpnfckjfibaaGreatDoor

/- O5 -/
namespace Go.Proofs.YteclpnfckjfibaaGreatDoor
open Go.RowKit
theorem zb4 {W:World} {L:Value} {l:List Val} (h:Held W L l):∃ p cap,L=.slice p l.length cap:=by
 cases l with
 | nil=>unfold Held at h;exact h
 | cons v r=>unfold Held at h;obtain ⟨g,off,cap,e,_⟩:=h;exact ⟨_,cap,e⟩
theorem allBig (p:Option Addr) (len cap:Nat) (d:Int) (w:World) (h:(4096:Int) < len):
 Calls Tryz.prog 160 #[.slice p len cap,.int .i64 d] w fun e w'=>e=.returned (.bool false)∧Low w.heap.size w w':=by
 go_enter Tryz.func160,Tryz.ntmps160
 go_wp2_with fail
 go_ret
 exact ⟨rfl,Low.refl _ _⟩
theorem allDeep (p:Option Addr) (len cap:Nat) (d:Int) (w:World) (h:¬ (4096:Int) < len) (h2:60 < d):
 Calls Tryz.prog 160 #[.slice p len cap,.int .i64 d] w fun e w'=>e=.returned (.bool false)∧Low w.heap.size w w':=by
 go_enter Tryz.func160,Tryz.ntmps160
 go_wp2_with fail
 go_ret
 exact ⟨rfl,Low.refl _ _⟩
theorem allNone (p:Option Addr) (cap:Nat) (d:Int) (w:World) (h2:¬ 60 < d):
 Calls Tryz.prog 160 #[.slice p 0 cap,.int .i64 d] w fun e w'=>e=.returned (.bool true)∧Low w.heap.size w w':=by
 go_enter Tryz.func160,Tryz.ntmps160
 go_wp2_with fail
 go_loopw [16] (fun i wr=>i=.int .i64 0∧wr=w) (fun _ _=>0)
 case atStart=>exact ⟨rfl,rfl⟩
 case round=>
  obtain ⟨rfl,rfl⟩:=hrel
  go_wp2_with fail
  go_ret
  exact ⟨rfl,Low.refl _ _⟩
theorem allAny (l:List Val) (L:Value) (d:Nat) (w:World) (hG:Gd w) (hl:Held w L l) (each:d≤60→∀ v∈l,zno v d):
 Calls Tryz.prog 160 #[L,.int .i64 d] w fun e w'=>e=.returned (.bool (decide (l.length≤4096) && decide (d≤60) && zd5 l d))∧Low w.heap.size w w':=by
 obtain ⟨p,cap,rfl⟩:=zb4 hl
 by_cases h1:l.length≤4096
 ·rw [decide_eq_true h1,Bool.true_and]
  by_cases h2:d≤60
  ·rw [decide_eq_true h2,Bool.true_and]
   cases l with
   | nil=>
     unfold zd5
     exact allNone p cap d w (by omega)
   | cons v r=>
     unfold Held at hl
     obtain ⟨g,off,cap',e,hv,hr⟩:=hl
     cases e
     refine z1c (v::r) g off cap d w hG ?_ h1 h2 (each h2)
     unfold zbp
     exact ⟨hv,hr⟩
  ·rw [decide_eq_false h2,Bool.false_and]
   exact allDeep p _ cap d w (by omega) (by omega)
 ·rw [decide_eq_false h1,Bool.false_and,Bool.false_and]
  exact allBig p _ cap d w (by omega)
theorem zoz (d:Nat) (hd:d≤60) (next:d+1≤60→∀ v,zno v (d+1)) (v:Val):zno v d:=by
 intro W k b n t x l L e hG ht hx hL
 subst e
 obtain ⟨p,cap,rfl⟩:=zb4 hL
 unfold mayP
 refine mayBeOf k b n t x p l.length cap d W _ hG (by omega) (by omega) (by omega) (by omega) fun _ W' hb=>?_
 have:=allAny l _ (d+1) W' (hG.below hb.is) (Held.below l hL hb.is) fun h v _=>next h v
 simpa using this
theorem zug:∀ (m d:Nat),m+d=60→∀ v,zno v d
 | 0,d,e,v=>zoz d (by omega) (fun h=>absurd h (by omega)) v
 | m+1,d,e,v=>zoz d (by omega) (fun _=>zug m (d+1) (by omega)) v
theorem zuh (v:Val) (k:Int) (b:Bool) (n:Int) (t x:ByteArray) (l:List Val) (L:Value) (W:World) (e:v=.mk k b n t x l) (hG:Gd W) (ht:t.size≤2097152) (hx:x.size≤2097152) (hL:Held W L l):
 Calls Tryz.prog 56 #[.agg #[.int .i64 k,.bool b,.int .i64 n,.string t,.string x,L]] W fun e w'=>e=.returned (.bool (mayP v 0))∧Low W.heap.size W w':=by
 obtain ⟨p,cap,rfl⟩:=zb4 hL
 have l0:Six (W.alloc (.cells #[.int .i64 k,.bool b,.int .i64 n,.string t,.string x,.slice p l.length cap] 48)) W.heap.size k b n t x p l.length cap:=zaj _ rfl
 have b0:=low1 W (.cells #[.int .i64 k,.bool b,.int .i64 n,.string t,.string x,.slice p l.length cap] 48)
 have hc:Calls Tryz.prog 99 #[.agg #[.int .i64 k,.bool b,.int .i64 n,.string t,.string x,.slice p l.length cap],.int .i64 0] (W.alloc (.cells #[.int .i64 k,.bool b,.int .i64 n,.string t,.string x,.slice p l.length cap] 48)) _:=
  zug 60 0 rfl v _ k b n t x l _ e (hG.alloc _) ht hx (Held.below l hL b0.is)
 go_enter Tryz.func56,Tryz.ntmps56
 go_wp2_with (first
  |((with_reducible refine zac (.tmp 1) W.heap.size l0 ?_ ?_ ?_ ?_);rfl;rfl;rfl)
  |(go_at_call 99;(with_reducible refine hc.mono ?_);rintro e w' ⟨rfl,hb⟩;have b3:=zak b0 hb (Nat.le_of_lt l0.lt)))
 go_ret
 exact ⟨by first | rfl |(subst e;rfl),b3⟩
end Go.Proofs.YteclpnfckjfibaaGreatDoor

/- V1 -/
namespace Go.Proofs.YteclpnfckjfibaaGreatDoor
open Go.RowKit
mutual
def zc9:Val→Val→Bool
 | .mk k b n t x l,.mk k2 b2 n2 t2 x2 l2=>(k == k2) && ((b == b2) && ((n == n2) && ((t.toList == t2.toList) && ((x.toList == x2.toList) && ((l.length == l2.length) && zbr l l2)))))
def zbr:List Val→List Val→Bool
 | v::r,v2::r2=>zc9 v v2 && zbr r r2
 | _,_=>true
end
theorem zi2:(l l2:List Val)→∀ (i:Nat) (h:i < l.length) (h2:i < l2.length),zc9 l[i] l2[i]=false→zbr l l2=false
 | [],_,i,h,_,_=>absurd h (by simp)
 | _::_,[],i,_,h2,_=>absurd h2 (by simp)
 | v::r,v2::r2,i,h,h2,e=>by
   unfold zbr
   match i,h,h2 with
   | 0,_,_=>rw [show zc9 v v2=false from e];rfl
   | i+1,h,h2=>rw [zi2 r r2 i (by simpa using h) (by simpa using h2) e,Bool.and_false]
theorem zhx:(l l2:List Val)→(∀ (i:Nat) (h:i < l.length) (h2:i < l2.length),zc9 l[i] l2[i]=true)→zbr l l2=true
 | [],_,_=>by unfold zbr;rfl
 | _::_,[],_=>by unfold zbr;rfl
 | v::r,v2::r2,h=>by
   unfold zbr
   rw [show zc9 v v2=true from h 0 (by simp) (by simp),Bool.true_and]
   exact zhx r r2 fun i h1 h2=>h (i+1) (by simpa using h1) (by simpa using h2)
structure zsv (w:World) (g off:Nat) (v:Val) (k:Int) (b:Bool) (n:Int) (t x:ByteArray) (q:List Val) (p:Option Addr) (cap:Nat):Prop where
 e:v=.mk k b n t x q
 c0:w.cell? ⟨g,off,none⟩=some (.int .i64 k)
 c1:w.cell? ⟨g,off+1,none⟩=some (.bool b)
 c2:w.cell? ⟨g,off+2,none⟩=some (.int .i64 n)
 c3:w.cell? ⟨g,off+3,none⟩=some (.string t)
 c4:w.cell? ⟨g,off+4,none⟩=some (.string x)
 c5:w.cell? ⟨g,off+5,none⟩=some (.slice p q.length cap)
 hf:Fine n t x q.length
 hl:Held w (.slice p q.length cap) q
theorem za7.opens {w:World} {g off:Nat}:{v:Val}→za7 w g off v→∃ k b n t x q p cap,zsv w g off v k b n t x q p cap
 | .mk k b n t x q,h=>by
   unfold za7 at h
   obtain ⟨h0,h1,h2,h3,h4,hf,L,h5,hl⟩:=h
   obtain ⟨p,cap,rfl⟩:=zb4 hl
   exact ⟨k,b,n,t,x,q,p,cap,rfl,h0,h1,h2,h3,h4,h5,hf,hl⟩
theorem Held.form {w:World} {p:Option Addr} {cap n:Nat} {v:Val} {r:List Val} (h:Held w (.slice p n cap) (v::r)):∃ g off,p=some ⟨g,off,none⟩∧zbp w g off (v::r):=by
 unfold Held at h
 obtain ⟨g,off,cap',e,hv,hr⟩:=h
 cases e
 refine ⟨g,off,rfl,?_⟩
 unfold zbp
 exact ⟨hv,hr⟩
def zo0 (v:Val):Prop:=∀ (W:World) (k:Int) (b:Bool) (n:Int) (t x:ByteArray) (q:List Val) (p:Option Addr) (cap:Nat) (v2:Val) (k2:Int) (b2:Bool) (n2:Int) (t2 x2:ByteArray) (q2:List Val) (p2:Option Addr) (cap2:Nat),
 v=.mk k b n t x q→v2=.mk k2 b2 n2 t2 x2 q2→q.length≤2097152→Held W (.slice p q.length cap) q→Held W (.slice p2 q2.length cap2) q2→
 Calls Tryz.prog 137 #[.agg #[.int .i64 k,.bool b,.int .i64 n,.string t,.string x,.slice p q.length cap],.agg #[.int .i64 k2,.bool b2,.int .i64 n2,.string t2,.string x2,.slice p2 q2.length cap2]] W
  fun e w'=>e=.returned (.bool (zc9 v v2))∧Low W.heap.size W w'
theorem zxu (p p2:Option Addr) (n n2 cap cap2:Nat) (w:World) (h:¬ n=n2):
 Calls Tryz.prog 183 #[.slice p n cap,.slice p2 n2 cap2,.func (.func 137) #[] #[]] w fun e w'=>e=.returned (.bool false)∧Low w.heap.size w w':=by
 have h1:((n:Int) != n2)=true:=by simp;omega
 clear h
 go_enter Tryz.func183,Tryz.ntmps183
 go_wp2_with fail
 go_ret
 exact ⟨rfl,Low.refl _ _⟩
theorem zvq (p p2:Option Addr) (cap cap2:Nat) (w:World):
 Calls Tryz.prog 183 #[.slice p 0 cap,.slice p2 0 cap2,.func (.func 137) #[] #[]] w fun e w'=>e=.returned (.bool true)∧Low w.heap.size w w':=by
 go_enter Tryz.func183,Tryz.ntmps183
 go_wp2_with fail
 go_loopw [17] (fun i wr=>i=.int .i64 0∧wr=w) (fun _ _=>0)
 case atStart=>exact ⟨rfl,rfl⟩
 case round=>
  obtain ⟨rfl,rfl⟩:=hrel
  go_wp2_with fail
  go_ret
  exact ⟨rfl,Low.refl _ _⟩
set_option maxHeartbeats 1600000 in
theorem zvr (l l2:List Val) (g off cap g2 off2 cap2:Nat) (w:World) (hl:zbp w g off l) (hl2:zbp w g2 off2 l2) (hlen:l2.length=l.length) (hn:l.length≤2097152) (each:∀ v∈l,zo0 v):
 Calls Tryz.prog 183 #[.slice (some ⟨g,off,none⟩) l.length cap,.slice (some ⟨g2,off2,none⟩) l.length cap2,.func (.func 137) #[] #[]] w fun e w'=>e=.returned (.bool (zbr l l2))∧Low w.heap.size w w':=by
 have HH:=Lib.hid hl
 have HH2:=Lib.hid hl2
 have HE:=Lib.hid each
 have HL:=Lib.hid hlen
 clear hl hl2 each hlen
 go_enter Tryz.func183,Tryz.ntmps183
 go_wp2_with fail
 go_loopw [17] (fun i wr=>∃ j:Nat,j≤l.length∧i=.int .i64 j∧Low w.heap.size w wr∧∀ (i:Nat) (h:i < l.length) (h2:i < l2.length),i < j→zc9 l[i] l2[i]=true) (fun i _=>l.length - (intOf i).toNat)
 case atStart=>exact ⟨0,Nat.zero_le _,rfl,Low.refl _ _,fun _ _ _ h=>absurd h (by omega)⟩
 case round=>
  obtain ⟨j,hj,rfl,hb,hall⟩:=hrel
  have HA:=Lib.hid hall
  clear hall
  by_cases hlt:j < l.length
  ·have hlt2:j < l2.length:=by have:=HL.out;omega
   obtain ⟨k,b,n,t,x,q,p,cp,o1⟩:=((zbp.at_ l off HH.out j hlt).below _ hb.is).opens
   obtain ⟨k2,b2,n2,t2,x2,q2,p2,cp2,o2⟩:=((zbp.at_ l2 off2 HH2.out j hlt2).below _ hb.is).opens
   obtain ⟨c1,hc1⟩:∃ c1,c1=Obj.cells #[.int .i64 k,.bool b,.int .i64 n,.string t,.string x,.slice p q.length cp] 48:=⟨_,rfl⟩
   obtain ⟨c2,hc2⟩:∃ c2,c2=Obj.cells #[.int .i64 k2,.bool b2,.int .i64 n2,.string t2,.string x2,.slice p2 q2.length cp2] 48:=⟨_,rfl⟩
   have bb:=low2 wr c1 c2
   have hc:=HE.out l[j] (List.getElem_mem hlt) ((wr.alloc c1).alloc c2) k b n t x q p cp l2[j] k2 b2 n2 t2 x2 q2 p2 cp2 o1.e o2.e o1.hf.hn (Held.below q o1.hl bb.is) (Held.below q2 o2.hl bb.is)
   obtain ⟨r,hr⟩:∃ r,r=zc9 l[j] l2[j]:=⟨_,rfl⟩
   rw [← hr] at hc
   have l0:Six ((wr.alloc c1).alloc c2) wr.heap.size k b n t x p q.length cp:=by rw [hc1];exact (zaj _ rfl).alloc _
   have l1:Six ((wr.alloc c1).alloc c2) (wr.heap.size+1) k2 b2 n2 t2 x2 p2 q2.length cp2:=by rw [hc2];exact zaj _ (by simp)
   have hs:w.heap.size≤wr.heap.size:=hb.size
   have b0:Low w.heap.size w ((wr.alloc c1).alloc c2):=(hb.alloc hs _).alloc (by simp;omega) _
   have z0:w.heap.size≤((wr.alloc c1).alloc c2).heap.size:=b0.size
   have oo2:zsv (wr.alloc c1) g2 (off2+j*6) l2[j] k2 b2 n2 t2 x2 q2 p2 cp2:=by
    have h1:=low1 wr c1
    have hg:=World.block_lt_of_cell? wr _ o2.c0
    exact ⟨o2.e,(h1.cell (p:=⟨g2,off2+j*6,none⟩) hg).trans o2.c0,(h1.cell (p:=⟨g2,off2+j*6+1,none⟩) hg).trans o2.c1,(h1.cell (p:=⟨g2,off2+j*6+2,none⟩) hg).trans o2.c2,(h1.cell (p:=⟨g2,off2+j*6+3,none⟩) hg).trans o2.c3,
     (h1.cell (p:=⟨g2,off2+j*6+4,none⟩) hg).trans o2.c4,(h1.cell (p:=⟨g2,off2+j*6+5,none⟩) hg).trans o2.c5,o2.hf,Held.below q2 o2.hl h1.is⟩
   have O1:=Lib.hid o1
   have O2:=Lib.hid oo2
   have HR:=Lib.hid hr
   clear o1 o2 oo2 bb hr
   subst hc1 hc2
   cases r with
   | true=>
     go_wp2_with (first
      |((with_reducible refine zax (.tmp 20) g (off+j*6) k b n t x (.slice p q.length cp) O1.out.c0 O1.out.c1 O1.out.c2 O1.out.c3 O1.out.c4 O1.out.c5 ?_ ?_ ?_ ?_);rfl;rfl;rfl)
      |((with_reducible refine zax (.tmp 24) g2 (off2+j*6) k2 b2 n2 t2 x2 (.slice p2 q2.length cp2) O2.out.c0 O2.out.c1 O2.out.c2 O2.out.c3 O2.out.c4 O2.out.c5 ?_ ?_ ?_ ?_);rfl;rfl;rfl)
      |((with_reducible refine zac (.tmp 8) wr.heap.size l0 ?_ ?_ ?_ ?_);rfl;rfl;rfl)
      |((with_reducible refine zac (.tmp 9) (wr.heap.size+1) l1 ?_ ?_ ?_ ?_);rfl;rfl;rfl)
      |(go_at_call 137;(with_reducible refine hc.mono ?_);rintro e w3 ⟨rfl,hb3⟩;have b3:=zak b0 hb3 z0))
     go_roundw
     case rel=>
      refine ⟨j+1,by omega,by go_num,b3,fun i hi hi2 hlt'=>?_⟩
      by_cases e:i=j
      ·subst e;exact HR.out.symm
      ·exact HA.out i hi hi2 (by omega)
     case measure=>simp [intOf];omega
   | false=>
     go_wp2_with (first
      |((with_reducible refine zax (.tmp 20) g (off+j*6) k b n t x (.slice p q.length cp) O1.out.c0 O1.out.c1 O1.out.c2 O1.out.c3 O1.out.c4 O1.out.c5 ?_ ?_ ?_ ?_);rfl;rfl;rfl)
      |((with_reducible refine zax (.tmp 24) g2 (off2+j*6) k2 b2 n2 t2 x2 (.slice p2 q2.length cp2) O2.out.c0 O2.out.c1 O2.out.c2 O2.out.c3 O2.out.c4 O2.out.c5 ?_ ?_ ?_ ?_);rfl;rfl;rfl)
      |((with_reducible refine zac (.tmp 8) wr.heap.size l0 ?_ ?_ ?_ ?_);rfl;rfl;rfl)
      |((with_reducible refine zac (.tmp 9) (wr.heap.size+1) l1 ?_ ?_ ?_ ?_);rfl;rfl;rfl)
      |(go_at_call 137;(with_reducible refine hc.mono ?_);rintro e w3 ⟨rfl,hb3⟩;have b3:=zak b0 hb3 z0))
     go_ret
     exact ⟨by rw [zi2 l l2 j hlt hlt2 HR.out.symm];rfl,b3⟩
  ·go_wp2_with fail
   go_ret
   exact ⟨by rw [zhx l l2 fun i h h2=>HA.out i h h2 (by omega)];rfl,hb⟩
theorem z1d (l l2:List Val) (p p2:Option Addr) (cap cap2:Nat) (w:World) (hl:Held w (.slice p l.length cap) l) (hl2:Held w (.slice p2 l2.length cap2) l2) (hn:l.length≤2097152) (each:∀ v∈l,zo0 v):
 Calls Tryz.prog 183 #[.slice p l.length cap,.slice p2 l2.length cap2,.func (.func 137) #[] #[]] w fun e w'=>e=.returned (.bool ((l.length == l2.length) && zbr l l2))∧Low w.heap.size w w':=by
 by_cases h:l.length=l2.length
 ·rw [show (l.length == l2.length)=true by simpa using h,Bool.true_and,← h]
  cases l with
  | nil=>
    unfold zbr
    exact zvq _ _ _ _ _
  | cons v r=>
    cases l2 with
    | nil=>simp at h
    | cons v2 r2=>
      obtain ⟨g,off,rfl,hh⟩:=hl.form
      obtain ⟨g2,off2,rfl,hh2⟩:=hl2.form
      exact zvr (v::r) (v2::r2) g off cap g2 off2 cap2 w hh hh2 h.symm hn each
 ·rw [show (l.length == l2.length)=false by simpa using h,Bool.false_and]
  exact zxu p p2 _ _ cap cap2 w h
end Go.Proofs.YteclpnfckjfibaaGreatDoor

/- V2 -/
namespace Go.Proofs.YteclpnfckjfibaaGreatDoor
open Go.RowKit
set_option maxHeartbeats 1600000 in
theorem zxv (v:Val) (k:Int) (b:Bool) (n:Int) (t x:ByteArray) (q:List Val) (ev:v=.mk k b n t x q) (each:∀ u∈q,zo0 u):zo0 v:=by
 subst ev
 intro W k1 b1 n1 t1 x1 q1 p cap v2 k2 b2 n2 t2 x2 q2 p2 cap2 e1 e2 hn hl hl2
 cases e1
 subst e2
 unfold zc9
 obtain ⟨c1,hc1⟩:∃ c1,c1=Obj.cells #[.int .i64 k,.bool b,.int .i64 n,.string t,.string x,.slice p q.length cap] 48:=⟨_,rfl⟩
 obtain ⟨c2,hc2⟩:∃ c2,c2=Obj.cells #[.int .i64 k2,.bool b2,.int .i64 n2,.string t2,.string x2,.slice p2 q2.length cap2] 48:=⟨_,rfl⟩
 have b0:=low2 W c1 c2
 have hc:=z1d q q2 p p2 cap cap2 ((W.alloc c1).alloc c2) (Held.below q hl b0.is) (Held.below q2 hl2 b0.is) hn each
 have l0:Six ((W.alloc c1).alloc c2) W.heap.size k b n t x p q.length cap:=by rw [hc1];exact (zaj _ rfl).alloc _
 have l1:Six ((W.alloc c1).alloc c2) (W.heap.size+1) k2 b2 n2 t2 x2 p2 q2.length cap2:=by rw [hc2];exact zaj _ (by simp)
 have z0:=b0.size
 have f0:=l0.c0
 have f1:=l0.c1
 have f2:=l0.c2
 have f3:=l0.c3
 have f4:=l0.c4
 have f5:=l0.c5
 have g0:=l1.c0
 have g1:=l1.c1
 have g2:=l1.c2
 have g3:=l1.c3
 have g4:=l1.c4
 have g5:=l1.c5
 clear l0 l1 hl hl2 each hn
 subst hc1 hc2
 cases a0:(k == k2) with
 | false=>
   rw [Bool.false_and]
   go_enter Tryz.func137,Tryz.ntmps137
   go_wp2_with fail
   go_ret
   exact ⟨rfl,b0⟩
 | true=>
   rw [Bool.true_and]
   cases a1:(b == b2) with
   | false=>
     rw [Bool.false_and]
     go_enter Tryz.func137,Tryz.ntmps137
     go_wp2_with fail
     go_ret
     exact ⟨rfl,b0⟩
   | true=>
     rw [Bool.true_and]
     cases a2:(n == n2) with
     | false=>
       rw [Bool.false_and]
       go_enter Tryz.func137,Tryz.ntmps137
       go_wp2_with fail
       go_ret
       exact ⟨rfl,b0⟩
     | true=>
       rw [Bool.true_and]
       cases a3:(t.toList == t2.toList) with
       | false=>
         rw [Bool.false_and]
         go_enter Tryz.func137,Tryz.ntmps137
         go_wp2_with fail
         go_ret
         exact ⟨rfl,b0⟩
       | true=>
         rw [Bool.true_and]
         cases a4:(x.toList == x2.toList) with
         | false=>
           rw [Bool.false_and]
           go_enter Tryz.func137,Tryz.ntmps137
           go_wp2_with fail
           go_ret
           exact ⟨rfl,b0⟩
         | true=>
           rw [Bool.true_and]
           generalize (q.length == q2.length && zbr q q2)=r at hc ⊢
           go_enter Tryz.func137,Tryz.ntmps137
           go_wp2_with (go_at_call 183;(with_reducible refine hc.mono ?_);rintro e w3 ⟨rfl,hb3⟩;replace b0:=zak b0 hb3 z0)
           go_ret
           exact ⟨rfl,b0⟩
mutual
theorem zxw:(v:Val)→zo0 v
 | .mk k b n t x q=>zxv _ k b n t x q rfl (zui q)
theorem zui:(q:List Val)→∀ u∈q,zo0 u
 | [],_,h=>absurd h (by simp)
 | v::r,u,h=>by
   rcases List.mem_cons.1 h with h | h
   ·rw [h];exact zxw v
   ·exact zui r u h
end
end Go.Proofs.YteclpnfckjfibaaGreatDoor

/- Q2 -/
namespace Go.Proofs.YteclpnfckjfibaaGreatDoor
open Go.RowKit
def numV (k n:Int) (t:ByteArray):Int:=if k=2 then n*10 ^ 54 else if chk t.data.toList then dval t.data.toList else 0
def Says (z:Int) (s:ByteArray):Prop:=chk s.data.toList=true∧dval s.data.toList=z∧s.size < 4294967281
theorem zq1 (n:Int) (h0:-9223372036854775808≤n) (h1:n≤9223372036854775807) (w:World) (hT:Tab w):
 Calls Tryz.prog 284 #[.int .i64 n] w fun e w'=>∃ s,e=.returned (.string s)∧Says (n*10 ^ 54) s∧Low w.heap.size w w':=by
 obtain ⟨f1,f2,f3,f4⟩:=zvi n h0 h1
 refine (ofIntAt n h0 h1 w hT _ rfl f4).mono ?_
 rintro e w' ⟨rfl,hb⟩
 exact ⟨_,rfl,⟨f1,f2,show (intT n).size < _ by omega⟩,hb⟩
theorem znp (k:Int) (b:Bool) (n:Int) (t x:ByteArray) (p:Option Addr) (len cap:Nat) (w:World) (hG:Gd w) (hT:Tab w) (hf:Fine n t x len):
 Calls Tryz.prog 274 #[.agg #[.int .i64 k,.bool b,.int .i64 n,.string t,.string x,.slice p len cap]] w fun e w'=>∃ s,e=.returned (.string s)∧Says (numV k n t) s∧Low w.heap.size w w':=by
 have l0:=zaj (k:=k) (b:=b) (n:=n) (t:=t) (x:=x) (p:=p) (len:=len) (cap:=cap) w rfl
 have b0:=low1 w (.cells #[.int .i64 k,.bool b,.int .i64 n,.string t,.string x,.slice p len cap] 48)
 have g0:=hG.below b0.is
 have t0:=hT.below b0.is
 have z0:=b0.size
 have f0:=l0.c0
 have f2:=l0.c2
 have f3:=l0.c3
 have HF:=Lib.hid hf
 by_cases h2:k=2
 ·subst h2
  obtain ⟨z,hz⟩:∃ z,z=numV 2 n t:=⟨_,rfl⟩
  have hc:=fun W hW=>zq1 n HF.out.lo HF.out.hi W hW
  have e:numV 2 n t=n*10 ^ 54:=by unfold numV;rw [if_pos rfl]
  rw [← e,← hz] at hc
  rw [← hz]
  have HC:=Lib.hid hc
  clear hc hz e l0 hf
  go_enter Tryz.func274,Tryz.ntmps274
  go_wp2_with (go_at_call 284;(with_reducible refine (HC.out _ t0).mono ?_);rintro e w1 ⟨s,rfl,hs,hb⟩;have HS:=Lib.hid hs;clear hs;replace b0:=zak b0 hb z0)
  go_ret
  exact ⟨s,rfl,HS.out,b0⟩
 ·have e2:(k == 2)=false:=by simpa using h2
  cases hk:chk t.data.toList with
  | true=>
    have e:numV k n t=dval t.data.toList:=by unfold numV;rw [if_neg h2,if_pos hk]
    rw [e]
    have hsay:Hid (Says (dval t.data.toList) t):=Lib.hid ⟨hk,rfl,by have:=hf.ht;omega⟩
    have hc:=fun W hW=>zp3 t W hW (by have:=hf.ht;omega)
    rw [hk] at hc
    have b9:=b0
    clear h2 e hk l0 hf
    generalize dval t.data.toList=z at hsay ⊢
    go_enter Tryz.func274,Tryz.ntmps274
    go_wp2_with (go_at_call 157;(with_reducible refine (hc _ g0).mono ?_);rintro e w1 ⟨rfl,hb⟩;have c3:=(hb.cell (p:=⟨w.heap.size,3,none⟩) (World.block_lt_of_cell? _ _ f3)).trans f3;replace b9:=zak b0 hb z0)
    go_ret
    exact ⟨t,rfl,hsay.out,b9⟩
  | false=>
    have e:numV k n t=0:=by unfold numV;rw [if_neg h2,if_neg (by simp [hk])]
    rw [e]
    have hc:=fun W hW=>zp3 t W hW (by have:=hf.ht;omega)
    rw [hk] at hc
    have hd:=fun W hW=>zq1 0 (by omega) (by omega) W hW
    rw [Int.zero_mul] at hd
    have HD:=Lib.hid hd
    have b9:=b0
    clear h2 e hk l0 hf hd
    go_enter Tryz.func274,Tryz.ntmps274
    go_wp2_with (first
     |(go_at_call 157;(with_reducible refine (hc _ g0).mono ?_);rintro e w1 ⟨rfl,hb⟩;have t1:=t0.below hb.is;replace b9:=zak b0 hb z0)
     |(go_at_call 284;(with_reducible refine (HD.out _ t1).mono ?_);rintro e w2 ⟨s,rfl,hs,hb2⟩;have HS:=Lib.hid hs;clear hs;replace b9:=zak b9 hb2 b9.size))
    go_ret
    exact ⟨s,rfl,HS.out,b9⟩
end Go.Proofs.YteclpnfckjfibaaGreatDoor

/- Q3 -/
namespace Go.Proofs.YteclpnfckjfibaaGreatDoor
open Go.RowKit
theorem zo1 (a b:Int):cmpZ (a*10 ^ 54) (b*10 ^ 54)=cmpZ a b:=by
 obtain ⟨P,hP⟩:∃ P:Int,P=10 ^ 54:=⟨_,rfl⟩
 have hp:0 < P:=by rw [hP];decide
 rw [← hP]
 clear hP
 unfold cmpZ
 by_cases h:a < b
 ·rw [if_pos h,if_pos (Int.mul_lt_mul_of_pos_right h hp)]
 ·rw [if_neg h,if_neg (fun h2=>h (Int.lt_of_mul_lt_mul_right h2 (Int.le_of_lt hp)))]
  by_cases h3:b < a
  ·rw [if_pos h3,if_pos (Int.mul_lt_mul_of_pos_right h3 hp)]
  ·rw [if_neg h3,if_neg (fun h2=>h3 (Int.lt_of_mul_lt_mul_right h2 (Int.le_of_lt hp)))]
theorem zp6 (a b:Int) (w:World):Calls Tryz.prog 229 #[.int .i64 a,.int .i64 b] w fun e w'=>e=.returned (.int .i64 (cmpZ a b))∧Low w.heap.size w w':=by
 by_cases h:a < b
 ·have e:cmpZ a b=-1:=by unfold cmpZ;rw [if_pos h]
  rw [e]
  clear e
  go_enter Tryz.func229,Tryz.ntmps229
  go_wp2
  go_ret
  exact ⟨rfl,Low.refl _ _⟩
 ·by_cases h2:b < a
  ·have e:cmpZ a b=1:=by unfold cmpZ;rw [if_neg h,if_pos h2]
   rw [e]
   clear e
   go_enter Tryz.func229,Tryz.ntmps229
   go_wp2
   go_ret
   exact ⟨rfl,Low.refl _ _⟩
  ·have e:cmpZ a b=0:=by unfold cmpZ;rw [if_neg h,if_neg h2]
   rw [e]
   obtain rfl:a=b:=by omega
   clear e h2 h
   go_enter Tryz.func229,Tryz.ntmps229
   go_wp2
   go_ret
   exact ⟨rfl,Low.refl _ _⟩
end Go.Proofs.YteclpnfckjfibaaGreatDoor

/- Q4 -/
namespace Go.Proofs.YteclpnfckjfibaaGreatDoor
open Go.RowKit
theorem Six.range {w:World} {g:Nat} {k:Int} {b:Bool} {n:Int} {t x:ByteArray} {p:Option Addr} {len cap:Nat} (h:Six w g k b n t x p len cap):w.rangeAt g 0 [.int .i64 k,.bool b,.int .i64 n,.string t,.string x,.slice p len cap]:=by
 have:=zxt (g:=g) (off:=0) h.c0 h.c1 h.c2 h.c3 h.c4 h.c5
 exact this
theorem zp7 {ops:Array Oper} {S:World→Prop} {op:Oper} {a:Act} {k:Int} {b:Bool} {n:Int} {t x:ByteArray} {p:Option Addr} {len cap:Nat} (hw:Region.wanted op (yielded ops a.tmps)=true) (y:Operand) (ho:op.op=.load 48 y) (g:Nat) (hx:a.eval y=.pointer (some ⟨g,0,none⟩))
 (hS:∀ w,S w→Six w g k b n t x p len cap):YieldsIf Tryz.prog ops S op (.agg #[.int .i64 k,.bool b,.int .i64 n,.string t,.string x,.slice p len cap]) a:=
 yieldsIf_load_mid hw 48 y ho g 0 hx [.int .i64 k,.bool b,.int .i64 n,.string t,.string x,.slice p len cap] _ (fun w h=>(hS w h).range) Tryz.underlying48 rfl zmb
theorem cmpSays {z z2:Int} {s s2:ByteArray} (h:Says z s) (h2:Says z2 s2) (w:World) (hG:Gd w):
 Calls Tryz.prog 273 #[.string s,.string s2] w fun e w'=>e=.returned (.int .i64 (cmpZ z z2))∧Low w.heap.size w w':=by
 have:=cmpYes s s2 w hG h.2.2 h2.2.2 h.1 h2.1
 rwa [h.2.1,h2.2.1] at this
set_option maxRecDepth 20000 in
set_option maxHeartbeats 1600000 in
theorem zxx (k:Int) (b:Bool) (n:Int) (t x:ByteArray) (p:Option Addr) (len cap:Nat) (k2:Int) (b2:Bool) (n2:Int) (t2 x2:ByteArray) (p2:Option Addr) (len2 cap2:Nat) (w:World) (hG:Gd w) (hT:Tab w) (hf:Fine n t x len) (hf2:Fine n2 t2 x2 len2):
 Calls Tryz.prog 257 #[.agg #[.int .i64 k,.bool b,.int .i64 n,.string t,.string x,.slice p len cap],.agg #[.int .i64 k2,.bool b2,.int .i64 n2,.string t2,.string x2,.slice p2 len2 cap2]] w fun e w'=>e=.returned (.int .i64 (cmpZ (numV k n t) (numV k2 n2 t2)))∧Low w.heap.size w w':=by
 obtain ⟨W0,hW0⟩:∃ W0,W0=(w.alloc (.cells #[.int .i64 k,.bool b,.int .i64 n,.string t,.string x,.slice p len cap] 48)).alloc (.cells #[.int .i64 k2,.bool b2,.int .i64 n2,.string t2,.string x2,.slice p2 len2 cap2] 48):=⟨_,rfl⟩
 have l0:Six W0 w.heap.size k b n t x p len cap:=by rw [hW0];exact (zaj _ rfl).alloc _
 have l1:Six W0 (w.heap.size+1) k2 b2 n2 t2 x2 p2 len2 cap2:=by rw [hW0];exact zaj _ (by simp)
 have b0:Low w.heap.size w W0:=by rw [hW0];exact low2 _ _ _
 have hB:=fun W=>znc 2 k b n t x (.slice p len cap) k2 b2 n2 t2 x2 (.slice p2 len2 cap2) W
 have HF:=Lib.hid (And.intro hf hf2)
 have H0:=Lib.hid hW0
 clear hf hf2 hW0
 cases hb:(k == 2 && k2 == 2) with
 | true=>
   rw [Bool.and_eq_true,beq_iff_eq,beq_iff_eq] at hb
   have e:cmpZ (numV k n t) (numV k2 n2 t2)=cmpZ n n2:=by unfold numV;rw [if_pos hb.1,if_pos hb.2,zo1]
   have hbb:(k == 2 && k2 == 2)=true:=by simp [hb.1,hb.2]
   rw [hbb] at hB
   have hc:=fun W=>zp6 n n2 W
   rw [e]
   rw [show cmpZ n n2=cmpZ n n2 from rfl]
   generalize cmpZ n n2=r at hc ⊢
   clear hb hbb e
   go_enter Tryz.func257,Tryz.ntmps257
   go_wp2_with (first
    |(rw [← H0.out];(with_reducible refine zac (.tmp 2) w.heap.size l0 ?_ ?_ ?_ ?_);rfl;rfl;rfl)
    |((with_reducible refine zac (.tmp 3) (w.heap.size+1) l1 ?_ ?_ ?_ ?_);rfl;rfl;rfl)
    |(go_at_call 258;(with_reducible refine (hB _).mono ?_);rintro e w1 ⟨rfl,hb1⟩;have d0:=(l0.below hb1.is).c2;have d1:=(l1.below hb1.is).c2;have b1:=zak b0 hb1 b0.size)
    |(go_at_call 229;(with_reducible refine (hc _).mono ?_);rintro e w2 ⟨rfl,hb2⟩;replace b1:=zak b1 hb2 b1.size))
   go_ret
   exact ⟨rfl,b1⟩
 | false=>
   rw [hb] at hB
   clear hb
   have hc1:=fun W hW hW2=>znp k b n t x p len cap W hW hW2 HF.out.1
   have hc2:=fun W hW hW2=>znp k2 b2 n2 t2 x2 p2 len2 cap2 W hW hW2 HF.out.2
   generalize numV k n t=z at hc1 ⊢
   generalize numV k2 n2 t2=z2 at hc2 ⊢
   have HC1:=Lib.hid hc1
   have HC2:=Lib.hid hc2
   clear hc1 hc2
   go_enter Tryz.func257,Tryz.ntmps257
   go_wp2_with (first
    |(rw [← H0.out];(with_reducible refine zac (.tmp 2) w.heap.size l0 ?_ ?_ ?_ ?_);rfl;rfl;rfl)
    |((with_reducible refine zac (.tmp 3) (w.heap.size+1) l1 ?_ ?_ ?_ ?_);rfl;rfl;rfl)
    |(go_at_call 258;(with_reducible refine (hB _).mono ?_);rintro e w1 ⟨rfl,hb1⟩;have d0:=l0.below hb1.is;have d1:=l1.below hb1.is;have b1:=zak b0 hb1 b0.size))
   refine wp_region_held_drew (S:=fun w'=>Six w' w.heap.size k b n t x p len cap∧Six w' (w.heap.size+1) k2 b2 n2 t2 x2 p2 len2 cap2∧Low w.heap.size w w') (by kernel_rfl) ⟨d0,d1,b1.drew⟩ (fun hHeld=>?_)
   refine tk (i:=0) rfl (zp7 (by rfl) (.tmp 2) rfl w.heap.size rfl (fun _ h=>h.1)) hHeld ?_
   try simp only [Act.put,List.setIfInBounds_toArray,List.set_cons_zero,List.set_cons_succ]
   refine tk (i:=2) rfl (zp7 (by rfl) (.tmp 3) rfl (w.heap.size+1) rfl (fun _ h=>h.2.1)) hHeld ?_
   try simp only [Act.put,List.setIfInBounds_toArray,List.set_cons_zero,List.set_cons_succ]
   obtain ⟨u1,u2,u3⟩:=hHeld
   refine tr 1 rfl (fun K hK=>?_)
   rw [if_pos (by rfl)]
   go_simp
   refine (HC1.out _ (hG.below u3.is) (hT.below u3.is)).mono ?_
   rintro e w3 ⟨s,rfl,hs,hb3⟩
   refine hK.out _ _ ⟨u1.below hb3.is,u2.below hb3.is,zak u3 hb3 u3.size⟩ (fun hHeld=>?_)
   clear hK K u1 u2 u3 hb3
   try simp only [putS]
   obtain ⟨u1,u2,u3⟩:=hHeld
   refine tr 3 rfl (fun K hK=>?_)
   rw [if_pos (by rfl)]
   go_simp
   refine (HC2.out _ (hG.below u3.is) (hT.below u3.is)).mono ?_
   rintro e w4 ⟨s2,rfl,hs2,hb4⟩
   refine hK.out _ _ ⟨u1.below hb4.is,u2.below hb4.is,zak u3 hb4 u3.size⟩ (fun hHeld=>?_)
   clear hK K u1 u2 u3 hb4
   try simp only [putS]
   obtain ⟨u1,u2,u3⟩:=hHeld
   refine tr 4 rfl (fun K hK=>?_)
   rw [if_pos (by rfl)]
   go_simp
   refine (cmpSays hs hs2 _ (hG.below u3.is)).mono ?_
   rintro e w5 ⟨rfl,hb5⟩
   refine hK.out _ _ ⟨u1.below hb5.is,u2.below hb5.is,zak u3 hb5 u3.size⟩ (fun hHeld=>?_)
   clear hK K u1 u2 u3 hb5
   try simp only [putS]
   obtain ⟨u1,u2,u3⟩:=hHeld
   refine tr 5 rfl (fun K hK=>?_)
   go_simp
   refine hK.out _ _ ⟨u1,u2,u3⟩ (fun hHeld=>?_)
   clear hK K hHeld
   try simp only [putS]
   refine wpAnyH_done (by kernel_rfl) ?_ _
   go_wp2_with fail
   go_ret
   exact ⟨rfl,u3⟩
end Go.Proofs.YteclpnfckjfibaaGreatDoor

/- Q5 -/
namespace Go.Proofs.YteclpnfckjfibaaGreatDoor
open Go.RowKit
end Go.Proofs.YteclpnfckjfibaaGreatDoor

/- Q6 -/
namespace Go.Proofs.YteclpnfckjfibaaGreatDoor
open Go.RowKit
theorem zsv.below {w w':World} {g off:Nat} {v:Val} {k:Int} {b:Bool} {n:Int} {t x:ByteArray} {q:List Val} {p:Option Addr} {cap:Nat} (o:zsv w g off v k b n t x q p cap) (h:Below w.heap.size w w'):zsv w' g off v k b n t x q p cap:=by
 have hg:=World.block_lt_of_cell? w _ o.c0
 exact ⟨o.e,(h.cell (p:=⟨g,off,none⟩) hg).trans o.c0,(h.cell (p:=⟨g,off+1,none⟩) hg).trans o.c1,(h.cell (p:=⟨g,off+2,none⟩) hg).trans o.c2,(h.cell (p:=⟨g,off+3,none⟩) hg).trans o.c3,
  (h.cell (p:=⟨g,off+4,none⟩) hg).trans o.c4,(h.cell (p:=⟨g,off+5,none⟩) hg).trans o.c5,o.hf,Held.below q o.hl h⟩
theorem zsv.range {w:World} {g off:Nat} {v:Val} {k:Int} {b:Bool} {n:Int} {t x:ByteArray} {q:List Val} {p:Option Addr} {cap:Nat} (o:zsv w g off v k b n t x q p cap):w.rangeAt g off [.int .i64 k,.bool b,.int .i64 n,.string t,.string x,.slice p q.length cap]:=
 zxt o.c0 o.c1 o.c2 o.c3 o.c4 o.c5
end Go.Proofs.YteclpnfckjfibaaGreatDoor

/- X1 -/
namespace Go.Proofs.YteclpnfckjfibaaGreatDoor
open Go.RowKit
def addW (a b:Int):Int:=wrap64 (a+b)
mutual
def zi3:Val→Int→Int
 | .mk _ _ _ t x l,n=>addW (addW (addW (addW n 1) (wrap64 ((t.size:Int)/ 64))) (wrap64 ((x.size:Int)/ 64))) (zbt l 0)
def zbt:List Val→Int→Int
 | [],n=>n
 | v::r,n=>zbt r (zi3 v n)
end
theorem zmc:(l:List Val)→(n:Int)→(j:Nat)→(h:j < l.length)→zbt (l.take (j+1)) n=zi3 (l[j]'h) (zbt (l.take j) n)
 | [],_,j,h=>absurd h (by simp)
 | v::r,n,0,_=>by
   show zbt (v::r.take 0) n=zi3 v (zbt [] n)
   simp [zbt]
 | v::r,n,j+1,h=>by
   show zbt (v::r.take (j+1)) n=zi3 (r[j]'(by simpa using h)) (zbt (v::r.take j) n)
   unfold zbt
   exact zmc r _ j (by simpa using h)
def zuj (v:Val):Prop:=∀ (W:World) (k:Int) (b:Bool) (n:Int) (t x:ByteArray) (q:List Val) (p:Option Addr) (cap:Nat),v=.mk k b n t x q→q.length≤2097152→Held W (.slice p q.length cap) q→
 Calls Tryz.prog 96 #[.slice p q.length cap] W fun e w'=>e=.returned (.int .i64 (zbt q 0))∧∃ m,w'=W.drewN m
set_option maxRecDepth 20000 in
set_option maxHeartbeats 1600000 in
theorem z1e (l:List Val) (g off cap:Nat) (w:World) (hl:zbp w g off l) (hn:l.length≤2097152) (each:∀ u∈l,zuj u):
 Calls Tryz.prog 96 #[.slice (some ⟨g,off,none⟩) l.length cap] w fun e w'=>e=.returned (.int .i64 (zbt l 0))∧∃ m,w'=w.drewN m:=by
 obtain ⟨n,hln⟩:∃ n,n=l.length:=⟨_,rfl⟩
 rw [← hln] at hn ⊢
 have HL:=Lib.hid hln
 have HH:=Lib.hid hl
 have HE:=Lib.hid each
 clear hl hln each
 go_enter Tryz.func96,Tryz.ntmps96
 go_wp2_with fail
 go_loopg [3,4] n (fun gg s3 s4 wr=>∃ (j m:Nat) (z:Int),j+gg=n∧s4=.int .i64 j∧s3=.int .i64 z∧Hid (z=zbt (l.take j) 0)∧Hid (wr=w.drewN m))
 case atStart=>exact ⟨0,0,0,by omega,rfl,rfl,Lib.hid (by simp [zbt]),Lib.hid rfl⟩
 case round=>
  obtain ⟨j,m,z,hjg,rfl,rfl,HZ,HW⟩:=hrel
  by_cases hlt:(j:Int) < n
  ·have hj1:j < l.length:=by have:=HL.out;omega
   obtain ⟨k,b,i,t,x,q,p,cp,o⟩:=(zbp.at_ l off HH.out j hj1).opens
   have o1:=o.below (w':=wr) (by rw [HW.out];exact zfm (Below.refl _ _) m)
   have c3:=o1.c3
   have c4:=o1.c4
   have c5:=o1.c5
   have HC:∀ nn,Calls Tryz.prog 96 #[.slice p q.length cp] (wr.drewN nn) fun e w'=>e=.returned (.int .i64 (zbt q 0))∧∃ m',w'=(wr.drewN nn).drewN m':=fun nn=>
    HE.out l[j] (List.getElem_mem hj1) _ k b i t x q p cp o.e o.hf.hn (o1.below (zfm (Below.refl _ _) nn)).hl
   have HC:=Lib.hid HC
   have hz:zbt (l.take (j+1)) 0=addW (addW (addW (addW z 1) (wrap64 ((t.size:Int)/ 64))) (wrap64 ((x.size:Int)/ 64))) (zbt q 0):=by
    rw [zmc l 0 j hj1,o.e,← HZ.out]
    unfold zi3
    rfl
   have HZ2:=Lib.hid hz
   clear hz o o1
   generalize zbt q 0=zq at*
   go_wp2_with fail
   go_quiet ((go_at_call 96;exact Calls.quiet_of (HC.out _)))
   go_wp2_with fail
   go_roundg (gk - 1)
   case measure=>omega
   case rel=>exact ⟨j+1,m+nq,_,by omega,by go_num,rfl,Lib.hid (by rw [HZ2.out];rfl),Lib.hid (by rw [HW.out,World.drewN_drewN])⟩
  ·go_wp2_with fail
   go_ret
   have e:j=l.length:=by have:=HL.out;omega
   exact ⟨by rw [HZ.out,e,List.take_length];rfl,m,HW.out⟩
theorem zq2 (q:List Val) (p:Option Addr) (cap:Nat) (w:World) (hl:Held w (.slice p q.length cap) q) (hn:q.length≤2097152) (each:∀ u∈q,zuj u):
 Calls Tryz.prog 96 #[.slice p q.length cap] w fun e w'=>e=.returned (.int .i64 (zbt q 0))∧∃ m,w'=w.drewN m:=by
 cases q with
 | nil=>
   go_enter Tryz.func96,Tryz.ntmps96
   go_wp2_with fail
   go_loopg [3,4] 0 (fun gg s3 s4 wr=>gg=0∧s3=.int .i64 0∧s4=.int .i64 0∧wr=w)
   case atStart=>exact ⟨rfl,rfl,rfl,rfl⟩
   case round=>
    obtain ⟨_,rfl,rfl,rfl⟩:=hrel
    go_wp2_with fail
    go_ret
    exact ⟨rfl,0,rfl⟩
 | cons v r=>
   obtain ⟨g,off,rfl,hh⟩:=hl.form
   exact z1e (v::r) g off cap w hh hn each
mutual
theorem sizeVal:(v:Val)→zuj v
 | .mk k b n t x q=>fun W k1 b1 n1 t1 x1 q1 p cap e hn hl=>by
   cases e
   exact zq2 q p cap W hl hn (zp8 q)
theorem zp8:(q:List Val)→∀ u∈q,zuj u
 | [],_,h=>absurd h (by simp)
 | v::r,u,h=>by
   rcases List.mem_cons.1 h with h | h
   ·rw [h];exact sizeVal v
   ·exact zp8 r u h
end
end Go.Proofs.YteclpnfckjfibaaGreatDoor

/- NS -/
namespace Go.Proofs
open Go.Shelf
def Tryz.sortI_ren:Go.Shelf.Ren:=⟨fun | 5=>178 | 8=>164 | 7=>212 | 19=>203 | 20=>204 | 10=>234 | 11=>235 | 12=>236 | 13=>237 | 14=>238 | 15=>239 | 16=>240 | 17=>241 | 18=>242 | 30=>260 | 31=>224 | 32=>225 | 33=>261 | 34=>262 | 35=>263 | 40=>276 | n=>n,fun | 23=>26 | 25=>3 | 3=>3 | 32=>179 | 22=>26 | 0=>0 | 44=>211 | 46=>213 | 4=>4 | 36=>204 | 35=>203 | 41=>208 | 5=>5 | 9=>9 | 53=>238 | 57=>242 | 63=>260 | 64=>261 | n=>n,fun | n=>n⟩
theorem Tryz.sortI:Go.Proofs.SlLaysM.n5 Tryz.prog Tryz.sortI_ren:={
 mixed:=by kernel_rfl
 f5:=⟨Tryz.f178.name,by decide,Tryz.func178.trans (congrArg some (by kernel_rfl))⟩
 f7:=⟨Tryz.f212.name,by decide,Tryz.func212.trans (congrArg some (by kernel_rfl))⟩
 f8:=Tryz.func164.trans (congrArg some (by kernel_rfl))
 f10:=⟨Tryz.f234.name,by decide,Tryz.func234.trans (congrArg some (by kernel_rfl))⟩
 f11:=⟨Tryz.f235.name,by decide,Tryz.func235.trans (congrArg some (by kernel_rfl))⟩
 f12:=⟨Tryz.f236.name,by decide,Tryz.func236.trans (congrArg some (by kernel_rfl))⟩
 f13:=⟨Tryz.f237.name,by decide,Tryz.func237.trans (congrArg some (by kernel_rfl))⟩
 f14:=⟨Tryz.f238.name,by decide,Tryz.func238.trans (congrArg some (by kernel_rfl))⟩
 f15:=⟨Tryz.f239.name,by decide,Tryz.func239.trans (congrArg some (by kernel_rfl))⟩
 f16:=⟨Tryz.f240.name,by decide,Tryz.func240.trans (congrArg some (by kernel_rfl))⟩
 f17:=⟨Tryz.f241.name,by decide,Tryz.func241.trans (congrArg some (by kernel_rfl))⟩
 f18:=⟨Tryz.f242.name,by decide,Tryz.func242.trans (congrArg some (by kernel_rfl))⟩
 f19:=Tryz.func203.trans (congrArg some (by kernel_rfl))
 f20:=Tryz.func204.trans (congrArg some (by kernel_rfl))
 f30:=⟨Tryz.f260.name,by decide,Tryz.func260.trans (congrArg some (by kernel_rfl))⟩
 f31:=Tryz.func224.trans (congrArg some (by kernel_rfl))
 f32:=Tryz.func225.trans (congrArg some (by kernel_rfl))
 f33:=⟨Tryz.f261.name,by decide,Tryz.func261.trans (congrArg some (by kernel_rfl))⟩
 f34:=⟨Tryz.f262.name,by decide,Tryz.func262.trans (congrArg some (by kernel_rfl))⟩
 f35:=⟨Tryz.f263.name,by decide,Tryz.func263.trans (congrArg some (by kernel_rfl))⟩
 f40:=⟨Tryz.f276.name,by decide,Tryz.func276.trans (congrArg some (by kernel_rfl))⟩
 t0:=Tryz.underlying0
 a0:=Tryz.isAgg0
 z0:=Tryz.sizeOf0
 v0:=Tryz.zeroValue0
 t3:=Tryz.underlying3
 a3:=Tryz.isAgg3
 z3:=Tryz.sizeOf3
 v3:=Tryz.zeroValue3
 t4:=Tryz.underlying4
 a4:=Tryz.isAgg4
 z4:=Tryz.sizeOf4
 v4:=Tryz.zeroValue4
 t5:=Tryz.underlying5
 a5:=Tryz.isAgg5
 z5:=Tryz.sizeOf5
 v5:=Tryz.zeroValue5
 t9:=Tryz.underlying9
 a9:=Tryz.isAgg9
 z9:=Tryz.sizeOf9
 v9:=Tryz.zeroValue9
 t22:=Tryz.underlying26
 a22:=Tryz.isAgg26
 z22:=Tryz.sizeOf26
 v22:=Tryz.zeroValue26
 t23:=Tryz.underlying26
 a23:=Tryz.isAgg26
 z23:=Tryz.sizeOf26
 v23:=Tryz.zeroValue26
 t25:=Tryz.underlying3
 a25:=Tryz.isAgg3
 z25:=Tryz.sizeOf3
 v25:=Tryz.zeroValue3
 t32:=Tryz.underlying179
 a32:=Tryz.isAgg179
 z32:=Tryz.sizeOf179
 v32:=Tryz.zeroValue179
 t35:=Tryz.underlying203
 a35:=Tryz.isAgg203
 z35:=Tryz.sizeOf203
 v35:=Tryz.zeroValue203
 t36:=Tryz.underlying204
 a36:=Tryz.isAgg204
 z36:=Tryz.sizeOf204
 v36:=Tryz.zeroValue204
 t41:=Tryz.underlying208
 a41:=Tryz.isAgg208
 z41:=Tryz.sizeOf208
 v41:=Tryz.zeroValue208
 t44:=Tryz.underlying211
 a44:=Tryz.isAgg211
 z44:=Tryz.sizeOf211
 v44:=Tryz.zeroValue211
 t46:=Tryz.underlying213
 a46:=Tryz.isAgg213
 z46:=Tryz.sizeOf213
 v46:=Tryz.zeroValue213
 t53:=Tryz.underlying238
 a53:=Tryz.isAgg238
 z53:=Tryz.sizeOf238
 v53:=Tryz.zeroValue238
 t57:=Tryz.underlying242
 a57:=Tryz.isAgg242
 z57:=Tryz.sizeOf242
 v57:=Tryz.zeroValue242
 t63:=Tryz.underlying260
 a63:=Tryz.isAgg260
 z63:=Tryz.sizeOf260
 v63:=Tryz.zeroValue260
 t64:=Tryz.underlying261
 a64:=Tryz.isAgg261
 z64:=Tryz.sizeOf261
 v64:=Tryz.zeroValue261 }
end Go.Proofs
