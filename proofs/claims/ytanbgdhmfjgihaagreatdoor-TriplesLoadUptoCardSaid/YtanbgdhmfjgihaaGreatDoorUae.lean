/- Texts of one kind, one behind the other: each says ahead of itself what it shows. -/
import Derived.Test.YtanbgdhmfjgihaaGreatDoorUac
import Derived.Test.YtanbgdhmfjgihaaGreatDoorUad
import Derived.BigQuiet
namespace Go.Proofs.YtanbgdhmfjgihaaGreatDoor
open Go.RowKit
set_option maxHeartbeats 12800000
set_option maxRecDepth 20000
theorem mayNull (b:Bool) (n:Int) (t x:ByteArray) (p:Option Addr) (len cap:Nat) (d:Int) (w:World):
 Calls Tryz.prog 86 #[.agg #[.int .i64 0,.bool b,.int .i64 n,.string t,.string x,.slice p len cap],.int .i64 d] w fun e w'=>e=.returned (.bool (zbl b n t x len))∧Low w.heap.size w w':=by
 have l0:Six ((w.alloc (.cells #[.int .i64 0,.bool b,.int .i64 n,.string t,.string x,.slice p len cap] 39)).alloc (.cells #[.int .i64 0,.bool b,.int .i64 n,.string t,.string x,.slice p len cap] 39)) w.heap.size 0 b n t x p len cap:=(zah w rfl).alloc _
 have l1:Six ((w.alloc (.cells #[.int .i64 0,.bool b,.int .i64 n,.string t,.string x,.slice p len cap] 39)).alloc (.cells #[.int .i64 0,.bool b,.int .i64 n,.string t,.string x,.slice p len cap] 39)) (w.heap.size+1) 0 b n t x p len cap:=zah _ (by simp)
 have b0:=low2 w (.cells #[.int .i64 0,.bool b,.int .i64 n,.string t,.string x,.slice p len cap] 39) (.cells #[.int .i64 0,.bool b,.int .i64 n,.string t,.string x,.slice p len cap] 39)
 have l00:=zah (k:=0) (b:=b) (n:=n) (t:=t) (x:=x) (p:=p) (len:=len) (cap:=cap) w rfl
 go_enter Tryz.func86,Tryz.ntmps86
 go_wp2_with (first
  |((with_reducible refine zaa (.tmp 2) w.heap.size (by assumption) ?_ ?_ ?_ ?_);rfl;rfl;rfl)
  |((with_reducible refine zae (.tmp 5) (w.heap.size+1) (by assumption) ?_ ?_ ?_ ?_);rfl;rfl;rfl)
  |(go_at_call 107;(with_reducible refine (zas 0 b n t x _ 145 rfl _).mono ?_);rintro e w2 ⟨rfl,hb2⟩;have k2:=l0.below hb2.is;have m2:=l1.below hb2.is;have b2:=zad b0 hb2 (by have:=l0.lt;omega);have z2:w.heap.size≤w2.heap.size:=by have:=k2.lt;omega
    clear l0 l1 l00 hb2 b0
    skip)
  |(simp only [zi6,Result.andThen_ok])
  |(go_at_call 112;(with_reducible refine (zcs 0 _ _ _ _ _ _ _ _).mono ?_);rintro e w9 ⟨rfl,hb9⟩;have b9:=zad b2 hb9 z2))
 go_ret
 exact ⟨rfl,b9⟩
theorem zye (b:Bool) (n:Int) (t x:ByteArray) (p:Option Addr) (len cap:Nat) (d:Int) (w:World):
 Calls Tryz.prog 86 #[.agg #[.int .i64 1,.bool b,.int .i64 n,.string t,.string x,.slice p len cap],.int .i64 d] w fun e w'=>e=.returned (.bool (zbl false n t x len))∧Low w.heap.size w w':=by
 have l0:Six ((w.alloc (.cells #[.int .i64 1,.bool b,.int .i64 n,.string t,.string x,.slice p len cap] 39)).alloc (.cells #[.int .i64 1,.bool b,.int .i64 n,.string t,.string x,.slice p len cap] 39)) w.heap.size 1 b n t x p len cap:=(zah w rfl).alloc _
 have l1:Six ((w.alloc (.cells #[.int .i64 1,.bool b,.int .i64 n,.string t,.string x,.slice p len cap] 39)).alloc (.cells #[.int .i64 1,.bool b,.int .i64 n,.string t,.string x,.slice p len cap] 39)) (w.heap.size+1) 1 b n t x p len cap:=zah _ (by simp)
 have b0:=low2 w (.cells #[.int .i64 1,.bool b,.int .i64 n,.string t,.string x,.slice p len cap] 39) (.cells #[.int .i64 1,.bool b,.int .i64 n,.string t,.string x,.slice p len cap] 39)
 have l00:=zah (k:=1) (b:=b) (n:=n) (t:=t) (x:=x) (p:=p) (len:=len) (cap:=cap) w rfl
 go_enter Tryz.func86,Tryz.ntmps86
 go_wp2_with (first
  |((with_reducible refine zaa (.tmp 2) w.heap.size (by assumption) ?_ ?_ ?_ ?_);rfl;rfl;rfl)
  |((with_reducible refine zae (.tmp 5) (w.heap.size+1) (by assumption) ?_ ?_ ?_ ?_);rfl;rfl;rfl)
  |(go_at_call 107;(with_reducible refine (zas 1 b n t x _ 146 rfl _).mono ?_);rintro e w2 ⟨rfl,hb2⟩;have k2:=l0.below hb2.is;have m2:=l1.below hb2.is;have b2:=zad b0 hb2 (by have:=l0.lt;omega);have z2:w.heap.size≤w2.heap.size:=by have:=k2.lt;omega
    clear l0 l1 l00 hb2 b0
    have c1:=m2.c1;have f1:=m2.free 1;have m3:=m2.set1 false;have b3:=zbm (o:=1) b2 none (.bool false) (show w.heap.size≤w.heap.size+1 by omega) z2;have z3:w.heap.size≤(w2.setCell ⟨w.heap.size+1,1,none⟩ (.bool false)).heap.size:=by simpa [World.setCell] using z2)
  |(simp only [zoj,zjb,Result.andThen_ok])
  |(go_at_call 112;(with_reducible refine (zcs 1 _ _ _ _ _ _ _ _).mono ?_);rintro e w9 ⟨rfl,hb9⟩;have b9:=zad b3 hb9 z3))
 go_ret
 exact ⟨rfl,b9⟩
theorem zyf (b:Bool) (n:Int) (t x:ByteArray) (p:Option Addr) (len cap:Nat) (d:Int) (w:World):
 Calls Tryz.prog 86 #[.agg #[.int .i64 2,.bool b,.int .i64 n,.string t,.string x,.slice p len cap],.int .i64 d] w fun e w'=>e=.returned (.bool (zbl b 0 t x len))∧Low w.heap.size w w':=by
 have l0:Six ((w.alloc (.cells #[.int .i64 2,.bool b,.int .i64 n,.string t,.string x,.slice p len cap] 39)).alloc (.cells #[.int .i64 2,.bool b,.int .i64 n,.string t,.string x,.slice p len cap] 39)) w.heap.size 2 b n t x p len cap:=(zah w rfl).alloc _
 have l1:Six ((w.alloc (.cells #[.int .i64 2,.bool b,.int .i64 n,.string t,.string x,.slice p len cap] 39)).alloc (.cells #[.int .i64 2,.bool b,.int .i64 n,.string t,.string x,.slice p len cap] 39)) (w.heap.size+1) 2 b n t x p len cap:=zah _ (by simp)
 have b0:=low2 w (.cells #[.int .i64 2,.bool b,.int .i64 n,.string t,.string x,.slice p len cap] 39) (.cells #[.int .i64 2,.bool b,.int .i64 n,.string t,.string x,.slice p len cap] 39)
 have l00:=zah (k:=2) (b:=b) (n:=n) (t:=t) (x:=x) (p:=p) (len:=len) (cap:=cap) w rfl
 go_enter Tryz.func86,Tryz.ntmps86
 go_wp2_with (first
  |((with_reducible refine zaa (.tmp 2) w.heap.size (by assumption) ?_ ?_ ?_ ?_);rfl;rfl;rfl)
  |((with_reducible refine zae (.tmp 5) (w.heap.size+1) (by assumption) ?_ ?_ ?_ ?_);rfl;rfl;rfl)
  |(go_at_call 107;(with_reducible refine (zas 2 b n t x _ 147 rfl _).mono ?_);rintro e w2 ⟨rfl,hb2⟩;have k2:=l0.below hb2.is;have m2:=l1.below hb2.is;have b2:=zad b0 hb2 (by have:=l0.lt;omega);have z2:w.heap.size≤w2.heap.size:=by have:=k2.lt;omega
    clear l0 l1 l00 hb2 b0
    have c1:=m2.c2;have f1:=m2.free 2;have m3:=m2.set2 0;have b3:=zbm (o:=2) b2 none (.int .i64 0) (show w.heap.size≤w.heap.size+1 by omega) z2;have z3:w.heap.size≤(w2.setCell ⟨w.heap.size+1,2,none⟩ (.int .i64 0)).heap.size:=by simpa [World.setCell] using z2)
  |(simp only [zoo,zjh,zji,Result.andThen_ok])
  |(go_at_call 112;(with_reducible refine (zcs 2 _ _ _ _ _ _ _ _).mono ?_);rintro e w9 ⟨rfl,hb9⟩;have b9:=zad b3 hb9 z3))
 go_ret
 exact ⟨rfl,b9⟩
theorem chkAs (s:ByteArray) (r:Bool) (h:chk s.data.toList=r) (w:World) (hG:Gd w) (hs:s.size < 4294967281):Calls Tryz.prog 108 #[.string s] w fun e w'=>e=.returned (.bool r)∧Low w.heap.size w w':=by
 subst h
 exact znf s w hG hs
theorem zsd (s:ByteArray) (r:Bool) (h:zb5 s=r) (w:World) (hs:s.size≤maxLen):Calls Tryz.prog 109 #[.string s] w fun e w'=>e=.returned (.bool r)∧Low w.heap.size w w':=by
 subst h
 exact (zqr s w hs).mono fun _ _ ⟨h,k⟩=>⟨h,k ▸ Low.refl _ _⟩
theorem zz9 (s:ByteArray) (r:Bool) (h:zc4 s=r) (w:World) (hs:s.size≤maxLen):Calls Tryz.prog 110 #[.string s] w fun e w'=>e=.returned (.bool r)∧Low w.heap.size w w':=by
 subst h
 exact (zx6 s w hs).mono fun _ _ ⟨h,k⟩=>⟨h,k ▸ Low.refl _ _⟩
theorem zqt (b:Bool) (n:Int) (t x:ByteArray) (p:Option Addr) (len cap:Nat) (d:Int) (w:World) (hG:Gd w) (hs:t.size < 4294967281) (h:chk t.data.toList=true):
 Calls Tryz.prog 86 #[.agg #[.int .i64 3,.bool b,.int .i64 n,.string t,.string x,.slice p len cap],.int .i64 d] w fun e w'=>e=.returned (.bool (zbl b n ⟨#[]⟩ x len))∧Low w.heap.size w w':=by
 have l0:Six ((w.alloc (.cells #[.int .i64 3,.bool b,.int .i64 n,.string t,.string x,.slice p len cap] 39)).alloc (.cells #[.int .i64 3,.bool b,.int .i64 n,.string t,.string x,.slice p len cap] 39)) w.heap.size 3 b n t x p len cap:=(zah w rfl).alloc _
 have l1:Six ((w.alloc (.cells #[.int .i64 3,.bool b,.int .i64 n,.string t,.string x,.slice p len cap] 39)).alloc (.cells #[.int .i64 3,.bool b,.int .i64 n,.string t,.string x,.slice p len cap] 39)) (w.heap.size+1) 3 b n t x p len cap:=zah _ (by simp)
 have b0:=low2 w (.cells #[.int .i64 3,.bool b,.int .i64 n,.string t,.string x,.slice p len cap] 39) (.cells #[.int .i64 3,.bool b,.int .i64 n,.string t,.string x,.slice p len cap] 39)
 have l00:=zah (k:=3) (b:=b) (n:=n) (t:=t) (x:=x) (p:=p) (len:=len) (cap:=cap) w rfl
 go_enter Tryz.func86,Tryz.ntmps86
 go_wp2_with (first
  |((with_reducible refine zaa (.tmp 2) w.heap.size (by assumption) ?_ ?_ ?_ ?_);rfl;rfl;rfl)
  |((with_reducible refine zae (.tmp 5) (w.heap.size+1) (by assumption) ?_ ?_ ?_ ?_);rfl;rfl;rfl)
  |(go_at_call 107;(with_reducible refine (zas 3 b n t x _ 150 rfl _).mono ?_);rintro e w2 ⟨rfl,hb2⟩;have k2:=l0.below hb2.is;have m2:=l1.below hb2.is;have b2:=zad b0 hb2 (by have:=l0.lt;omega);have z2:w.heap.size≤w2.heap.size:=by have:=k2.lt;omega
    clear l0 l1 l00 hb2 b0
    have c3:=k2.c3)
  |(simp only [zjx,zgp,zgq,zgr,zgs,zgt,Result.andThen_ok])
  |(go_at_call 108;(with_reducible refine (chkAs t _ h _ (hG.below b2.is) hs).mono ?_);rintro e w3 ⟨rfl,hb3⟩;have b3:=zad b2 hb3 z2;have m3:=m2.below hb3.is;have e3:=m3.c3;have f3:=m3.free 3;have m4:=m3.set3 ⟨#[]⟩;have z3:w.heap.size≤w3.heap.size:=(by have:=m3.lt;omega);have b4:=zbm (o:=3) b3 none (.string ⟨#[]⟩) (show w.heap.size≤w.heap.size+1 by omega) z3;have z4:w.heap.size≤(w3.setCell ⟨w.heap.size+1,3,none⟩ (.string ⟨#[]⟩)).heap.size:=by simpa [World.setCell] using z3)
  |(go_at_call 112;(with_reducible refine (zcs 3 _ _ _ _ _ _ _ _).mono ?_);rintro e w9 ⟨rfl,hb9⟩;have b9:=zad b4 hb9 z4))
 go_ret
 exact ⟨rfl,b9⟩
theorem ztt (b:Bool) (n:Int) (t x:ByteArray) (p:Option Addr) (len cap:Nat) (d:Int) (w:World) (hG:Gd w) (hs:t.size < 4294967281) (h:chk t.data.toList=false):
 Calls Tryz.prog 86 #[.agg #[.int .i64 3,.bool b,.int .i64 n,.string t,.string x,.slice p len cap],.int .i64 d] w fun e w'=>e=.returned (.bool (false))∧Low w.heap.size w w':=by
 have l0:Six ((w.alloc (.cells #[.int .i64 3,.bool b,.int .i64 n,.string t,.string x,.slice p len cap] 39)).alloc (.cells #[.int .i64 3,.bool b,.int .i64 n,.string t,.string x,.slice p len cap] 39)) w.heap.size 3 b n t x p len cap:=(zah w rfl).alloc _
 have l1:Six ((w.alloc (.cells #[.int .i64 3,.bool b,.int .i64 n,.string t,.string x,.slice p len cap] 39)).alloc (.cells #[.int .i64 3,.bool b,.int .i64 n,.string t,.string x,.slice p len cap] 39)) (w.heap.size+1) 3 b n t x p len cap:=zah _ (by simp)
 have b0:=low2 w (.cells #[.int .i64 3,.bool b,.int .i64 n,.string t,.string x,.slice p len cap] 39) (.cells #[.int .i64 3,.bool b,.int .i64 n,.string t,.string x,.slice p len cap] 39)
 have l00:=zah (k:=3) (b:=b) (n:=n) (t:=t) (x:=x) (p:=p) (len:=len) (cap:=cap) w rfl
 go_enter Tryz.func86,Tryz.ntmps86
 go_wp2_with (first
  |((with_reducible refine zaa (.tmp 2) w.heap.size (by assumption) ?_ ?_ ?_ ?_);rfl;rfl;rfl)
  |((with_reducible refine zae (.tmp 5) (w.heap.size+1) (by assumption) ?_ ?_ ?_ ?_);rfl;rfl;rfl)
  |(go_at_call 107;(with_reducible refine (zas 3 b n t x _ 150 rfl _).mono ?_);rintro e w2 ⟨rfl,hb2⟩;have k2:=l0.below hb2.is;have m2:=l1.below hb2.is;have b2:=zad b0 hb2 (by have:=l0.lt;omega);have z2:w.heap.size≤w2.heap.size:=by have:=k2.lt;omega
    clear l0 l1 l00 hb2 b0
    have c3:=k2.c3)
  |(simp only [zjx,zgp,zgq,zgr,zgs,zgt,Result.andThen_ok])
  |(go_at_call 108;(with_reducible refine (chkAs t _ h _ (hG.below b2.is) hs).mono ?_);rintro e w3 ⟨rfl,hb3⟩;have b3:=zad b2 hb3 z2;have m3:=m2.below hb3.is;have e3:=m3.c3;have f3:=m3.free 3;have m4:=m3.set3 ⟨#[]⟩;have z3:w.heap.size≤w3.heap.size:=(by have:=m3.lt;omega);have b9:=zbm (o:=3) b3 none (.string ⟨#[]⟩) (show w.heap.size≤w.heap.size+1 by omega) z3))
 go_ret
 exact ⟨rfl,b9⟩
theorem zu7 (b:Bool) (n:Int) (t x:ByteArray) (p:Option Addr) (len cap:Nat) (d:Int) (w:World) (hs:t.size≤maxLen) (h:zb5 t=true):
 Calls Tryz.prog 86 #[.agg #[.int .i64 8,.bool b,.int .i64 n,.string t,.string x,.slice p len cap],.int .i64 d] w fun e w'=>e=.returned (.bool (zbl b n ⟨#[]⟩ x len))∧Low w.heap.size w w':=by
 have l0:Six ((w.alloc (.cells #[.int .i64 8,.bool b,.int .i64 n,.string t,.string x,.slice p len cap] 39)).alloc (.cells #[.int .i64 8,.bool b,.int .i64 n,.string t,.string x,.slice p len cap] 39)) w.heap.size 8 b n t x p len cap:=(zah w rfl).alloc _
 have l1:Six ((w.alloc (.cells #[.int .i64 8,.bool b,.int .i64 n,.string t,.string x,.slice p len cap] 39)).alloc (.cells #[.int .i64 8,.bool b,.int .i64 n,.string t,.string x,.slice p len cap] 39)) (w.heap.size+1) 8 b n t x p len cap:=zah _ (by simp)
 have b0:=low2 w (.cells #[.int .i64 8,.bool b,.int .i64 n,.string t,.string x,.slice p len cap] 39) (.cells #[.int .i64 8,.bool b,.int .i64 n,.string t,.string x,.slice p len cap] 39)
 have l00:=zah (k:=8) (b:=b) (n:=n) (t:=t) (x:=x) (p:=p) (len:=len) (cap:=cap) w rfl
 go_enter Tryz.func86,Tryz.ntmps86
 go_wp2_with (first
  |((with_reducible refine zaa (.tmp 2) w.heap.size (by assumption) ?_ ?_ ?_ ?_);rfl;rfl;rfl)
  |((with_reducible refine zae (.tmp 5) (w.heap.size+1) (by assumption) ?_ ?_ ?_ ?_);rfl;rfl;rfl)
  |(go_at_call 107;(with_reducible refine (zas 8 b n t x _ 152 rfl _).mono ?_);rintro e w2 ⟨rfl,hb2⟩;have k2:=l0.below hb2.is;have m2:=l1.below hb2.is;have b2:=zad b0 hb2 (by have:=l0.lt;omega);have z2:w.heap.size≤w2.heap.size:=by have:=k2.lt;omega
    clear l0 l1 l00 hb2 b0
    have c3:=k2.c3)
  |(simp only [zj7,zg1,zg2,zg3,zg4,zg5,zj8,zj9,Result.andThen_ok])
  |(go_at_call 109;(with_reducible refine (zsd t _ h _ hs).mono ?_);rintro e w3 ⟨rfl,hb3⟩;have b3:=zad b2 hb3 z2;have m3:=m2.below hb3.is;have e3:=m3.c3;have f3:=m3.free 3;have m4:=m3.set3 ⟨#[]⟩;have z3:w.heap.size≤w3.heap.size:=(by have:=m3.lt;omega);have b4:=zbm (o:=3) b3 none (.string ⟨#[]⟩) (show w.heap.size≤w.heap.size+1 by omega) z3;have z4:w.heap.size≤(w3.setCell ⟨w.heap.size+1,3,none⟩ (.string ⟨#[]⟩)).heap.size:=by simpa [World.setCell] using z3)
  |(go_at_call 112;(with_reducible refine (zcs 8 _ _ _ _ _ _ _ _).mono ?_);rintro e w9 ⟨rfl,hb9⟩;have b9:=zad b4 hb9 z4))
 go_ret
 exact ⟨rfl,b9⟩
theorem zyg (b:Bool) (n:Int) (t x:ByteArray) (p:Option Addr) (len cap:Nat) (d:Int) (w:World) (hs:t.size≤maxLen) (h:zb5 t=false):
 Calls Tryz.prog 86 #[.agg #[.int .i64 8,.bool b,.int .i64 n,.string t,.string x,.slice p len cap],.int .i64 d] w fun e w'=>e=.returned (.bool (false))∧Low w.heap.size w w':=by
 have l0:Six ((w.alloc (.cells #[.int .i64 8,.bool b,.int .i64 n,.string t,.string x,.slice p len cap] 39)).alloc (.cells #[.int .i64 8,.bool b,.int .i64 n,.string t,.string x,.slice p len cap] 39)) w.heap.size 8 b n t x p len cap:=(zah w rfl).alloc _
 have l1:Six ((w.alloc (.cells #[.int .i64 8,.bool b,.int .i64 n,.string t,.string x,.slice p len cap] 39)).alloc (.cells #[.int .i64 8,.bool b,.int .i64 n,.string t,.string x,.slice p len cap] 39)) (w.heap.size+1) 8 b n t x p len cap:=zah _ (by simp)
 have b0:=low2 w (.cells #[.int .i64 8,.bool b,.int .i64 n,.string t,.string x,.slice p len cap] 39) (.cells #[.int .i64 8,.bool b,.int .i64 n,.string t,.string x,.slice p len cap] 39)
 have l00:=zah (k:=8) (b:=b) (n:=n) (t:=t) (x:=x) (p:=p) (len:=len) (cap:=cap) w rfl
 go_enter Tryz.func86,Tryz.ntmps86
 go_wp2_with (first
  |((with_reducible refine zaa (.tmp 2) w.heap.size (by assumption) ?_ ?_ ?_ ?_);rfl;rfl;rfl)
  |((with_reducible refine zae (.tmp 5) (w.heap.size+1) (by assumption) ?_ ?_ ?_ ?_);rfl;rfl;rfl)
  |(go_at_call 107;(with_reducible refine (zas 8 b n t x _ 152 rfl _).mono ?_);rintro e w2 ⟨rfl,hb2⟩;have k2:=l0.below hb2.is;have m2:=l1.below hb2.is;have b2:=zad b0 hb2 (by have:=l0.lt;omega);have z2:w.heap.size≤w2.heap.size:=by have:=k2.lt;omega
    clear l0 l1 l00 hb2 b0
    have c3:=k2.c3)
  |(simp only [zj7,zg1,zg2,zg3,zg4,zg5,zj8,zj9,Result.andThen_ok])
  |(go_at_call 109;(with_reducible refine (zsd t _ h _ hs).mono ?_);rintro e w3 ⟨rfl,hb3⟩;have b3:=zad b2 hb3 z2;have m3:=m2.below hb3.is;have e3:=m3.c3;have f3:=m3.free 3;have m4:=m3.set3 ⟨#[]⟩;have z3:w.heap.size≤w3.heap.size:=(by have:=m3.lt;omega);have b9:=zbm (o:=3) b3 none (.string ⟨#[]⟩) (show w.heap.size≤w.heap.size+1 by omega) z3))
 go_ret
 exact ⟨rfl,b9⟩
theorem zqu (b:Bool) (n:Int) (t x:ByteArray) (p:Option Addr) (len cap:Nat) (d:Int) (w:World) (hs:t.size≤maxLen) (h:zc4 t=true):
 Calls Tryz.prog 86 #[.agg #[.int .i64 9,.bool b,.int .i64 n,.string t,.string x,.slice p len cap],.int .i64 d] w fun e w'=>e=.returned (.bool (zbl b n ⟨#[]⟩ x len))∧Low w.heap.size w w':=by
 have l0:Six ((w.alloc (.cells #[.int .i64 9,.bool b,.int .i64 n,.string t,.string x,.slice p len cap] 39)).alloc (.cells #[.int .i64 9,.bool b,.int .i64 n,.string t,.string x,.slice p len cap] 39)) w.heap.size 9 b n t x p len cap:=(zah w rfl).alloc _
 have l1:Six ((w.alloc (.cells #[.int .i64 9,.bool b,.int .i64 n,.string t,.string x,.slice p len cap] 39)).alloc (.cells #[.int .i64 9,.bool b,.int .i64 n,.string t,.string x,.slice p len cap] 39)) (w.heap.size+1) 9 b n t x p len cap:=zah _ (by simp)
 have b0:=low2 w (.cells #[.int .i64 9,.bool b,.int .i64 n,.string t,.string x,.slice p len cap] 39) (.cells #[.int .i64 9,.bool b,.int .i64 n,.string t,.string x,.slice p len cap] 39)
 have l00:=zah (k:=9) (b:=b) (n:=n) (t:=t) (x:=x) (p:=p) (len:=len) (cap:=cap) w rfl
 go_enter Tryz.func86,Tryz.ntmps86
 go_wp2_with (first
  |((with_reducible refine zaa (.tmp 2) w.heap.size (by assumption) ?_ ?_ ?_ ?_);rfl;rfl;rfl)
  |((with_reducible refine zae (.tmp 5) (w.heap.size+1) (by assumption) ?_ ?_ ?_ ?_);rfl;rfl;rfl)
  |(go_at_call 107;(with_reducible refine (zas 9 b n t x _ 153 rfl _).mono ?_);rintro e w2 ⟨rfl,hb2⟩;have k2:=l0.below hb2.is;have m2:=l1.below hb2.is;have b2:=zad b0 hb2 (by have:=l0.lt;omega);have z2:w.heap.size≤w2.heap.size:=by have:=k2.lt;omega
    clear l0 l1 l00 hb2 b0
    have c3:=k2.c3)
  |(simp only [zkc,zg7,zg8,zg9,zha,zhb,zkd,zke,zkf,Result.andThen_ok])
  |(go_at_call 110;(with_reducible refine (zz9 t _ h _ hs).mono ?_);rintro e w3 ⟨rfl,hb3⟩;have b3:=zad b2 hb3 z2;have m3:=m2.below hb3.is;have e3:=m3.c3;have f3:=m3.free 3;have m4:=m3.set3 ⟨#[]⟩;have z3:w.heap.size≤w3.heap.size:=(by have:=m3.lt;omega);have b4:=zbm (o:=3) b3 none (.string ⟨#[]⟩) (show w.heap.size≤w.heap.size+1 by omega) z3;have z4:w.heap.size≤(w3.setCell ⟨w.heap.size+1,3,none⟩ (.string ⟨#[]⟩)).heap.size:=by simpa [World.setCell] using z3)
  |(go_at_call 112;(with_reducible refine (zcs 9 _ _ _ _ _ _ _ _).mono ?_);rintro e w9 ⟨rfl,hb9⟩;have b9:=zad b4 hb9 z4))
 go_ret
 exact ⟨rfl,b9⟩
theorem ztu (b:Bool) (n:Int) (t x:ByteArray) (p:Option Addr) (len cap:Nat) (d:Int) (w:World) (hs:t.size≤maxLen) (h:zc4 t=false):
 Calls Tryz.prog 86 #[.agg #[.int .i64 9,.bool b,.int .i64 n,.string t,.string x,.slice p len cap],.int .i64 d] w fun e w'=>e=.returned (.bool (false))∧Low w.heap.size w w':=by
 have l0:Six ((w.alloc (.cells #[.int .i64 9,.bool b,.int .i64 n,.string t,.string x,.slice p len cap] 39)).alloc (.cells #[.int .i64 9,.bool b,.int .i64 n,.string t,.string x,.slice p len cap] 39)) w.heap.size 9 b n t x p len cap:=(zah w rfl).alloc _
 have l1:Six ((w.alloc (.cells #[.int .i64 9,.bool b,.int .i64 n,.string t,.string x,.slice p len cap] 39)).alloc (.cells #[.int .i64 9,.bool b,.int .i64 n,.string t,.string x,.slice p len cap] 39)) (w.heap.size+1) 9 b n t x p len cap:=zah _ (by simp)
 have b0:=low2 w (.cells #[.int .i64 9,.bool b,.int .i64 n,.string t,.string x,.slice p len cap] 39) (.cells #[.int .i64 9,.bool b,.int .i64 n,.string t,.string x,.slice p len cap] 39)
 have l00:=zah (k:=9) (b:=b) (n:=n) (t:=t) (x:=x) (p:=p) (len:=len) (cap:=cap) w rfl
 go_enter Tryz.func86,Tryz.ntmps86
 go_wp2_with (first
  |((with_reducible refine zaa (.tmp 2) w.heap.size (by assumption) ?_ ?_ ?_ ?_);rfl;rfl;rfl)
  |((with_reducible refine zae (.tmp 5) (w.heap.size+1) (by assumption) ?_ ?_ ?_ ?_);rfl;rfl;rfl)
  |(go_at_call 107;(with_reducible refine (zas 9 b n t x _ 153 rfl _).mono ?_);rintro e w2 ⟨rfl,hb2⟩;have k2:=l0.below hb2.is;have m2:=l1.below hb2.is;have b2:=zad b0 hb2 (by have:=l0.lt;omega);have z2:w.heap.size≤w2.heap.size:=by have:=k2.lt;omega
    clear l0 l1 l00 hb2 b0
    have c3:=k2.c3)
  |(simp only [zkc,zg7,zg8,zg9,zha,zhb,zkd,zke,zkf,Result.andThen_ok])
  |(go_at_call 110;(with_reducible refine (zz9 t _ h _ hs).mono ?_);rintro e w3 ⟨rfl,hb3⟩;have b3:=zad b2 hb3 z2;have m3:=m2.below hb3.is;have e3:=m3.c3;have f3:=m3.free 3;have m4:=m3.set3 ⟨#[]⟩;have z3:w.heap.size≤w3.heap.size:=(by have:=m3.lt;omega);have b9:=zbm (o:=3) b3 none (.string ⟨#[]⟩) (show w.heap.size≤w.heap.size+1 by omega) z3))
 go_ret
 exact ⟨rfl,b9⟩
theorem ztv (b:Bool) (n:Int) (t x:ByteArray) (p:Option Addr) (len cap:Nat) (d:Int) (w:World) (d0:0≤d) (d1:d≤1000) (hc:∀ W,Low w.heap.size w W→Calls Tryz.prog 111 #[.slice p len cap,.int .i64 (d+1)] W fun e w'=>e=.returned (.bool true)∧Low W.heap.size W w'):
 Calls Tryz.prog 86 #[.agg #[.int .i64 5,.bool b,.int .i64 n,.string t,.string x,.slice p len cap],.int .i64 d] w fun e w'=>e=.returned (.bool (zbl b n t x 0))∧Low w.heap.size w w':=by
 have l0:Six ((w.alloc (.cells #[.int .i64 5,.bool b,.int .i64 n,.string t,.string x,.slice p len cap] 39)).alloc (.cells #[.int .i64 5,.bool b,.int .i64 n,.string t,.string x,.slice p len cap] 39)) w.heap.size 5 b n t x p len cap:=(zah w rfl).alloc _
 have l1:Six ((w.alloc (.cells #[.int .i64 5,.bool b,.int .i64 n,.string t,.string x,.slice p len cap] 39)).alloc (.cells #[.int .i64 5,.bool b,.int .i64 n,.string t,.string x,.slice p len cap] 39)) (w.heap.size+1) 5 b n t x p len cap:=zah _ (by simp)
 have b0:=low2 w (.cells #[.int .i64 5,.bool b,.int .i64 n,.string t,.string x,.slice p len cap] 39) (.cells #[.int .i64 5,.bool b,.int .i64 n,.string t,.string x,.slice p len cap] 39)
 have l00:=zah (k:=5) (b:=b) (n:=n) (t:=t) (x:=x) (p:=p) (len:=len) (cap:=cap) w rfl
 go_enter Tryz.func86,Tryz.ntmps86
 go_wp2_with (first
  |((with_reducible refine zaa (.tmp 2) w.heap.size (by assumption) ?_ ?_ ?_ ?_);rfl;rfl;rfl)
  |((with_reducible refine zae (.tmp 5) (w.heap.size+1) (by assumption) ?_ ?_ ?_ ?_);rfl;rfl;rfl)
  |(go_at_call 107;(with_reducible refine (zas 5 b n t x _ 155 rfl _).mono ?_);rintro e w2 ⟨rfl,hb2⟩;have k2:=l0.below hb2.is;have m2:=l1.below hb2.is;have b2:=zad b0 hb2 (by have:=l0.lt;omega);have z2:w.heap.size≤w2.heap.size:=by have:=k2.lt;omega
    clear l0 l1 l00 hb2 b0
    have c5:=k2.c5;have e1:IntKind.i64.wrap (d+1)=d+1:=IntWalk.i64_in _ (by omega))
  |(simp only [zkh,zhi,zhj,zhk,zhl,zhm,zki,zkj,zkk,zkl,zhn,Result.andThen_ok])
  |(go_at_call 111;(with_reducible refine (hc _ b2).mono ?_);rintro e w3 ⟨rfl,hb3⟩;have b3:=zad b2 hb3 z2;have m3:=m2.below hb3.is;have e3:=m3.c5;have f3:=m3.free 5;have m4:=m3.set5 none 0 0;have z3:w.heap.size≤w3.heap.size:=(by have:=m3.lt;omega);have b4:=zbm (o:=5) b3 none (.slice none 0 0) (show w.heap.size≤w.heap.size+1 by omega) z3;have z4:w.heap.size≤(w3.setCell ⟨w.heap.size+1,5,none⟩ (.slice none 0 0)).heap.size:=by simpa [World.setCell] using z3)
  |(go_at_call 112;(with_reducible refine (zcs 5 _ _ _ _ _ _ _ _).mono ?_);rintro e w9 ⟨rfl,hb9⟩;have b9:=zad b4 hb9 z4))
 go_ret
 exact ⟨rfl,b9⟩
theorem zu8 (b:Bool) (n:Int) (t x:ByteArray) (p:Option Addr) (len cap:Nat) (d:Int) (w:World) (d0:0≤d) (d1:d≤1000) (hc:∀ W,Low w.heap.size w W→Calls Tryz.prog 111 #[.slice p len cap,.int .i64 (d+1)] W fun e w'=>e=.returned (.bool false)∧Low W.heap.size W w'):
 Calls Tryz.prog 86 #[.agg #[.int .i64 5,.bool b,.int .i64 n,.string t,.string x,.slice p len cap],.int .i64 d] w fun e w'=>e=.returned (.bool (false))∧Low w.heap.size w w':=by
 have l0:Six ((w.alloc (.cells #[.int .i64 5,.bool b,.int .i64 n,.string t,.string x,.slice p len cap] 39)).alloc (.cells #[.int .i64 5,.bool b,.int .i64 n,.string t,.string x,.slice p len cap] 39)) w.heap.size 5 b n t x p len cap:=(zah w rfl).alloc _
 have l1:Six ((w.alloc (.cells #[.int .i64 5,.bool b,.int .i64 n,.string t,.string x,.slice p len cap] 39)).alloc (.cells #[.int .i64 5,.bool b,.int .i64 n,.string t,.string x,.slice p len cap] 39)) (w.heap.size+1) 5 b n t x p len cap:=zah _ (by simp)
 have b0:=low2 w (.cells #[.int .i64 5,.bool b,.int .i64 n,.string t,.string x,.slice p len cap] 39) (.cells #[.int .i64 5,.bool b,.int .i64 n,.string t,.string x,.slice p len cap] 39)
 have l00:=zah (k:=5) (b:=b) (n:=n) (t:=t) (x:=x) (p:=p) (len:=len) (cap:=cap) w rfl
 go_enter Tryz.func86,Tryz.ntmps86
 go_wp2_with (first
  |((with_reducible refine zaa (.tmp 2) w.heap.size (by assumption) ?_ ?_ ?_ ?_);rfl;rfl;rfl)
  |((with_reducible refine zae (.tmp 5) (w.heap.size+1) (by assumption) ?_ ?_ ?_ ?_);rfl;rfl;rfl)
  |(go_at_call 107;(with_reducible refine (zas 5 b n t x _ 155 rfl _).mono ?_);rintro e w2 ⟨rfl,hb2⟩;have k2:=l0.below hb2.is;have m2:=l1.below hb2.is;have b2:=zad b0 hb2 (by have:=l0.lt;omega);have z2:w.heap.size≤w2.heap.size:=by have:=k2.lt;omega
    clear l0 l1 l00 hb2 b0
    have c5:=k2.c5;have e1:IntKind.i64.wrap (d+1)=d+1:=IntWalk.i64_in _ (by omega))
  |(simp only [zkh,zhi,zhj,zhk,zhl,zhm,zki,zkj,zkk,zkl,zhn,Result.andThen_ok])
  |(go_at_call 111;(with_reducible refine (hc _ b2).mono ?_);rintro e w3 ⟨rfl,hb3⟩;have b3:=zad b2 hb3 z2;have m3:=m2.below hb3.is;have e3:=m3.c5;have f3:=m3.free 5;have m4:=m3.set5 none 0 0;have z3:w.heap.size≤w3.heap.size:=(by have:=m3.lt;omega);have b4:=zbm (o:=5) b3 none (.slice none 0 0) (show w.heap.size≤w.heap.size+1 by omega) z3;have z4:w.heap.size≤(w3.setCell ⟨w.heap.size+1,5,none⟩ (.slice none 0 0)).heap.size:=by simpa [World.setCell] using z3))
 go_ret
 exact ⟨rfl,b4⟩
theorem zqv (k:Int) (b:Bool) (n:Int) (t x:ByteArray) (p:Option Addr) (len cap:Nat) (d:Int) (w:World) (hk:zlw k=188):
 Calls Tryz.prog 86 #[.agg #[.int .i64 k,.bool b,.int .i64 n,.string t,.string x,.slice p len cap],.int .i64 d] w fun e w'=>e=.returned (.bool (false))∧Low w.heap.size w w':=by
 have l0:Six ((w.alloc (.cells #[.int .i64 k,.bool b,.int .i64 n,.string t,.string x,.slice p len cap] 39)).alloc (.cells #[.int .i64 k,.bool b,.int .i64 n,.string t,.string x,.slice p len cap] 39)) w.heap.size k b n t x p len cap:=(zah w rfl).alloc _
 have l1:Six ((w.alloc (.cells #[.int .i64 k,.bool b,.int .i64 n,.string t,.string x,.slice p len cap] 39)).alloc (.cells #[.int .i64 k,.bool b,.int .i64 n,.string t,.string x,.slice p len cap] 39)) (w.heap.size+1) k b n t x p len cap:=zah _ (by simp)
 have b0:=low2 w (.cells #[.int .i64 k,.bool b,.int .i64 n,.string t,.string x,.slice p len cap] 39) (.cells #[.int .i64 k,.bool b,.int .i64 n,.string t,.string x,.slice p len cap] 39)
 have l00:=zah (k:=k) (b:=b) (n:=n) (t:=t) (x:=x) (p:=p) (len:=len) (cap:=cap) w rfl
 go_enter Tryz.func86,Tryz.ntmps86
 go_wp2_with (first
  |((with_reducible refine zaa (.tmp 2) w.heap.size (by assumption) ?_ ?_ ?_ ?_);rfl;rfl;rfl)
  |((with_reducible refine zae (.tmp 5) (w.heap.size+1) (by assumption) ?_ ?_ ?_ ?_);rfl;rfl;rfl)
  |(go_at_call 107;(with_reducible refine (zas k b n t x _ 188 hk.symm _).mono ?_);rintro e w2 ⟨rfl,hb2⟩;have k2:=l0.below hb2.is;have m2:=l1.below hb2.is;have b2:=zad b0 hb2 (by have:=l0.lt;omega);have z2:w.heap.size≤w2.heap.size:=by have:=k2.lt;omega
    clear l0 l1 l00 hb2 b0
    skip)
  |(simp only [zot,zkm,zkn,zko,zkp,zkq,zou,zov,zow,zox,zkr,Result.andThen_ok]))
 go_ret
 exact ⟨rfl,b2⟩
theorem ztw (b:Bool) (n:Int) (t x:ByteArray) (p:Option Addr) (len cap:Nat) (d:Int) (w:World) (hn:0≤n):
 Calls Tryz.prog 86 #[.agg #[.int .i64 6,.bool b,.int .i64 n,.string t,.string x,.slice p len cap],.int .i64 d] w fun e w'=>e=.returned (.bool (zbl b 0 t x len))∧Low w.heap.size w w':=by
 have l0:Six ((w.alloc (.cells #[.int .i64 6,.bool b,.int .i64 n,.string t,.string x,.slice p len cap] 39)).alloc (.cells #[.int .i64 6,.bool b,.int .i64 n,.string t,.string x,.slice p len cap] 39)) w.heap.size 6 b n t x p len cap:=(zah w rfl).alloc _
 have l1:Six ((w.alloc (.cells #[.int .i64 6,.bool b,.int .i64 n,.string t,.string x,.slice p len cap] 39)).alloc (.cells #[.int .i64 6,.bool b,.int .i64 n,.string t,.string x,.slice p len cap] 39)) (w.heap.size+1) 6 b n t x p len cap:=zah _ (by simp)
 have b0:=low2 w (.cells #[.int .i64 6,.bool b,.int .i64 n,.string t,.string x,.slice p len cap] 39) (.cells #[.int .i64 6,.bool b,.int .i64 n,.string t,.string x,.slice p len cap] 39)
 have l00:=zah (k:=6) (b:=b) (n:=n) (t:=t) (x:=x) (p:=p) (len:=len) (cap:=cap) w rfl
 go_enter Tryz.func86,Tryz.ntmps86
 go_wp2_with (first
  |((with_reducible refine zaa (.tmp 2) w.heap.size (by assumption) ?_ ?_ ?_ ?_);rfl;rfl;rfl)
  |((with_reducible refine zae (.tmp 5) (w.heap.size+1) (by assumption) ?_ ?_ ?_ ?_);rfl;rfl;rfl)
  |(go_at_call 107;(with_reducible refine (zas 6 b n t x _ 148 rfl _).mono ?_);rintro e w2 ⟨rfl,hb2⟩;have k2:=l0.below hb2.is;have m2:=l1.below hb2.is;have b2:=zad b0 hb2 (by have:=l0.lt;omega);have z2:w.heap.size≤w2.heap.size:=by have:=k2.lt;omega
    clear l0 l1 l00 hb2 b0
    have c1:=m2.c2;have f1:=m2.free 2;have q1:=k2.c2;have m3:Six (w2.setCell ⟨w.heap.size+1,2,none⟩ (.int .i64 0)).drew (w.heap.size+1) _ _ _ _ _ _ _ _:=m2.set2 0;have b3:=(zbm (o:=2) b2 none (.int .i64 0) (show w.heap.size≤w.heap.size+1 by omega) z2).drew;have z3:w.heap.size≤(w2.setCell ⟨w.heap.size+1,2,none⟩ (.int .i64 0)).drew.heap.size:=by simpa [World.setCell] using z2)
  |(simp only [zjn,zgd,zge,zgf,zgg,Result.andThen_ok]))
 go_region_with fail
 all_goals
  go_wp2_with (first
   |((with_reducible refine zae (.tmp 5) (w.heap.size+1) (by assumption) ?_ ?_ ?_ ?_);rfl;rfl;rfl)
   |(go_at_call 112;(with_reducible refine (zcs 6 _ _ _ _ _ _ _ _).mono ?_);rintro e w9 ⟨rfl,hb9⟩;have b9:=zad b3 hb9 z3))
  go_ret
  exact ⟨rfl,b9⟩
theorem zu9 (b:Bool) (n:Int) (t x:ByteArray) (p:Option Addr) (len cap:Nat) (d:Int) (w:World) (hn:¬ 0≤n):
 Calls Tryz.prog 86 #[.agg #[.int .i64 6,.bool b,.int .i64 n,.string t,.string x,.slice p len cap],.int .i64 d] w fun e w'=>e=.returned (.bool (false))∧Low w.heap.size w w':=by
 have l0:Six ((w.alloc (.cells #[.int .i64 6,.bool b,.int .i64 n,.string t,.string x,.slice p len cap] 39)).alloc (.cells #[.int .i64 6,.bool b,.int .i64 n,.string t,.string x,.slice p len cap] 39)) w.heap.size 6 b n t x p len cap:=(zah w rfl).alloc _
 have l1:Six ((w.alloc (.cells #[.int .i64 6,.bool b,.int .i64 n,.string t,.string x,.slice p len cap] 39)).alloc (.cells #[.int .i64 6,.bool b,.int .i64 n,.string t,.string x,.slice p len cap] 39)) (w.heap.size+1) 6 b n t x p len cap:=zah _ (by simp)
 have b0:=low2 w (.cells #[.int .i64 6,.bool b,.int .i64 n,.string t,.string x,.slice p len cap] 39) (.cells #[.int .i64 6,.bool b,.int .i64 n,.string t,.string x,.slice p len cap] 39)
 have l00:=zah (k:=6) (b:=b) (n:=n) (t:=t) (x:=x) (p:=p) (len:=len) (cap:=cap) w rfl
 go_enter Tryz.func86,Tryz.ntmps86
 go_wp2_with (first
  |((with_reducible refine zaa (.tmp 2) w.heap.size (by assumption) ?_ ?_ ?_ ?_);rfl;rfl;rfl)
  |((with_reducible refine zae (.tmp 5) (w.heap.size+1) (by assumption) ?_ ?_ ?_ ?_);rfl;rfl;rfl)
  |(go_at_call 107;(with_reducible refine (zas 6 b n t x _ 148 rfl _).mono ?_);rintro e w2 ⟨rfl,hb2⟩;have k2:=l0.below hb2.is;have m2:=l1.below hb2.is;have b2:=zad b0 hb2 (by have:=l0.lt;omega);have z2:w.heap.size≤w2.heap.size:=by have:=k2.lt;omega
    clear l0 l1 l00 hb2 b0
    have c1:=m2.c2;have f1:=m2.free 2;have q1:=k2.c2;have m3:Six (w2.setCell ⟨w.heap.size+1,2,none⟩ (.int .i64 0)).drew (w.heap.size+1) _ _ _ _ _ _ _ _:=m2.set2 0;have b3:=(zbm (o:=2) b2 none (.int .i64 0) (show w.heap.size≤w.heap.size+1 by omega) z2).drew;have z3:w.heap.size≤(w2.setCell ⟨w.heap.size+1,2,none⟩ (.int .i64 0)).drew.heap.size:=by simpa [World.setCell] using z2)
  |(simp only [zjn,zgd,zge,zgf,zgg,Result.andThen_ok]))
 go_region_with fail
 all_goals
  go_wp2_with fail
  go_ret
  exact ⟨rfl,b3⟩
theorem ztx (b:Bool) (n:Int) (t x:ByteArray) (p:Option Addr) (len cap:Nat) (d:Int) (w:World) (hn:0≤n):
 Calls Tryz.prog 86 #[.agg #[.int .i64 7,.bool b,.int .i64 n,.string t,.string x,.slice p len cap],.int .i64 d] w fun e w'=>e=.returned (.bool (zbl b 0 t x len))∧Low w.heap.size w w':=by
 have l0:Six ((w.alloc (.cells #[.int .i64 7,.bool b,.int .i64 n,.string t,.string x,.slice p len cap] 39)).alloc (.cells #[.int .i64 7,.bool b,.int .i64 n,.string t,.string x,.slice p len cap] 39)) w.heap.size 7 b n t x p len cap:=(zah w rfl).alloc _
 have l1:Six ((w.alloc (.cells #[.int .i64 7,.bool b,.int .i64 n,.string t,.string x,.slice p len cap] 39)).alloc (.cells #[.int .i64 7,.bool b,.int .i64 n,.string t,.string x,.slice p len cap] 39)) (w.heap.size+1) 7 b n t x p len cap:=zah _ (by simp)
 have b0:=low2 w (.cells #[.int .i64 7,.bool b,.int .i64 n,.string t,.string x,.slice p len cap] 39) (.cells #[.int .i64 7,.bool b,.int .i64 n,.string t,.string x,.slice p len cap] 39)
 have l00:=zah (k:=7) (b:=b) (n:=n) (t:=t) (x:=x) (p:=p) (len:=len) (cap:=cap) w rfl
 go_enter Tryz.func86,Tryz.ntmps86
 go_wp2_with (first
  |((with_reducible refine zaa (.tmp 2) w.heap.size (by assumption) ?_ ?_ ?_ ?_);rfl;rfl;rfl)
  |((with_reducible refine zae (.tmp 5) (w.heap.size+1) (by assumption) ?_ ?_ ?_ ?_);rfl;rfl;rfl)
  |(go_at_call 107;(with_reducible refine (zas 7 b n t x _ 149 rfl _).mono ?_);rintro e w2 ⟨rfl,hb2⟩;have k2:=l0.below hb2.is;have m2:=l1.below hb2.is;have b2:=zad b0 hb2 (by have:=l0.lt;omega);have z2:w.heap.size≤w2.heap.size:=by have:=k2.lt;omega
    clear l0 l1 l00 hb2 b0
    have c1:=m2.c2;have f1:=m2.free 2;have q1:=k2.c2;have m3:Six (w2.setCell ⟨w.heap.size+1,2,none⟩ (.int .i64 0)).drew (w.heap.size+1) _ _ _ _ _ _ _ _:=m2.set2 0;have b3:=(zbm (o:=2) b2 none (.int .i64 0) (show w.heap.size≤w.heap.size+1 by omega) z2).drew;have z3:w.heap.size≤(w2.setCell ⟨w.heap.size+1,2,none⟩ (.int .i64 0)).drew.heap.size:=by simpa [World.setCell] using z2)
  |(simp only [zjs,zgj,zgk,zgl,zgm,Result.andThen_ok]))
 go_region_with fail
 all_goals
  go_wp2_with (first
   |((with_reducible refine zae (.tmp 5) (w.heap.size+1) (by assumption) ?_ ?_ ?_ ?_);rfl;rfl;rfl)
   |(go_at_call 112;(with_reducible refine (zcs 7 _ _ _ _ _ _ _ _).mono ?_);rintro e w9 ⟨rfl,hb9⟩;have b9:=zad b3 hb9 z3))
  go_ret
  exact ⟨rfl,b9⟩
theorem zva (b:Bool) (n:Int) (t x:ByteArray) (p:Option Addr) (len cap:Nat) (d:Int) (w:World) (hn:¬ 0≤n):
 Calls Tryz.prog 86 #[.agg #[.int .i64 7,.bool b,.int .i64 n,.string t,.string x,.slice p len cap],.int .i64 d] w fun e w'=>e=.returned (.bool (false))∧Low w.heap.size w w':=by
 have l0:Six ((w.alloc (.cells #[.int .i64 7,.bool b,.int .i64 n,.string t,.string x,.slice p len cap] 39)).alloc (.cells #[.int .i64 7,.bool b,.int .i64 n,.string t,.string x,.slice p len cap] 39)) w.heap.size 7 b n t x p len cap:=(zah w rfl).alloc _
 have l1:Six ((w.alloc (.cells #[.int .i64 7,.bool b,.int .i64 n,.string t,.string x,.slice p len cap] 39)).alloc (.cells #[.int .i64 7,.bool b,.int .i64 n,.string t,.string x,.slice p len cap] 39)) (w.heap.size+1) 7 b n t x p len cap:=zah _ (by simp)
 have b0:=low2 w (.cells #[.int .i64 7,.bool b,.int .i64 n,.string t,.string x,.slice p len cap] 39) (.cells #[.int .i64 7,.bool b,.int .i64 n,.string t,.string x,.slice p len cap] 39)
 have l00:=zah (k:=7) (b:=b) (n:=n) (t:=t) (x:=x) (p:=p) (len:=len) (cap:=cap) w rfl
 go_enter Tryz.func86,Tryz.ntmps86
 go_wp2_with (first
  |((with_reducible refine zaa (.tmp 2) w.heap.size (by assumption) ?_ ?_ ?_ ?_);rfl;rfl;rfl)
  |((with_reducible refine zae (.tmp 5) (w.heap.size+1) (by assumption) ?_ ?_ ?_ ?_);rfl;rfl;rfl)
  |(go_at_call 107;(with_reducible refine (zas 7 b n t x _ 149 rfl _).mono ?_);rintro e w2 ⟨rfl,hb2⟩;have k2:=l0.below hb2.is;have m2:=l1.below hb2.is;have b2:=zad b0 hb2 (by have:=l0.lt;omega);have z2:w.heap.size≤w2.heap.size:=by have:=k2.lt;omega
    clear l0 l1 l00 hb2 b0
    have c1:=m2.c2;have f1:=m2.free 2;have q1:=k2.c2;have m3:Six (w2.setCell ⟨w.heap.size+1,2,none⟩ (.int .i64 0)).drew (w.heap.size+1) _ _ _ _ _ _ _ _:=m2.set2 0;have b3:=(zbm (o:=2) b2 none (.int .i64 0) (show w.heap.size≤w.heap.size+1 by omega) z2).drew;have z3:w.heap.size≤(w2.setCell ⟨w.heap.size+1,2,none⟩ (.int .i64 0)).drew.heap.size:=by simpa [World.setCell] using z2)
  |(simp only [zjs,zgj,zgk,zgl,zgm,Result.andThen_ok]))
 go_region_with fail
 all_goals
  go_wp2_with fail
  go_ret
  exact ⟨rfl,b3⟩
theorem zty (b:Bool) (n:Int) (t x:ByteArray) (p:Option Addr) (len cap:Nat) (d:Int) (w:World) (hn:(t.size:Int)≤1048576):
 Calls Tryz.prog 86 #[.agg #[.int .i64 4,.bool b,.int .i64 n,.string t,.string x,.slice p len cap],.int .i64 d] w fun e w'=>e=.returned (.bool (zbl b n ⟨#[]⟩ x len))∧Low w.heap.size w w':=by
 have l0:Six ((w.alloc (.cells #[.int .i64 4,.bool b,.int .i64 n,.string t,.string x,.slice p len cap] 39)).alloc (.cells #[.int .i64 4,.bool b,.int .i64 n,.string t,.string x,.slice p len cap] 39)) w.heap.size 4 b n t x p len cap:=(zah w rfl).alloc _
 have l1:Six ((w.alloc (.cells #[.int .i64 4,.bool b,.int .i64 n,.string t,.string x,.slice p len cap] 39)).alloc (.cells #[.int .i64 4,.bool b,.int .i64 n,.string t,.string x,.slice p len cap] 39)) (w.heap.size+1) 4 b n t x p len cap:=zah _ (by simp)
 have b0:=low2 w (.cells #[.int .i64 4,.bool b,.int .i64 n,.string t,.string x,.slice p len cap] 39) (.cells #[.int .i64 4,.bool b,.int .i64 n,.string t,.string x,.slice p len cap] 39)
 have l00:=zah (k:=4) (b:=b) (n:=n) (t:=t) (x:=x) (p:=p) (len:=len) (cap:=cap) w rfl
 go_enter Tryz.func86,Tryz.ntmps86
 go_wp2_with (first
  |((with_reducible refine zaa (.tmp 2) w.heap.size (by assumption) ?_ ?_ ?_ ?_);rfl;rfl;rfl)
  |((with_reducible refine zae (.tmp 5) (w.heap.size+1) (by assumption) ?_ ?_ ?_ ?_);rfl;rfl;rfl)
  |(go_at_call 107;(with_reducible refine (zas 4 b n t x _ 151 rfl _).mono ?_);rintro e w2 ⟨rfl,hb2⟩;have k2:=l0.below hb2.is;have m2:=l1.below hb2.is;have b2:=zad b0 hb2 (by have:=l0.lt;omega);have z2:w.heap.size≤w2.heap.size:=by have:=k2.lt;omega
    clear l0 l1 l00 hb2 b0
    have c1:=m2.c3;have f1:=m2.free 3;have q1:=k2.c3;have m3:Six (w2.setCell ⟨w.heap.size+1,3,none⟩ (.string ⟨#[]⟩)).drew (w.heap.size+1) _ _ _ _ _ _ _ _:=m2.set3 ⟨#[]⟩;have b3:=(zbm (o:=3) b2 none (.string ⟨#[]⟩) (show w.heap.size≤w.heap.size+1 by omega) z2).drew;have z3:w.heap.size≤(w2.setCell ⟨w.heap.size+1,3,none⟩ (.string ⟨#[]⟩)).drew.heap.size:=by simpa [World.setCell] using z2)
  |(simp only [zj2,zgv,zgw,zgx,zgy,zgz,zj3,Result.andThen_ok]))
 go_region_with fail
 all_goals
  go_wp2_with (first
   |((with_reducible refine zae (.tmp 5) (w.heap.size+1) (by assumption) ?_ ?_ ?_ ?_);rfl;rfl;rfl)
   |(go_at_call 112;(with_reducible refine (zcs 4 _ _ _ _ _ _ _ _).mono ?_);rintro e w9 ⟨rfl,hb9⟩;have b9:=zad b3 hb9 z3))
  go_ret
  exact ⟨rfl,b9⟩
theorem zvb (b:Bool) (n:Int) (t x:ByteArray) (p:Option Addr) (len cap:Nat) (d:Int) (w:World) (hn:¬ (t.size:Int)≤1048576):
 Calls Tryz.prog 86 #[.agg #[.int .i64 4,.bool b,.int .i64 n,.string t,.string x,.slice p len cap],.int .i64 d] w fun e w'=>e=.returned (.bool (false))∧Low w.heap.size w w':=by
 have l0:Six ((w.alloc (.cells #[.int .i64 4,.bool b,.int .i64 n,.string t,.string x,.slice p len cap] 39)).alloc (.cells #[.int .i64 4,.bool b,.int .i64 n,.string t,.string x,.slice p len cap] 39)) w.heap.size 4 b n t x p len cap:=(zah w rfl).alloc _
 have l1:Six ((w.alloc (.cells #[.int .i64 4,.bool b,.int .i64 n,.string t,.string x,.slice p len cap] 39)).alloc (.cells #[.int .i64 4,.bool b,.int .i64 n,.string t,.string x,.slice p len cap] 39)) (w.heap.size+1) 4 b n t x p len cap:=zah _ (by simp)
 have b0:=low2 w (.cells #[.int .i64 4,.bool b,.int .i64 n,.string t,.string x,.slice p len cap] 39) (.cells #[.int .i64 4,.bool b,.int .i64 n,.string t,.string x,.slice p len cap] 39)
 have l00:=zah (k:=4) (b:=b) (n:=n) (t:=t) (x:=x) (p:=p) (len:=len) (cap:=cap) w rfl
 go_enter Tryz.func86,Tryz.ntmps86
 go_wp2_with (first
  |((with_reducible refine zaa (.tmp 2) w.heap.size (by assumption) ?_ ?_ ?_ ?_);rfl;rfl;rfl)
  |((with_reducible refine zae (.tmp 5) (w.heap.size+1) (by assumption) ?_ ?_ ?_ ?_);rfl;rfl;rfl)
  |(go_at_call 107;(with_reducible refine (zas 4 b n t x _ 151 rfl _).mono ?_);rintro e w2 ⟨rfl,hb2⟩;have k2:=l0.below hb2.is;have m2:=l1.below hb2.is;have b2:=zad b0 hb2 (by have:=l0.lt;omega);have z2:w.heap.size≤w2.heap.size:=by have:=k2.lt;omega
    clear l0 l1 l00 hb2 b0
    have c1:=m2.c3;have f1:=m2.free 3;have q1:=k2.c3;have m3:Six (w2.setCell ⟨w.heap.size+1,3,none⟩ (.string ⟨#[]⟩)).drew (w.heap.size+1) _ _ _ _ _ _ _ _:=m2.set3 ⟨#[]⟩;have b3:=(zbm (o:=3) b2 none (.string ⟨#[]⟩) (show w.heap.size≤w.heap.size+1 by omega) z2).drew;have z3:w.heap.size≤(w2.setCell ⟨w.heap.size+1,3,none⟩ (.string ⟨#[]⟩)).drew.heap.size:=by simpa [World.setCell] using z2)
  |(simp only [zj2,zgv,zgw,zgx,zgy,zgz,zj3,Result.andThen_ok]))
 go_region_with fail
 all_goals
  go_wp2_with fail
  go_ret
  exact ⟨rfl,b3⟩
end Go.Proofs.YtanbgdhmfjgihaaGreatDoor
