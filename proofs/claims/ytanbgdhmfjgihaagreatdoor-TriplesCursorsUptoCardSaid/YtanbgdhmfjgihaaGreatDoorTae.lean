/- Texts of one kind, one behind the other: each says ahead of itself what it shows. -/
import Derived.Test.YtanbgdhmfjgihaaGreatDoorTac
import Derived.Test.YtanbgdhmfjgihaaGreatDoorTad
import Derived.BigQuiet
namespace Go.Proofs.YtanbgdhmfjgihaaGreatDoor
open Go.RowKit
set_option maxHeartbeats 12800000
set_option maxRecDepth 20000
theorem mayNull (b:Bool) (n:Int) (t x:ByteArray) (p:Option Addr) (len cap:Nat) (d:Int) (w:World):
 Calls Tryz.prog 86 #[.agg #[.int .i64 0,.bool b,.int .i64 n,.string t,.string x,.slice p len cap],.int .i64 d] w fun e w'=>e=.returned (.bool (zbm b n t x len))∧Low w.heap.size w w':=by
 have l0:Six ((w.alloc (.cells #[.int .i64 0,.bool b,.int .i64 n,.string t,.string x,.slice p len cap] 39)).alloc (.cells #[.int .i64 0,.bool b,.int .i64 n,.string t,.string x,.slice p len cap] 39)) w.heap.size 0 b n t x p len cap:=(zaf w rfl).alloc _
 have l1:Six ((w.alloc (.cells #[.int .i64 0,.bool b,.int .i64 n,.string t,.string x,.slice p len cap] 39)).alloc (.cells #[.int .i64 0,.bool b,.int .i64 n,.string t,.string x,.slice p len cap] 39)) (w.heap.size+1) 0 b n t x p len cap:=zaf _ (by simp)
 have b0:=low2 w (.cells #[.int .i64 0,.bool b,.int .i64 n,.string t,.string x,.slice p len cap] 39) (.cells #[.int .i64 0,.bool b,.int .i64 n,.string t,.string x,.slice p len cap] 39)
 have l00:=zaf (k:=0) (b:=b) (n:=n) (t:=t) (x:=x) (p:=p) (len:=len) (cap:=cap) w rfl
 go_enter Tryz.func86,Tryz.ntmps86
 go_wp2_with (first
  |((with_reducible refine zaa (.tmp 2) w.heap.size (by assumption) ?_ ?_ ?_ ?_);rfl;rfl;rfl)
  |((with_reducible refine zaj (.tmp 5) (w.heap.size+1) (by assumption) ?_ ?_ ?_ ?_);rfl;rfl;rfl)
  |(go_at_call 107;(with_reducible refine (zap 0 b n t x _ 145 rfl _).mono ?_);rintro e w2 ⟨rfl,hb2⟩;have k2:=l0.below hb2.is;have m2:=l1.below hb2.is;have b2:=zad b0 hb2 (by have:=l0.lt;omega);have z2:w.heap.size≤w2.heap.size:=by have:=k2.lt;omega
    clear l0 l1 l00 hb2 b0
    skip)
  |(simp only [ziq,Result.andThen_ok])
  |(go_at_call 112;(with_reducible refine (zck 0 _ _ _ _ _ _ _ _).mono ?_);rintro e w9 ⟨rfl,hb9⟩;have b9:=zad b2 hb9 z2))
 go_ret
 exact ⟨rfl,b9⟩
theorem zv6 (b:Bool) (n:Int) (t x:ByteArray) (p:Option Addr) (len cap:Nat) (d:Int) (w:World):
 Calls Tryz.prog 86 #[.agg #[.int .i64 1,.bool b,.int .i64 n,.string t,.string x,.slice p len cap],.int .i64 d] w fun e w'=>e=.returned (.bool (zbm false n t x len))∧Low w.heap.size w w':=by
 have l0:Six ((w.alloc (.cells #[.int .i64 1,.bool b,.int .i64 n,.string t,.string x,.slice p len cap] 39)).alloc (.cells #[.int .i64 1,.bool b,.int .i64 n,.string t,.string x,.slice p len cap] 39)) w.heap.size 1 b n t x p len cap:=(zaf w rfl).alloc _
 have l1:Six ((w.alloc (.cells #[.int .i64 1,.bool b,.int .i64 n,.string t,.string x,.slice p len cap] 39)).alloc (.cells #[.int .i64 1,.bool b,.int .i64 n,.string t,.string x,.slice p len cap] 39)) (w.heap.size+1) 1 b n t x p len cap:=zaf _ (by simp)
 have b0:=low2 w (.cells #[.int .i64 1,.bool b,.int .i64 n,.string t,.string x,.slice p len cap] 39) (.cells #[.int .i64 1,.bool b,.int .i64 n,.string t,.string x,.slice p len cap] 39)
 have l00:=zaf (k:=1) (b:=b) (n:=n) (t:=t) (x:=x) (p:=p) (len:=len) (cap:=cap) w rfl
 go_enter Tryz.func86,Tryz.ntmps86
 go_wp2_with (first
  |((with_reducible refine zaa (.tmp 2) w.heap.size (by assumption) ?_ ?_ ?_ ?_);rfl;rfl;rfl)
  |((with_reducible refine zaj (.tmp 5) (w.heap.size+1) (by assumption) ?_ ?_ ?_ ?_);rfl;rfl;rfl)
  |(go_at_call 107;(with_reducible refine (zap 1 b n t x _ 146 rfl _).mono ?_);rintro e w2 ⟨rfl,hb2⟩;have k2:=l0.below hb2.is;have m2:=l1.below hb2.is;have b2:=zad b0 hb2 (by have:=l0.lt;omega);have z2:w.heap.size≤w2.heap.size:=by have:=k2.lt;omega
    clear l0 l1 l00 hb2 b0
    have c1:=m2.c1;have f1:=m2.free 1;have m3:=m2.set1 false;have b3:=zbo (o:=1) b2 none (.bool false) (show w.heap.size≤w.heap.size+1 by omega) z2;have z3:w.heap.size≤(w2.setCell ⟨w.heap.size+1,1,none⟩ (.bool false)).heap.size:=by simpa [World.setCell] using z2)
  |(simp only [znl,ziv,Result.andThen_ok])
  |(go_at_call 112;(with_reducible refine (zck 1 _ _ _ _ _ _ _ _).mono ?_);rintro e w9 ⟨rfl,hb9⟩;have b9:=zad b3 hb9 z3))
 go_ret
 exact ⟨rfl,b9⟩
theorem zv7 (b:Bool) (n:Int) (t x:ByteArray) (p:Option Addr) (len cap:Nat) (d:Int) (w:World):
 Calls Tryz.prog 86 #[.agg #[.int .i64 2,.bool b,.int .i64 n,.string t,.string x,.slice p len cap],.int .i64 d] w fun e w'=>e=.returned (.bool (zbm b 0 t x len))∧Low w.heap.size w w':=by
 have l0:Six ((w.alloc (.cells #[.int .i64 2,.bool b,.int .i64 n,.string t,.string x,.slice p len cap] 39)).alloc (.cells #[.int .i64 2,.bool b,.int .i64 n,.string t,.string x,.slice p len cap] 39)) w.heap.size 2 b n t x p len cap:=(zaf w rfl).alloc _
 have l1:Six ((w.alloc (.cells #[.int .i64 2,.bool b,.int .i64 n,.string t,.string x,.slice p len cap] 39)).alloc (.cells #[.int .i64 2,.bool b,.int .i64 n,.string t,.string x,.slice p len cap] 39)) (w.heap.size+1) 2 b n t x p len cap:=zaf _ (by simp)
 have b0:=low2 w (.cells #[.int .i64 2,.bool b,.int .i64 n,.string t,.string x,.slice p len cap] 39) (.cells #[.int .i64 2,.bool b,.int .i64 n,.string t,.string x,.slice p len cap] 39)
 have l00:=zaf (k:=2) (b:=b) (n:=n) (t:=t) (x:=x) (p:=p) (len:=len) (cap:=cap) w rfl
 go_enter Tryz.func86,Tryz.ntmps86
 go_wp2_with (first
  |((with_reducible refine zaa (.tmp 2) w.heap.size (by assumption) ?_ ?_ ?_ ?_);rfl;rfl;rfl)
  |((with_reducible refine zaj (.tmp 5) (w.heap.size+1) (by assumption) ?_ ?_ ?_ ?_);rfl;rfl;rfl)
  |(go_at_call 107;(with_reducible refine (zap 2 b n t x _ 147 rfl _).mono ?_);rintro e w2 ⟨rfl,hb2⟩;have k2:=l0.below hb2.is;have m2:=l1.below hb2.is;have b2:=zad b0 hb2 (by have:=l0.lt;omega);have z2:w.heap.size≤w2.heap.size:=by have:=k2.lt;omega
    clear l0 l1 l00 hb2 b0
    have c1:=m2.c2;have f1:=m2.free 2;have m3:=m2.set2 0;have b3:=zbo (o:=2) b2 none (.int .i64 0) (show w.heap.size≤w.heap.size+1 by omega) z2;have z3:w.heap.size≤(w2.setCell ⟨w.heap.size+1,2,none⟩ (.int .i64 0)).heap.size:=by simpa [World.setCell] using z2)
  |(simp only [znq,zi1,zi2,Result.andThen_ok])
  |(go_at_call 112;(with_reducible refine (zck 2 _ _ _ _ _ _ _ _).mono ?_);rintro e w9 ⟨rfl,hb9⟩;have b9:=zad b3 hb9 z3))
 go_ret
 exact ⟨rfl,b9⟩
theorem chkAs (s:ByteArray) (r:Bool) (h:chk s.data.toList=r) (w:World) (hG:Gd w) (hs:s.size < 4294967281):Calls Tryz.prog 108 #[.string s] w fun e w'=>e=.returned (.bool r)∧Low w.heap.size w w':=by
 subst h
 exact zmp s w hG hs
theorem zqv (s:ByteArray) (r:Bool) (h:zb1 s=r) (w:World) (hs:s.size≤maxLen):Calls Tryz.prog 109 #[.string s] w fun e w'=>e=.returned (.bool r)∧Low w.heap.size w w':=by
 subst h
 exact (zpj s w hs).mono fun _ _ ⟨h,k⟩=>⟨h,k ▸ Low.refl _ _⟩
theorem zxv (s:ByteArray) (r:Bool) (h:zcu s=r) (w:World) (hs:s.size≤maxLen):Calls Tryz.prog 110 #[.string s] w fun e w'=>e=.returned (.bool r)∧Low w.heap.size w w':=by
 subst h
 exact (zvy s w hs).mono fun _ _ ⟨h,k⟩=>⟨h,k ▸ Low.refl _ _⟩
theorem zpl (b:Bool) (n:Int) (t x:ByteArray) (p:Option Addr) (len cap:Nat) (d:Int) (w:World) (hG:Gd w) (hs:t.size < 4294967281) (h:chk t.data.toList=true):
 Calls Tryz.prog 86 #[.agg #[.int .i64 3,.bool b,.int .i64 n,.string t,.string x,.slice p len cap],.int .i64 d] w fun e w'=>e=.returned (.bool (zbm b n ⟨#[]⟩ x len))∧Low w.heap.size w w':=by
 have l0:Six ((w.alloc (.cells #[.int .i64 3,.bool b,.int .i64 n,.string t,.string x,.slice p len cap] 39)).alloc (.cells #[.int .i64 3,.bool b,.int .i64 n,.string t,.string x,.slice p len cap] 39)) w.heap.size 3 b n t x p len cap:=(zaf w rfl).alloc _
 have l1:Six ((w.alloc (.cells #[.int .i64 3,.bool b,.int .i64 n,.string t,.string x,.slice p len cap] 39)).alloc (.cells #[.int .i64 3,.bool b,.int .i64 n,.string t,.string x,.slice p len cap] 39)) (w.heap.size+1) 3 b n t x p len cap:=zaf _ (by simp)
 have b0:=low2 w (.cells #[.int .i64 3,.bool b,.int .i64 n,.string t,.string x,.slice p len cap] 39) (.cells #[.int .i64 3,.bool b,.int .i64 n,.string t,.string x,.slice p len cap] 39)
 have l00:=zaf (k:=3) (b:=b) (n:=n) (t:=t) (x:=x) (p:=p) (len:=len) (cap:=cap) w rfl
 go_enter Tryz.func86,Tryz.ntmps86
 go_wp2_with (first
  |((with_reducible refine zaa (.tmp 2) w.heap.size (by assumption) ?_ ?_ ?_ ?_);rfl;rfl;rfl)
  |((with_reducible refine zaj (.tmp 5) (w.heap.size+1) (by assumption) ?_ ?_ ?_ ?_);rfl;rfl;rfl)
  |(go_at_call 107;(with_reducible refine (zap 3 b n t x _ 150 rfl _).mono ?_);rintro e w2 ⟨rfl,hb2⟩;have k2:=l0.below hb2.is;have m2:=l1.below hb2.is;have b2:=zad b0 hb2 (by have:=l0.lt;omega);have z2:w.heap.size≤w2.heap.size:=by have:=k2.lt;omega
    clear l0 l1 l00 hb2 b0
    have c3:=k2.c3)
  |(simp only [zjh,zf6,zf7,zf8,zf9,zga,Result.andThen_ok])
  |(go_at_call 108;(with_reducible refine (chkAs t _ h _ (hG.below b2.is) hs).mono ?_);rintro e w3 ⟨rfl,hb3⟩;have b3:=zad b2 hb3 z2;have m3:=m2.below hb3.is;have e3:=m3.c3;have f3:=m3.free 3;have m4:=m3.set3 ⟨#[]⟩;have z3:w.heap.size≤w3.heap.size:=(by have:=m3.lt;omega);have b4:=zbo (o:=3) b3 none (.string ⟨#[]⟩) (show w.heap.size≤w.heap.size+1 by omega) z3;have z4:w.heap.size≤(w3.setCell ⟨w.heap.size+1,3,none⟩ (.string ⟨#[]⟩)).heap.size:=by simpa [World.setCell] using z3)
  |(go_at_call 112;(with_reducible refine (zck 3 _ _ _ _ _ _ _ _).mono ?_);rintro e w9 ⟨rfl,hb9⟩;have b9:=zad b4 hb9 z4))
 go_ret
 exact ⟨rfl,b9⟩
theorem zsa (b:Bool) (n:Int) (t x:ByteArray) (p:Option Addr) (len cap:Nat) (d:Int) (w:World) (hG:Gd w) (hs:t.size < 4294967281) (h:chk t.data.toList=false):
 Calls Tryz.prog 86 #[.agg #[.int .i64 3,.bool b,.int .i64 n,.string t,.string x,.slice p len cap],.int .i64 d] w fun e w'=>e=.returned (.bool (false))∧Low w.heap.size w w':=by
 have l0:Six ((w.alloc (.cells #[.int .i64 3,.bool b,.int .i64 n,.string t,.string x,.slice p len cap] 39)).alloc (.cells #[.int .i64 3,.bool b,.int .i64 n,.string t,.string x,.slice p len cap] 39)) w.heap.size 3 b n t x p len cap:=(zaf w rfl).alloc _
 have l1:Six ((w.alloc (.cells #[.int .i64 3,.bool b,.int .i64 n,.string t,.string x,.slice p len cap] 39)).alloc (.cells #[.int .i64 3,.bool b,.int .i64 n,.string t,.string x,.slice p len cap] 39)) (w.heap.size+1) 3 b n t x p len cap:=zaf _ (by simp)
 have b0:=low2 w (.cells #[.int .i64 3,.bool b,.int .i64 n,.string t,.string x,.slice p len cap] 39) (.cells #[.int .i64 3,.bool b,.int .i64 n,.string t,.string x,.slice p len cap] 39)
 have l00:=zaf (k:=3) (b:=b) (n:=n) (t:=t) (x:=x) (p:=p) (len:=len) (cap:=cap) w rfl
 go_enter Tryz.func86,Tryz.ntmps86
 go_wp2_with (first
  |((with_reducible refine zaa (.tmp 2) w.heap.size (by assumption) ?_ ?_ ?_ ?_);rfl;rfl;rfl)
  |((with_reducible refine zaj (.tmp 5) (w.heap.size+1) (by assumption) ?_ ?_ ?_ ?_);rfl;rfl;rfl)
  |(go_at_call 107;(with_reducible refine (zap 3 b n t x _ 150 rfl _).mono ?_);rintro e w2 ⟨rfl,hb2⟩;have k2:=l0.below hb2.is;have m2:=l1.below hb2.is;have b2:=zad b0 hb2 (by have:=l0.lt;omega);have z2:w.heap.size≤w2.heap.size:=by have:=k2.lt;omega
    clear l0 l1 l00 hb2 b0
    have c3:=k2.c3)
  |(simp only [zjh,zf6,zf7,zf8,zf9,zga,Result.andThen_ok])
  |(go_at_call 108;(with_reducible refine (chkAs t _ h _ (hG.below b2.is) hs).mono ?_);rintro e w3 ⟨rfl,hb3⟩;have b3:=zad b2 hb3 z2;have m3:=m2.below hb3.is;have e3:=m3.c3;have f3:=m3.free 3;have m4:=m3.set3 ⟨#[]⟩;have z3:w.heap.size≤w3.heap.size:=(by have:=m3.lt;omega);have b9:=zbo (o:=3) b3 none (.string ⟨#[]⟩) (show w.heap.size≤w.heap.size+1 by omega) z3))
 go_ret
 exact ⟨rfl,b9⟩
theorem zti (b:Bool) (n:Int) (t x:ByteArray) (p:Option Addr) (len cap:Nat) (d:Int) (w:World) (hs:t.size≤maxLen) (h:zb1 t=true):
 Calls Tryz.prog 86 #[.agg #[.int .i64 8,.bool b,.int .i64 n,.string t,.string x,.slice p len cap],.int .i64 d] w fun e w'=>e=.returned (.bool (zbm b n ⟨#[]⟩ x len))∧Low w.heap.size w w':=by
 have l0:Six ((w.alloc (.cells #[.int .i64 8,.bool b,.int .i64 n,.string t,.string x,.slice p len cap] 39)).alloc (.cells #[.int .i64 8,.bool b,.int .i64 n,.string t,.string x,.slice p len cap] 39)) w.heap.size 8 b n t x p len cap:=(zaf w rfl).alloc _
 have l1:Six ((w.alloc (.cells #[.int .i64 8,.bool b,.int .i64 n,.string t,.string x,.slice p len cap] 39)).alloc (.cells #[.int .i64 8,.bool b,.int .i64 n,.string t,.string x,.slice p len cap] 39)) (w.heap.size+1) 8 b n t x p len cap:=zaf _ (by simp)
 have b0:=low2 w (.cells #[.int .i64 8,.bool b,.int .i64 n,.string t,.string x,.slice p len cap] 39) (.cells #[.int .i64 8,.bool b,.int .i64 n,.string t,.string x,.slice p len cap] 39)
 have l00:=zaf (k:=8) (b:=b) (n:=n) (t:=t) (x:=x) (p:=p) (len:=len) (cap:=cap) w rfl
 go_enter Tryz.func86,Tryz.ntmps86
 go_wp2_with (first
  |((with_reducible refine zaa (.tmp 2) w.heap.size (by assumption) ?_ ?_ ?_ ?_);rfl;rfl;rfl)
  |((with_reducible refine zaj (.tmp 5) (w.heap.size+1) (by assumption) ?_ ?_ ?_ ?_);rfl;rfl;rfl)
  |(go_at_call 107;(with_reducible refine (zap 8 b n t x _ 152 rfl _).mono ?_);rintro e w2 ⟨rfl,hb2⟩;have k2:=l0.below hb2.is;have m2:=l1.below hb2.is;have b2:=zad b0 hb2 (by have:=l0.lt;omega);have z2:w.heap.size≤w2.heap.size:=by have:=k2.lt;omega
    clear l0 l1 l00 hb2 b0
    have c3:=k2.c3)
  |(simp only [zjr,zgi,zgj,zgk,zgl,zgm,zjs,zjt,Result.andThen_ok])
  |(go_at_call 109;(with_reducible refine (zqv t _ h _ hs).mono ?_);rintro e w3 ⟨rfl,hb3⟩;have b3:=zad b2 hb3 z2;have m3:=m2.below hb3.is;have e3:=m3.c3;have f3:=m3.free 3;have m4:=m3.set3 ⟨#[]⟩;have z3:w.heap.size≤w3.heap.size:=(by have:=m3.lt;omega);have b4:=zbo (o:=3) b3 none (.string ⟨#[]⟩) (show w.heap.size≤w.heap.size+1 by omega) z3;have z4:w.heap.size≤(w3.setCell ⟨w.heap.size+1,3,none⟩ (.string ⟨#[]⟩)).heap.size:=by simpa [World.setCell] using z3)
  |(go_at_call 112;(with_reducible refine (zck 8 _ _ _ _ _ _ _ _).mono ?_);rintro e w9 ⟨rfl,hb9⟩;have b9:=zad b4 hb9 z4))
 go_ret
 exact ⟨rfl,b9⟩
theorem zv8 (b:Bool) (n:Int) (t x:ByteArray) (p:Option Addr) (len cap:Nat) (d:Int) (w:World) (hs:t.size≤maxLen) (h:zb1 t=false):
 Calls Tryz.prog 86 #[.agg #[.int .i64 8,.bool b,.int .i64 n,.string t,.string x,.slice p len cap],.int .i64 d] w fun e w'=>e=.returned (.bool (false))∧Low w.heap.size w w':=by
 have l0:Six ((w.alloc (.cells #[.int .i64 8,.bool b,.int .i64 n,.string t,.string x,.slice p len cap] 39)).alloc (.cells #[.int .i64 8,.bool b,.int .i64 n,.string t,.string x,.slice p len cap] 39)) w.heap.size 8 b n t x p len cap:=(zaf w rfl).alloc _
 have l1:Six ((w.alloc (.cells #[.int .i64 8,.bool b,.int .i64 n,.string t,.string x,.slice p len cap] 39)).alloc (.cells #[.int .i64 8,.bool b,.int .i64 n,.string t,.string x,.slice p len cap] 39)) (w.heap.size+1) 8 b n t x p len cap:=zaf _ (by simp)
 have b0:=low2 w (.cells #[.int .i64 8,.bool b,.int .i64 n,.string t,.string x,.slice p len cap] 39) (.cells #[.int .i64 8,.bool b,.int .i64 n,.string t,.string x,.slice p len cap] 39)
 have l00:=zaf (k:=8) (b:=b) (n:=n) (t:=t) (x:=x) (p:=p) (len:=len) (cap:=cap) w rfl
 go_enter Tryz.func86,Tryz.ntmps86
 go_wp2_with (first
  |((with_reducible refine zaa (.tmp 2) w.heap.size (by assumption) ?_ ?_ ?_ ?_);rfl;rfl;rfl)
  |((with_reducible refine zaj (.tmp 5) (w.heap.size+1) (by assumption) ?_ ?_ ?_ ?_);rfl;rfl;rfl)
  |(go_at_call 107;(with_reducible refine (zap 8 b n t x _ 152 rfl _).mono ?_);rintro e w2 ⟨rfl,hb2⟩;have k2:=l0.below hb2.is;have m2:=l1.below hb2.is;have b2:=zad b0 hb2 (by have:=l0.lt;omega);have z2:w.heap.size≤w2.heap.size:=by have:=k2.lt;omega
    clear l0 l1 l00 hb2 b0
    have c3:=k2.c3)
  |(simp only [zjr,zgi,zgj,zgk,zgl,zgm,zjs,zjt,Result.andThen_ok])
  |(go_at_call 109;(with_reducible refine (zqv t _ h _ hs).mono ?_);rintro e w3 ⟨rfl,hb3⟩;have b3:=zad b2 hb3 z2;have m3:=m2.below hb3.is;have e3:=m3.c3;have f3:=m3.free 3;have m4:=m3.set3 ⟨#[]⟩;have z3:w.heap.size≤w3.heap.size:=(by have:=m3.lt;omega);have b9:=zbo (o:=3) b3 none (.string ⟨#[]⟩) (show w.heap.size≤w.heap.size+1 by omega) z3))
 go_ret
 exact ⟨rfl,b9⟩
theorem zpm (b:Bool) (n:Int) (t x:ByteArray) (p:Option Addr) (len cap:Nat) (d:Int) (w:World) (hs:t.size≤maxLen) (h:zcu t=true):
 Calls Tryz.prog 86 #[.agg #[.int .i64 9,.bool b,.int .i64 n,.string t,.string x,.slice p len cap],.int .i64 d] w fun e w'=>e=.returned (.bool (zbm b n ⟨#[]⟩ x len))∧Low w.heap.size w w':=by
 have l0:Six ((w.alloc (.cells #[.int .i64 9,.bool b,.int .i64 n,.string t,.string x,.slice p len cap] 39)).alloc (.cells #[.int .i64 9,.bool b,.int .i64 n,.string t,.string x,.slice p len cap] 39)) w.heap.size 9 b n t x p len cap:=(zaf w rfl).alloc _
 have l1:Six ((w.alloc (.cells #[.int .i64 9,.bool b,.int .i64 n,.string t,.string x,.slice p len cap] 39)).alloc (.cells #[.int .i64 9,.bool b,.int .i64 n,.string t,.string x,.slice p len cap] 39)) (w.heap.size+1) 9 b n t x p len cap:=zaf _ (by simp)
 have b0:=low2 w (.cells #[.int .i64 9,.bool b,.int .i64 n,.string t,.string x,.slice p len cap] 39) (.cells #[.int .i64 9,.bool b,.int .i64 n,.string t,.string x,.slice p len cap] 39)
 have l00:=zaf (k:=9) (b:=b) (n:=n) (t:=t) (x:=x) (p:=p) (len:=len) (cap:=cap) w rfl
 go_enter Tryz.func86,Tryz.ntmps86
 go_wp2_with (first
  |((with_reducible refine zaa (.tmp 2) w.heap.size (by assumption) ?_ ?_ ?_ ?_);rfl;rfl;rfl)
  |((with_reducible refine zaj (.tmp 5) (w.heap.size+1) (by assumption) ?_ ?_ ?_ ?_);rfl;rfl;rfl)
  |(go_at_call 107;(with_reducible refine (zap 9 b n t x _ 153 rfl _).mono ?_);rintro e w2 ⟨rfl,hb2⟩;have k2:=l0.below hb2.is;have m2:=l1.below hb2.is;have b2:=zad b0 hb2 (by have:=l0.lt;omega);have z2:w.heap.size≤w2.heap.size:=by have:=k2.lt;omega
    clear l0 l1 l00 hb2 b0
    have c3:=k2.c3)
  |(simp only [zjw,zgo,zgp,zgq,zgr,zgs,zjx,zjy,zjz,Result.andThen_ok])
  |(go_at_call 110;(with_reducible refine (zxv t _ h _ hs).mono ?_);rintro e w3 ⟨rfl,hb3⟩;have b3:=zad b2 hb3 z2;have m3:=m2.below hb3.is;have e3:=m3.c3;have f3:=m3.free 3;have m4:=m3.set3 ⟨#[]⟩;have z3:w.heap.size≤w3.heap.size:=(by have:=m3.lt;omega);have b4:=zbo (o:=3) b3 none (.string ⟨#[]⟩) (show w.heap.size≤w.heap.size+1 by omega) z3;have z4:w.heap.size≤(w3.setCell ⟨w.heap.size+1,3,none⟩ (.string ⟨#[]⟩)).heap.size:=by simpa [World.setCell] using z3)
  |(go_at_call 112;(with_reducible refine (zck 9 _ _ _ _ _ _ _ _).mono ?_);rintro e w9 ⟨rfl,hb9⟩;have b9:=zad b4 hb9 z4))
 go_ret
 exact ⟨rfl,b9⟩
theorem zsb (b:Bool) (n:Int) (t x:ByteArray) (p:Option Addr) (len cap:Nat) (d:Int) (w:World) (hs:t.size≤maxLen) (h:zcu t=false):
 Calls Tryz.prog 86 #[.agg #[.int .i64 9,.bool b,.int .i64 n,.string t,.string x,.slice p len cap],.int .i64 d] w fun e w'=>e=.returned (.bool (false))∧Low w.heap.size w w':=by
 have l0:Six ((w.alloc (.cells #[.int .i64 9,.bool b,.int .i64 n,.string t,.string x,.slice p len cap] 39)).alloc (.cells #[.int .i64 9,.bool b,.int .i64 n,.string t,.string x,.slice p len cap] 39)) w.heap.size 9 b n t x p len cap:=(zaf w rfl).alloc _
 have l1:Six ((w.alloc (.cells #[.int .i64 9,.bool b,.int .i64 n,.string t,.string x,.slice p len cap] 39)).alloc (.cells #[.int .i64 9,.bool b,.int .i64 n,.string t,.string x,.slice p len cap] 39)) (w.heap.size+1) 9 b n t x p len cap:=zaf _ (by simp)
 have b0:=low2 w (.cells #[.int .i64 9,.bool b,.int .i64 n,.string t,.string x,.slice p len cap] 39) (.cells #[.int .i64 9,.bool b,.int .i64 n,.string t,.string x,.slice p len cap] 39)
 have l00:=zaf (k:=9) (b:=b) (n:=n) (t:=t) (x:=x) (p:=p) (len:=len) (cap:=cap) w rfl
 go_enter Tryz.func86,Tryz.ntmps86
 go_wp2_with (first
  |((with_reducible refine zaa (.tmp 2) w.heap.size (by assumption) ?_ ?_ ?_ ?_);rfl;rfl;rfl)
  |((with_reducible refine zaj (.tmp 5) (w.heap.size+1) (by assumption) ?_ ?_ ?_ ?_);rfl;rfl;rfl)
  |(go_at_call 107;(with_reducible refine (zap 9 b n t x _ 153 rfl _).mono ?_);rintro e w2 ⟨rfl,hb2⟩;have k2:=l0.below hb2.is;have m2:=l1.below hb2.is;have b2:=zad b0 hb2 (by have:=l0.lt;omega);have z2:w.heap.size≤w2.heap.size:=by have:=k2.lt;omega
    clear l0 l1 l00 hb2 b0
    have c3:=k2.c3)
  |(simp only [zjw,zgo,zgp,zgq,zgr,zgs,zjx,zjy,zjz,Result.andThen_ok])
  |(go_at_call 110;(with_reducible refine (zxv t _ h _ hs).mono ?_);rintro e w3 ⟨rfl,hb3⟩;have b3:=zad b2 hb3 z2;have m3:=m2.below hb3.is;have e3:=m3.c3;have f3:=m3.free 3;have m4:=m3.set3 ⟨#[]⟩;have z3:w.heap.size≤w3.heap.size:=(by have:=m3.lt;omega);have b9:=zbo (o:=3) b3 none (.string ⟨#[]⟩) (show w.heap.size≤w.heap.size+1 by omega) z3))
 go_ret
 exact ⟨rfl,b9⟩
theorem zsc (b:Bool) (n:Int) (t x:ByteArray) (p:Option Addr) (len cap:Nat) (d:Int) (w:World) (d0:0≤d) (d1:d≤1000) (hc:∀ W,Low w.heap.size w W→Calls Tryz.prog 111 #[.slice p len cap,.int .i64 (d+1)] W fun e w'=>e=.returned (.bool true)∧Low W.heap.size W w'):
 Calls Tryz.prog 86 #[.agg #[.int .i64 5,.bool b,.int .i64 n,.string t,.string x,.slice p len cap],.int .i64 d] w fun e w'=>e=.returned (.bool (zbm b n t x 0))∧Low w.heap.size w w':=by
 have l0:Six ((w.alloc (.cells #[.int .i64 5,.bool b,.int .i64 n,.string t,.string x,.slice p len cap] 39)).alloc (.cells #[.int .i64 5,.bool b,.int .i64 n,.string t,.string x,.slice p len cap] 39)) w.heap.size 5 b n t x p len cap:=(zaf w rfl).alloc _
 have l1:Six ((w.alloc (.cells #[.int .i64 5,.bool b,.int .i64 n,.string t,.string x,.slice p len cap] 39)).alloc (.cells #[.int .i64 5,.bool b,.int .i64 n,.string t,.string x,.slice p len cap] 39)) (w.heap.size+1) 5 b n t x p len cap:=zaf _ (by simp)
 have b0:=low2 w (.cells #[.int .i64 5,.bool b,.int .i64 n,.string t,.string x,.slice p len cap] 39) (.cells #[.int .i64 5,.bool b,.int .i64 n,.string t,.string x,.slice p len cap] 39)
 have l00:=zaf (k:=5) (b:=b) (n:=n) (t:=t) (x:=x) (p:=p) (len:=len) (cap:=cap) w rfl
 go_enter Tryz.func86,Tryz.ntmps86
 go_wp2_with (first
  |((with_reducible refine zaa (.tmp 2) w.heap.size (by assumption) ?_ ?_ ?_ ?_);rfl;rfl;rfl)
  |((with_reducible refine zaj (.tmp 5) (w.heap.size+1) (by assumption) ?_ ?_ ?_ ?_);rfl;rfl;rfl)
  |(go_at_call 107;(with_reducible refine (zap 5 b n t x _ 155 rfl _).mono ?_);rintro e w2 ⟨rfl,hb2⟩;have k2:=l0.below hb2.is;have m2:=l1.below hb2.is;have b2:=zad b0 hb2 (by have:=l0.lt;omega);have z2:w.heap.size≤w2.heap.size:=by have:=k2.lt;omega
    clear l0 l1 l00 hb2 b0
    have c5:=k2.c5;have e1:IntKind.i64.wrap (d+1)=d+1:=IntWalk.i64_in _ (by omega))
  |(simp only [zj1,zgz,zg0,zg1,zg2,zg3,zj2,zj3,zj4,zj5,zg4,Result.andThen_ok])
  |(go_at_call 111;(with_reducible refine (hc _ b2).mono ?_);rintro e w3 ⟨rfl,hb3⟩;have b3:=zad b2 hb3 z2;have m3:=m2.below hb3.is;have e3:=m3.c5;have f3:=m3.free 5;have m4:=m3.set5 none 0 0;have z3:w.heap.size≤w3.heap.size:=(by have:=m3.lt;omega);have b4:=zbo (o:=5) b3 none (.slice none 0 0) (show w.heap.size≤w.heap.size+1 by omega) z3;have z4:w.heap.size≤(w3.setCell ⟨w.heap.size+1,5,none⟩ (.slice none 0 0)).heap.size:=by simpa [World.setCell] using z3)
  |(go_at_call 112;(with_reducible refine (zck 5 _ _ _ _ _ _ _ _).mono ?_);rintro e w9 ⟨rfl,hb9⟩;have b9:=zad b4 hb9 z4))
 go_ret
 exact ⟨rfl,b9⟩
theorem ztj (b:Bool) (n:Int) (t x:ByteArray) (p:Option Addr) (len cap:Nat) (d:Int) (w:World) (d0:0≤d) (d1:d≤1000) (hc:∀ W,Low w.heap.size w W→Calls Tryz.prog 111 #[.slice p len cap,.int .i64 (d+1)] W fun e w'=>e=.returned (.bool false)∧Low W.heap.size W w'):
 Calls Tryz.prog 86 #[.agg #[.int .i64 5,.bool b,.int .i64 n,.string t,.string x,.slice p len cap],.int .i64 d] w fun e w'=>e=.returned (.bool (false))∧Low w.heap.size w w':=by
 have l0:Six ((w.alloc (.cells #[.int .i64 5,.bool b,.int .i64 n,.string t,.string x,.slice p len cap] 39)).alloc (.cells #[.int .i64 5,.bool b,.int .i64 n,.string t,.string x,.slice p len cap] 39)) w.heap.size 5 b n t x p len cap:=(zaf w rfl).alloc _
 have l1:Six ((w.alloc (.cells #[.int .i64 5,.bool b,.int .i64 n,.string t,.string x,.slice p len cap] 39)).alloc (.cells #[.int .i64 5,.bool b,.int .i64 n,.string t,.string x,.slice p len cap] 39)) (w.heap.size+1) 5 b n t x p len cap:=zaf _ (by simp)
 have b0:=low2 w (.cells #[.int .i64 5,.bool b,.int .i64 n,.string t,.string x,.slice p len cap] 39) (.cells #[.int .i64 5,.bool b,.int .i64 n,.string t,.string x,.slice p len cap] 39)
 have l00:=zaf (k:=5) (b:=b) (n:=n) (t:=t) (x:=x) (p:=p) (len:=len) (cap:=cap) w rfl
 go_enter Tryz.func86,Tryz.ntmps86
 go_wp2_with (first
  |((with_reducible refine zaa (.tmp 2) w.heap.size (by assumption) ?_ ?_ ?_ ?_);rfl;rfl;rfl)
  |((with_reducible refine zaj (.tmp 5) (w.heap.size+1) (by assumption) ?_ ?_ ?_ ?_);rfl;rfl;rfl)
  |(go_at_call 107;(with_reducible refine (zap 5 b n t x _ 155 rfl _).mono ?_);rintro e w2 ⟨rfl,hb2⟩;have k2:=l0.below hb2.is;have m2:=l1.below hb2.is;have b2:=zad b0 hb2 (by have:=l0.lt;omega);have z2:w.heap.size≤w2.heap.size:=by have:=k2.lt;omega
    clear l0 l1 l00 hb2 b0
    have c5:=k2.c5;have e1:IntKind.i64.wrap (d+1)=d+1:=IntWalk.i64_in _ (by omega))
  |(simp only [zj1,zgz,zg0,zg1,zg2,zg3,zj2,zj3,zj4,zj5,zg4,Result.andThen_ok])
  |(go_at_call 111;(with_reducible refine (hc _ b2).mono ?_);rintro e w3 ⟨rfl,hb3⟩;have b3:=zad b2 hb3 z2;have m3:=m2.below hb3.is;have e3:=m3.c5;have f3:=m3.free 5;have m4:=m3.set5 none 0 0;have z3:w.heap.size≤w3.heap.size:=(by have:=m3.lt;omega);have b4:=zbo (o:=5) b3 none (.slice none 0 0) (show w.heap.size≤w.heap.size+1 by omega) z3;have z4:w.heap.size≤(w3.setCell ⟨w.heap.size+1,5,none⟩ (.slice none 0 0)).heap.size:=by simpa [World.setCell] using z3))
 go_ret
 exact ⟨rfl,b4⟩
theorem zpn (k:Int) (b:Bool) (n:Int) (t x:ByteArray) (p:Option Addr) (len cap:Nat) (d:Int) (w:World) (hk:zk6 k=188):
 Calls Tryz.prog 86 #[.agg #[.int .i64 k,.bool b,.int .i64 n,.string t,.string x,.slice p len cap],.int .i64 d] w fun e w'=>e=.returned (.bool (false))∧Low w.heap.size w w':=by
 have l0:Six ((w.alloc (.cells #[.int .i64 k,.bool b,.int .i64 n,.string t,.string x,.slice p len cap] 39)).alloc (.cells #[.int .i64 k,.bool b,.int .i64 n,.string t,.string x,.slice p len cap] 39)) w.heap.size k b n t x p len cap:=(zaf w rfl).alloc _
 have l1:Six ((w.alloc (.cells #[.int .i64 k,.bool b,.int .i64 n,.string t,.string x,.slice p len cap] 39)).alloc (.cells #[.int .i64 k,.bool b,.int .i64 n,.string t,.string x,.slice p len cap] 39)) (w.heap.size+1) k b n t x p len cap:=zaf _ (by simp)
 have b0:=low2 w (.cells #[.int .i64 k,.bool b,.int .i64 n,.string t,.string x,.slice p len cap] 39) (.cells #[.int .i64 k,.bool b,.int .i64 n,.string t,.string x,.slice p len cap] 39)
 have l00:=zaf (k:=k) (b:=b) (n:=n) (t:=t) (x:=x) (p:=p) (len:=len) (cap:=cap) w rfl
 go_enter Tryz.func86,Tryz.ntmps86
 go_wp2_with (first
  |((with_reducible refine zaa (.tmp 2) w.heap.size (by assumption) ?_ ?_ ?_ ?_);rfl;rfl;rfl)
  |((with_reducible refine zaj (.tmp 5) (w.heap.size+1) (by assumption) ?_ ?_ ?_ ?_);rfl;rfl;rfl)
  |(go_at_call 107;(with_reducible refine (zap k b n t x _ 188 hk.symm _).mono ?_);rintro e w2 ⟨rfl,hb2⟩;have k2:=l0.below hb2.is;have m2:=l1.below hb2.is;have b2:=zad b0 hb2 (by have:=l0.lt;omega);have z2:w.heap.size≤w2.heap.size:=by have:=k2.lt;omega
    clear l0 l1 l00 hb2 b0
    skip)
  |(simp only [znv,zj6,zj7,zj8,zj9,zka,znw,znx,zny,znz,zkb,Result.andThen_ok]))
 go_ret
 exact ⟨rfl,b2⟩
theorem zsd (b:Bool) (n:Int) (t x:ByteArray) (p:Option Addr) (len cap:Nat) (d:Int) (w:World) (hn:0≤n):
 Calls Tryz.prog 86 #[.agg #[.int .i64 6,.bool b,.int .i64 n,.string t,.string x,.slice p len cap],.int .i64 d] w fun e w'=>e=.returned (.bool (zbm b 0 t x len))∧Low w.heap.size w w':=by
 have l0:Six ((w.alloc (.cells #[.int .i64 6,.bool b,.int .i64 n,.string t,.string x,.slice p len cap] 39)).alloc (.cells #[.int .i64 6,.bool b,.int .i64 n,.string t,.string x,.slice p len cap] 39)) w.heap.size 6 b n t x p len cap:=(zaf w rfl).alloc _
 have l1:Six ((w.alloc (.cells #[.int .i64 6,.bool b,.int .i64 n,.string t,.string x,.slice p len cap] 39)).alloc (.cells #[.int .i64 6,.bool b,.int .i64 n,.string t,.string x,.slice p len cap] 39)) (w.heap.size+1) 6 b n t x p len cap:=zaf _ (by simp)
 have b0:=low2 w (.cells #[.int .i64 6,.bool b,.int .i64 n,.string t,.string x,.slice p len cap] 39) (.cells #[.int .i64 6,.bool b,.int .i64 n,.string t,.string x,.slice p len cap] 39)
 have l00:=zaf (k:=6) (b:=b) (n:=n) (t:=t) (x:=x) (p:=p) (len:=len) (cap:=cap) w rfl
 go_enter Tryz.func86,Tryz.ntmps86
 go_wp2_with (first
  |((with_reducible refine zaa (.tmp 2) w.heap.size (by assumption) ?_ ?_ ?_ ?_);rfl;rfl;rfl)
  |((with_reducible refine zaj (.tmp 5) (w.heap.size+1) (by assumption) ?_ ?_ ?_ ?_);rfl;rfl;rfl)
  |(go_at_call 107;(with_reducible refine (zap 6 b n t x _ 148 rfl _).mono ?_);rintro e w2 ⟨rfl,hb2⟩;have k2:=l0.below hb2.is;have m2:=l1.below hb2.is;have b2:=zad b0 hb2 (by have:=l0.lt;omega);have z2:w.heap.size≤w2.heap.size:=by have:=k2.lt;omega
    clear l0 l1 l00 hb2 b0
    have c1:=m2.c2;have f1:=m2.free 2;have q1:=k2.c2;have m3:Six (w2.setCell ⟨w.heap.size+1,2,none⟩ (.int .i64 0)).drew (w.heap.size+1) _ _ _ _ _ _ _ _:=m2.set2 0;have b3:=(zbo (o:=2) b2 none (.int .i64 0) (show w.heap.size≤w.heap.size+1 by omega) z2).drew;have z3:w.heap.size≤(w2.setCell ⟨w.heap.size+1,2,none⟩ (.int .i64 0)).drew.heap.size:=by simpa [World.setCell] using z2)
  |(simp only [zi7,zfu,zfv,zfw,zfx,Result.andThen_ok]))
 go_region_with fail
 all_goals
  go_wp2_with (first
   |((with_reducible refine zaj (.tmp 5) (w.heap.size+1) (by assumption) ?_ ?_ ?_ ?_);rfl;rfl;rfl)
   |(go_at_call 112;(with_reducible refine (zck 6 _ _ _ _ _ _ _ _).mono ?_);rintro e w9 ⟨rfl,hb9⟩;have b9:=zad b3 hb9 z3))
  go_ret
  exact ⟨rfl,b9⟩
theorem ztk (b:Bool) (n:Int) (t x:ByteArray) (p:Option Addr) (len cap:Nat) (d:Int) (w:World) (hn:¬ 0≤n):
 Calls Tryz.prog 86 #[.agg #[.int .i64 6,.bool b,.int .i64 n,.string t,.string x,.slice p len cap],.int .i64 d] w fun e w'=>e=.returned (.bool (false))∧Low w.heap.size w w':=by
 have l0:Six ((w.alloc (.cells #[.int .i64 6,.bool b,.int .i64 n,.string t,.string x,.slice p len cap] 39)).alloc (.cells #[.int .i64 6,.bool b,.int .i64 n,.string t,.string x,.slice p len cap] 39)) w.heap.size 6 b n t x p len cap:=(zaf w rfl).alloc _
 have l1:Six ((w.alloc (.cells #[.int .i64 6,.bool b,.int .i64 n,.string t,.string x,.slice p len cap] 39)).alloc (.cells #[.int .i64 6,.bool b,.int .i64 n,.string t,.string x,.slice p len cap] 39)) (w.heap.size+1) 6 b n t x p len cap:=zaf _ (by simp)
 have b0:=low2 w (.cells #[.int .i64 6,.bool b,.int .i64 n,.string t,.string x,.slice p len cap] 39) (.cells #[.int .i64 6,.bool b,.int .i64 n,.string t,.string x,.slice p len cap] 39)
 have l00:=zaf (k:=6) (b:=b) (n:=n) (t:=t) (x:=x) (p:=p) (len:=len) (cap:=cap) w rfl
 go_enter Tryz.func86,Tryz.ntmps86
 go_wp2_with (first
  |((with_reducible refine zaa (.tmp 2) w.heap.size (by assumption) ?_ ?_ ?_ ?_);rfl;rfl;rfl)
  |((with_reducible refine zaj (.tmp 5) (w.heap.size+1) (by assumption) ?_ ?_ ?_ ?_);rfl;rfl;rfl)
  |(go_at_call 107;(with_reducible refine (zap 6 b n t x _ 148 rfl _).mono ?_);rintro e w2 ⟨rfl,hb2⟩;have k2:=l0.below hb2.is;have m2:=l1.below hb2.is;have b2:=zad b0 hb2 (by have:=l0.lt;omega);have z2:w.heap.size≤w2.heap.size:=by have:=k2.lt;omega
    clear l0 l1 l00 hb2 b0
    have c1:=m2.c2;have f1:=m2.free 2;have q1:=k2.c2;have m3:Six (w2.setCell ⟨w.heap.size+1,2,none⟩ (.int .i64 0)).drew (w.heap.size+1) _ _ _ _ _ _ _ _:=m2.set2 0;have b3:=(zbo (o:=2) b2 none (.int .i64 0) (show w.heap.size≤w.heap.size+1 by omega) z2).drew;have z3:w.heap.size≤(w2.setCell ⟨w.heap.size+1,2,none⟩ (.int .i64 0)).drew.heap.size:=by simpa [World.setCell] using z2)
  |(simp only [zi7,zfu,zfv,zfw,zfx,Result.andThen_ok]))
 go_region_with fail
 all_goals
  go_wp2_with fail
  go_ret
  exact ⟨rfl,b3⟩
theorem zse (b:Bool) (n:Int) (t x:ByteArray) (p:Option Addr) (len cap:Nat) (d:Int) (w:World) (hn:0≤n):
 Calls Tryz.prog 86 #[.agg #[.int .i64 7,.bool b,.int .i64 n,.string t,.string x,.slice p len cap],.int .i64 d] w fun e w'=>e=.returned (.bool (zbm b 0 t x len))∧Low w.heap.size w w':=by
 have l0:Six ((w.alloc (.cells #[.int .i64 7,.bool b,.int .i64 n,.string t,.string x,.slice p len cap] 39)).alloc (.cells #[.int .i64 7,.bool b,.int .i64 n,.string t,.string x,.slice p len cap] 39)) w.heap.size 7 b n t x p len cap:=(zaf w rfl).alloc _
 have l1:Six ((w.alloc (.cells #[.int .i64 7,.bool b,.int .i64 n,.string t,.string x,.slice p len cap] 39)).alloc (.cells #[.int .i64 7,.bool b,.int .i64 n,.string t,.string x,.slice p len cap] 39)) (w.heap.size+1) 7 b n t x p len cap:=zaf _ (by simp)
 have b0:=low2 w (.cells #[.int .i64 7,.bool b,.int .i64 n,.string t,.string x,.slice p len cap] 39) (.cells #[.int .i64 7,.bool b,.int .i64 n,.string t,.string x,.slice p len cap] 39)
 have l00:=zaf (k:=7) (b:=b) (n:=n) (t:=t) (x:=x) (p:=p) (len:=len) (cap:=cap) w rfl
 go_enter Tryz.func86,Tryz.ntmps86
 go_wp2_with (first
  |((with_reducible refine zaa (.tmp 2) w.heap.size (by assumption) ?_ ?_ ?_ ?_);rfl;rfl;rfl)
  |((with_reducible refine zaj (.tmp 5) (w.heap.size+1) (by assumption) ?_ ?_ ?_ ?_);rfl;rfl;rfl)
  |(go_at_call 107;(with_reducible refine (zap 7 b n t x _ 149 rfl _).mono ?_);rintro e w2 ⟨rfl,hb2⟩;have k2:=l0.below hb2.is;have m2:=l1.below hb2.is;have b2:=zad b0 hb2 (by have:=l0.lt;omega);have z2:w.heap.size≤w2.heap.size:=by have:=k2.lt;omega
    clear l0 l1 l00 hb2 b0
    have c1:=m2.c2;have f1:=m2.free 2;have q1:=k2.c2;have m3:Six (w2.setCell ⟨w.heap.size+1,2,none⟩ (.int .i64 0)).drew (w.heap.size+1) _ _ _ _ _ _ _ _:=m2.set2 0;have b3:=(zbo (o:=2) b2 none (.int .i64 0) (show w.heap.size≤w.heap.size+1 by omega) z2).drew;have z3:w.heap.size≤(w2.setCell ⟨w.heap.size+1,2,none⟩ (.int .i64 0)).drew.heap.size:=by simpa [World.setCell] using z2)
  |(simp only [zjc,zf0,zf1,zf2,zf3,Result.andThen_ok]))
 go_region_with fail
 all_goals
  go_wp2_with (first
   |((with_reducible refine zaj (.tmp 5) (w.heap.size+1) (by assumption) ?_ ?_ ?_ ?_);rfl;rfl;rfl)
   |(go_at_call 112;(with_reducible refine (zck 7 _ _ _ _ _ _ _ _).mono ?_);rintro e w9 ⟨rfl,hb9⟩;have b9:=zad b3 hb9 z3))
  go_ret
  exact ⟨rfl,b9⟩
theorem ztl (b:Bool) (n:Int) (t x:ByteArray) (p:Option Addr) (len cap:Nat) (d:Int) (w:World) (hn:¬ 0≤n):
 Calls Tryz.prog 86 #[.agg #[.int .i64 7,.bool b,.int .i64 n,.string t,.string x,.slice p len cap],.int .i64 d] w fun e w'=>e=.returned (.bool (false))∧Low w.heap.size w w':=by
 have l0:Six ((w.alloc (.cells #[.int .i64 7,.bool b,.int .i64 n,.string t,.string x,.slice p len cap] 39)).alloc (.cells #[.int .i64 7,.bool b,.int .i64 n,.string t,.string x,.slice p len cap] 39)) w.heap.size 7 b n t x p len cap:=(zaf w rfl).alloc _
 have l1:Six ((w.alloc (.cells #[.int .i64 7,.bool b,.int .i64 n,.string t,.string x,.slice p len cap] 39)).alloc (.cells #[.int .i64 7,.bool b,.int .i64 n,.string t,.string x,.slice p len cap] 39)) (w.heap.size+1) 7 b n t x p len cap:=zaf _ (by simp)
 have b0:=low2 w (.cells #[.int .i64 7,.bool b,.int .i64 n,.string t,.string x,.slice p len cap] 39) (.cells #[.int .i64 7,.bool b,.int .i64 n,.string t,.string x,.slice p len cap] 39)
 have l00:=zaf (k:=7) (b:=b) (n:=n) (t:=t) (x:=x) (p:=p) (len:=len) (cap:=cap) w rfl
 go_enter Tryz.func86,Tryz.ntmps86
 go_wp2_with (first
  |((with_reducible refine zaa (.tmp 2) w.heap.size (by assumption) ?_ ?_ ?_ ?_);rfl;rfl;rfl)
  |((with_reducible refine zaj (.tmp 5) (w.heap.size+1) (by assumption) ?_ ?_ ?_ ?_);rfl;rfl;rfl)
  |(go_at_call 107;(with_reducible refine (zap 7 b n t x _ 149 rfl _).mono ?_);rintro e w2 ⟨rfl,hb2⟩;have k2:=l0.below hb2.is;have m2:=l1.below hb2.is;have b2:=zad b0 hb2 (by have:=l0.lt;omega);have z2:w.heap.size≤w2.heap.size:=by have:=k2.lt;omega
    clear l0 l1 l00 hb2 b0
    have c1:=m2.c2;have f1:=m2.free 2;have q1:=k2.c2;have m3:Six (w2.setCell ⟨w.heap.size+1,2,none⟩ (.int .i64 0)).drew (w.heap.size+1) _ _ _ _ _ _ _ _:=m2.set2 0;have b3:=(zbo (o:=2) b2 none (.int .i64 0) (show w.heap.size≤w.heap.size+1 by omega) z2).drew;have z3:w.heap.size≤(w2.setCell ⟨w.heap.size+1,2,none⟩ (.int .i64 0)).drew.heap.size:=by simpa [World.setCell] using z2)
  |(simp only [zjc,zf0,zf1,zf2,zf3,Result.andThen_ok]))
 go_region_with fail
 all_goals
  go_wp2_with fail
  go_ret
  exact ⟨rfl,b3⟩
theorem zsf (b:Bool) (n:Int) (t x:ByteArray) (p:Option Addr) (len cap:Nat) (d:Int) (w:World) (hn:(t.size:Int)≤1048576):
 Calls Tryz.prog 86 #[.agg #[.int .i64 4,.bool b,.int .i64 n,.string t,.string x,.slice p len cap],.int .i64 d] w fun e w'=>e=.returned (.bool (zbm b n ⟨#[]⟩ x len))∧Low w.heap.size w w':=by
 have l0:Six ((w.alloc (.cells #[.int .i64 4,.bool b,.int .i64 n,.string t,.string x,.slice p len cap] 39)).alloc (.cells #[.int .i64 4,.bool b,.int .i64 n,.string t,.string x,.slice p len cap] 39)) w.heap.size 4 b n t x p len cap:=(zaf w rfl).alloc _
 have l1:Six ((w.alloc (.cells #[.int .i64 4,.bool b,.int .i64 n,.string t,.string x,.slice p len cap] 39)).alloc (.cells #[.int .i64 4,.bool b,.int .i64 n,.string t,.string x,.slice p len cap] 39)) (w.heap.size+1) 4 b n t x p len cap:=zaf _ (by simp)
 have b0:=low2 w (.cells #[.int .i64 4,.bool b,.int .i64 n,.string t,.string x,.slice p len cap] 39) (.cells #[.int .i64 4,.bool b,.int .i64 n,.string t,.string x,.slice p len cap] 39)
 have l00:=zaf (k:=4) (b:=b) (n:=n) (t:=t) (x:=x) (p:=p) (len:=len) (cap:=cap) w rfl
 go_enter Tryz.func86,Tryz.ntmps86
 go_wp2_with (first
  |((with_reducible refine zaa (.tmp 2) w.heap.size (by assumption) ?_ ?_ ?_ ?_);rfl;rfl;rfl)
  |((with_reducible refine zaj (.tmp 5) (w.heap.size+1) (by assumption) ?_ ?_ ?_ ?_);rfl;rfl;rfl)
  |(go_at_call 107;(with_reducible refine (zap 4 b n t x _ 151 rfl _).mono ?_);rintro e w2 ⟨rfl,hb2⟩;have k2:=l0.below hb2.is;have m2:=l1.below hb2.is;have b2:=zad b0 hb2 (by have:=l0.lt;omega);have z2:w.heap.size≤w2.heap.size:=by have:=k2.lt;omega
    clear l0 l1 l00 hb2 b0
    have c1:=m2.c3;have f1:=m2.free 3;have q1:=k2.c3;have m3:Six (w2.setCell ⟨w.heap.size+1,3,none⟩ (.string ⟨#[]⟩)).drew (w.heap.size+1) _ _ _ _ _ _ _ _:=m2.set3 ⟨#[]⟩;have b3:=(zbo (o:=3) b2 none (.string ⟨#[]⟩) (show w.heap.size≤w.heap.size+1 by omega) z2).drew;have z3:w.heap.size≤(w2.setCell ⟨w.heap.size+1,3,none⟩ (.string ⟨#[]⟩)).drew.heap.size:=by simpa [World.setCell] using z2)
  |(simp only [zjm,zgc,zgd,zge,zgf,zgg,zjn,Result.andThen_ok]))
 go_region_with fail
 all_goals
  go_wp2_with (first
   |((with_reducible refine zaj (.tmp 5) (w.heap.size+1) (by assumption) ?_ ?_ ?_ ?_);rfl;rfl;rfl)
   |(go_at_call 112;(with_reducible refine (zck 4 _ _ _ _ _ _ _ _).mono ?_);rintro e w9 ⟨rfl,hb9⟩;have b9:=zad b3 hb9 z3))
  go_ret
  exact ⟨rfl,b9⟩
theorem ztm (b:Bool) (n:Int) (t x:ByteArray) (p:Option Addr) (len cap:Nat) (d:Int) (w:World) (hn:¬ (t.size:Int)≤1048576):
 Calls Tryz.prog 86 #[.agg #[.int .i64 4,.bool b,.int .i64 n,.string t,.string x,.slice p len cap],.int .i64 d] w fun e w'=>e=.returned (.bool (false))∧Low w.heap.size w w':=by
 have l0:Six ((w.alloc (.cells #[.int .i64 4,.bool b,.int .i64 n,.string t,.string x,.slice p len cap] 39)).alloc (.cells #[.int .i64 4,.bool b,.int .i64 n,.string t,.string x,.slice p len cap] 39)) w.heap.size 4 b n t x p len cap:=(zaf w rfl).alloc _
 have l1:Six ((w.alloc (.cells #[.int .i64 4,.bool b,.int .i64 n,.string t,.string x,.slice p len cap] 39)).alloc (.cells #[.int .i64 4,.bool b,.int .i64 n,.string t,.string x,.slice p len cap] 39)) (w.heap.size+1) 4 b n t x p len cap:=zaf _ (by simp)
 have b0:=low2 w (.cells #[.int .i64 4,.bool b,.int .i64 n,.string t,.string x,.slice p len cap] 39) (.cells #[.int .i64 4,.bool b,.int .i64 n,.string t,.string x,.slice p len cap] 39)
 have l00:=zaf (k:=4) (b:=b) (n:=n) (t:=t) (x:=x) (p:=p) (len:=len) (cap:=cap) w rfl
 go_enter Tryz.func86,Tryz.ntmps86
 go_wp2_with (first
  |((with_reducible refine zaa (.tmp 2) w.heap.size (by assumption) ?_ ?_ ?_ ?_);rfl;rfl;rfl)
  |((with_reducible refine zaj (.tmp 5) (w.heap.size+1) (by assumption) ?_ ?_ ?_ ?_);rfl;rfl;rfl)
  |(go_at_call 107;(with_reducible refine (zap 4 b n t x _ 151 rfl _).mono ?_);rintro e w2 ⟨rfl,hb2⟩;have k2:=l0.below hb2.is;have m2:=l1.below hb2.is;have b2:=zad b0 hb2 (by have:=l0.lt;omega);have z2:w.heap.size≤w2.heap.size:=by have:=k2.lt;omega
    clear l0 l1 l00 hb2 b0
    have c1:=m2.c3;have f1:=m2.free 3;have q1:=k2.c3;have m3:Six (w2.setCell ⟨w.heap.size+1,3,none⟩ (.string ⟨#[]⟩)).drew (w.heap.size+1) _ _ _ _ _ _ _ _:=m2.set3 ⟨#[]⟩;have b3:=(zbo (o:=3) b2 none (.string ⟨#[]⟩) (show w.heap.size≤w.heap.size+1 by omega) z2).drew;have z3:w.heap.size≤(w2.setCell ⟨w.heap.size+1,3,none⟩ (.string ⟨#[]⟩)).drew.heap.size:=by simpa [World.setCell] using z2)
  |(simp only [zjm,zgc,zgd,zge,zgf,zgg,zjn,Result.andThen_ok]))
 go_region_with fail
 all_goals
  go_wp2_with fail
  go_ret
  exact ⟨rfl,b3⟩
end Go.Proofs.YtanbgdhmfjgihaaGreatDoor
