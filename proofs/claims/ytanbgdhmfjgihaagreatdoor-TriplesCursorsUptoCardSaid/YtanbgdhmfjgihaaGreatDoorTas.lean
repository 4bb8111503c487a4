/- Texts of one kind, one behind the other: each says ahead of itself what it shows. -/
import Derived.Test.YtanbgdhmfjgihaaGreatDoorTar
import Derived.Test.YtanbgdhmfjgihaaGreatDoorTah
import Derived.Maps.AppendAt
import Derived.Shelf.Strconv.Clone
import Derived.Test.YtanbgdhmfjgihaaGreatDoorTao
/- WH -/
namespace Go.Proofs.YtanbgdhmfjgihaaGreatDoor
open Go.RowKit
def CS.go (c:CS) (x:Nat):CS:=match c.d with | 1=>{ c with a0:=x } | 2=>{ c with a1:=x } | _=>{ c with a2:=x }
def CS.up (c:CS):CS:={ c with d:=c.d - 1 }
def CS.down (c:CS) (a e:Nat):CS:=match c.d with | 0=>{ c with a0:=a,e0:=e,d:=1 } | 1=>{ c with a1:=a,e1:=e,d:=2 } | _=>{ c with a2:=a,e2:=e,d:=3 }
structure zce (c c':CS):Prop where
 sp:c'.sp=c.sp
 pl:c'.pl=c.pl
 n:c'.n=c.n
 l0:c'.l0=c.l0
 l1:c'.l1=c.l1
 l2:c'.l2=c.l2
theorem CS.go_alike (c:CS) (x:Nat):zce c (c.go x):=by unfold CS.go;split <;> exact ⟨rfl,rfl,rfl,rfl,rfl,rfl⟩
theorem CS.up_alike (c:CS):zce c c.up:=⟨rfl,rfl,rfl,rfl,rfl,rfl⟩
theorem CS.down_alike (c:CS) (a e:Nat):zce c (c.down a e):=by unfold CS.down;split <;> exact ⟨rfl,rfl,rfl,rfl,rfl,rfl⟩
theorem CS.go_d (c:CS) (x:Nat):(c.go x).d=c.d:=by unfold CS.go;split <;> rfl
theorem CS.go_pos (c:CS) (x:Nat) (h1:1≤c.d) (h3:c.d≤3):(c.go x).pos=x:=by
 obtain ⟨sp,pl,n,cl,l0,l1,l2,a0,e0,a1,e1,a2,e2,d⟩:=c
 simp only at h1 h3
 obtain rfl | rfl | rfl:d=1∨d=2∨d=3:=by omega
 ·rfl
 ·rfl
 ·rfl
theorem CS.go_fin (c:CS) (x:Nat) (h1:1≤c.d) (h3:c.d≤3):(c.go x).fin=c.fin:=by
 obtain ⟨sp,pl,n,cl,l0,l1,l2,a0,e0,a1,e1,a2,e2,d⟩:=c
 simp only at h1 h3
 obtain rfl | rfl | rfl:d=1∨d=2∨d=3:=by omega
 ·rfl
 ·rfl
 ·rfl
theorem At.only {W0 W W':World} {s:SM} {g k:Nat} {c c':CS} (h:At W0 s W g c k) (a:zce c c') (b:Only g W W') (B:Cur W' g c'):At W0 s W' g c' k where
 S:=by rw [a.sp];exact h.S
 n:=by rw [a.n];exact h.n
 l:=by rw [a.pl];exact h.l
 h0:=by rw [a.l0];exact h.h0
 h1:=by rw [a.l1];exact h.h1
 h2:=by rw [a.l2];exact h.h2
 hg:=h.hg
 b:=zag h.b b h.hg h.b.size
 B:=B
theorem zm5 {g:Nat} {x y z:World} (h:Only g x y) (k:Low y.heap.size y z):Only g x z:=h.trans (Only.of_low k)
theorem upC {W:World} {g:Nat} {c:CS} (B:Cur W g c) (h3:c.d≤3):
 Calls Tryz.prog 24 #[.pointer (some ⟨g,0,none⟩)] W fun e w'=>e=.returned (.bool (decide (1≤c.d)))∧Only g W w'∧Cur w' g c.up:=by
 by_cases h1:1≤c.d
 ·have c11:=B.c11
  have f11:W.frozen? ⟨g,11,none⟩=false:=za9 B _
  have e1:((c.d:Int) == 0)=false:=by simp;omega
  have e2:IntKind.i64.wrap ((c.d:Int) - 1)=(c.d:Int) - 1:=IntWalk.i64_in _ (by omega)
  rw [decide_eq_true h1]
  have fin:Only g W (W.setCell ⟨g,11,none⟩ (.int .i64 ((c.d:Int) - 1)))∧Cur (W.setCell ⟨g,11,none⟩ (.int .i64 ((c.d:Int) - 1))) g c.up:=by
   refine ⟨(Only.refl g W).setCell 11 none _,?_⟩
   have:=zaz B 11 (.int .i64 ((c.d:Int) - 1))
   rw [show (c.d:Int) - 1=((c.d - 1:Nat):Int) by omega] at this ⊢
   exact this
  have FIN:=Lib.hid fin
  clear fin B
  generalize (c.d:Int)=d at*
  go_enter Tryz.func24,Tryz.ntmps24
  go_wp2_with fail
  go_ret
  exact ⟨rfl,FIN.out⟩
 ·have hz:c.d=0:=by omega
  have c11:W.cell? ⟨g,11,none⟩=some (.int .i64 0):=by have:=B.c11;rw [hz] at this;exact this
  rw [decide_eq_false h1]
  have fin:Cur W g c.up:=by
   have e:c.up=c:=by
    obtain ⟨sp,pl,n,cl,l0,l1,l2,a0,e0,a1,e1,a2,e2,d⟩:=c
    simp only at hz
    subst hz
    rfl
   rw [e];exact B
  have FIN:=Lib.hid fin
  clear fin B
  go_enter Tryz.func24,Tryz.ntmps24
  go_wp2_with fail
  go_ret
  exact ⟨rfl,Only.refl _ _,FIN.out⟩
theorem zoy {W:World} {g:Nat} {c:CS} (B:Cur W g c):
 Calls Tryz.prog 33 #[.pointer (some ⟨g,0,none⟩)] W fun e w'=>e=.returned (.int .i64 c.d)∧w'=W:=by
 have c11:=B.c11
 clear B
 go_enter Tryz.func33,Tryz.ntmps33
 go_wp2_with fail
 go_ret
 exact ⟨rfl,rfl⟩
theorem zyd {W:World} {g:Nat} {F:Value} (h:Calls Tryz.prog 62 #[.pointer (some ⟨g,0,none⟩)] W fun e w'=>e=.returned (.bool false)∧Low W.heap.size W w'):
 Calls Tryz.prog 58 #[.pointer (some ⟨g,0,none⟩),F] W fun e w'=>e=.returned (.bool false)∧Low W.heap.size W w':=by
 go_enter Tryz.func58,Tryz.ntmps58
 go_wp2_with (go_at_call 62;(with_reducible refine h.mono ?_);rintro e w3 ⟨rfl,hb3⟩)
 go_ret
 exact ⟨rfl,hb3⟩
set_option maxHeartbeats 3200000 in
set_option maxRecDepth 20000 in
theorem passGo1 (g:Nat) (F:Value) (a e r:Nat) (z:Bool) (cs cs':Array Value) (w:World) (B:w.heap[g]?=some (.cells cs 93)) (k11:cs[11]?=some (.int .i64 1)) (ka:cs[5]?=some (.int .i64 a)) (kc:cs.setIfInBounds 5 (.int .i64 r)=cs') (k12:cs'[11]?=some (.int .i64 1))
 (h1:Calls Tryz.prog 62 #[.pointer (some ⟨g,0,none⟩)] w fun e w'=>e=.returned (.bool true)∧Low w.heap.size w w')
 (h2:∀ W,Low w.heap.size w W→Calls Tryz.prog 65 #[.pointer (some ⟨g,0,none⟩)] W fun e' w'=>e'=.returned (.agg #[.int .i64 a,.int .i64 e])∧Low W.heap.size W w')
 (h3:∀ W,Low w.heap.size w W→Calls Tryz.prog 91 #[.agg #[.int .i64 a,.int .i64 e],F] W fun e' w'=>e'=.returned (.int .i64 r)∧Low W.heap.size W w')
 (h4:∀ W,Only g w W→W.heap[g]?=some (.cells cs' 93)→Calls Tryz.prog 62 #[.pointer (some ⟨g,0,none⟩)] W fun e' w'=>e'=.returned (.bool z)∧Low W.heap.size W w'):
 Calls Tryz.prog 58 #[.pointer (some ⟨g,0,none⟩),F] w fun e w'=>e=.returned (.bool z)∧Only g w w'∧w'.heap[g]?=some (.cells cs' 93):=by
 have H2:=Lib.hid h2
 have H3:=Lib.hid h3
 have H4:=Lib.hid h4
 have HC:=Lib.hid kc
 have HK:=Lib.hid k11
 have HK2:=Lib.hid ka
 have HK3:=Lib.hid k12
 clear h2 h3 h4 kc k11 ka k12
 go_enter Tryz.func58,Tryz.ntmps58
 go_upto_region 3 with (go_at_call 62;(with_reducible refine h1.mono ?_);rintro e0 w2 ⟨rfl,l1⟩)
 replace l1:=l1.drew
 have B1:=(l1.block _ (zac B)).trans B
 have q11:w2.drew.cell? ⟨g,11,none⟩=some (.int .i64 1):=zab B1 11 HK.out
 refine wp_region_held_drew (S:=fun W=>W.cell? ⟨g,11,none⟩=some (.int .i64 1)) (by kernel_rfl) q11 (fun hHeld=>?_)
 refine tg (i:=0) (.pointer (some ⟨g,0,none⟩)) rfl hHeld ?_
 refine tg (i:=1) (.pointer (some ⟨g,0,none⟩)) rfl hHeld ?_
 refine tg (i:=2) (.pointer (some ⟨g,0,none⟩)) rfl hHeld ?_
 refine tg (i:=3) (.pointer (some ⟨g,11,none⟩)) rfl hHeld ?_
 refine tk (i:=4) (v:=.int .i64 1) rfl (Or.inl ⟨by rfl,fun W h=>by have c0:=h;go_simp⟩) hHeld ?_
 refine tk (i:=5) (v:=.int .i64 0) rfl (Or.inl ⟨by rfl,fun W _=>by go_simp;try rfl⟩) hHeld ?_
 refine tg (i:=6) (.pointer (some ⟨g,0,none⟩)) rfl hHeld ?_
 refine tg (i:=8) F rfl hHeld ?_
 refine tg (i:=10) (.pointer (some ⟨g,0,none⟩)) rfl hHeld ?_
 refine tg (i:=11) (.pointer (some ⟨g,5,none⟩)) rfl hHeld ?_
 refine tr 7 rfl (fun K hK=>?_)
 rw [if_pos (by rfl)]
 go_simp
 refine (H2.out _ l1).mono ?_
 rintro e0 w3 ⟨rfl,hb3⟩
 have B2:=(hb3.block _ (zac B1)).trans B1
 have l2:=zad l1 hb3 l1.size
 have q11:w3.cell? ⟨g,11,none⟩=some (.int .i64 1):=zab B2 11 (HK.out)
 clear hb3
 refine hK.out _ _ q11 (fun hHeld2=>?_)
 clear hK K
 try simp only [putS]
 refine tr 9 rfl (fun K hK=>?_)
 rw [if_pos (by rfl)]
 go_simp
 refine (H3.out _ l2).mono ?_
 rintro e0 w3 ⟨rfl,hb3⟩
 have B3:=(hb3.block _ (zac B2)).trans B2
 have l3:=zad l2 hb3 l2.size
 have q11:w3.cell? ⟨g,11,none⟩=some (.int .i64 1):=zab B3 11 (HK.out)
 clear hb3
 refine hK.out _ _ q11 (fun hHeld3=>?_)
 clear hK K
 try simp only [putS]
 refine tg (i:=12) (.pointer (some ⟨g,5,none⟩)) rfl hHeld3 ?_
 refine tg (i:=13) (.pointer (some ⟨g,5,none⟩)) rfl hHeld3 ?_
 refine tr 14 rfl (fun K hK=>?_)
 have c0:=zab B3 5 HK2.out
 have f0:w3.frozen? ⟨g,5,none⟩=false:=za9 B3 _
 go_simp
 have hon:Only g w (w3.setCell ⟨g,5,none⟩ (.int .i64 r)):=(Only.of_low (b:=g) l3).setCell 5 none _
 have hcur:=zaz B3 5 (.int .i64 r)
 rw [HC.out] at hcur
 generalize w3.setCell ⟨g,5,none⟩ (.int .i64 r)=w5 at*
 have q12:w5.cell? ⟨g,11,none⟩=some (.int .i64 1):=zab hcur 11 HK3.out
 refine hK.out _ _ q12 (fun _=>?_)
 clear hK K
 refine wpAnyH_done (by kernel_rfl) ?_ _
 go_wp2_with (go_at_call 62;(with_reducible refine (H4.out _ hon hcur).mono ?_);rintro e0 w6 ⟨rfl,hb6⟩)
 go_ret
 exact ⟨rfl,zm5 hon hb6,(hb6.block _ (zac hcur)).trans hcur⟩
set_option maxHeartbeats 3200000 in
set_option maxRecDepth 20000 in
theorem passGo2 (g:Nat) (F:Value) (a e r:Nat) (z:Bool) (cs cs':Array Value) (w:World) (B:w.heap[g]?=some (.cells cs 93)) (k11:cs[11]?=some (.int .i64 2)) (ka:cs[7]?=some (.int .i64 a)) (kc:cs.setIfInBounds 7 (.int .i64 r)=cs') (k12:cs'[11]?=some (.int .i64 2))
 (h1:Calls Tryz.prog 62 #[.pointer (some ⟨g,0,none⟩)] w fun e w'=>e=.returned (.bool true)∧Low w.heap.size w w')
 (h2:∀ W,Low w.heap.size w W→Calls Tryz.prog 65 #[.pointer (some ⟨g,0,none⟩)] W fun e' w'=>e'=.returned (.agg #[.int .i64 a,.int .i64 e])∧Low W.heap.size W w')
 (h3:∀ W,Low w.heap.size w W→Calls Tryz.prog 91 #[.agg #[.int .i64 a,.int .i64 e],F] W fun e' w'=>e'=.returned (.int .i64 r)∧Low W.heap.size W w')
 (h4:∀ W,Only g w W→W.heap[g]?=some (.cells cs' 93)→Calls Tryz.prog 62 #[.pointer (some ⟨g,0,none⟩)] W fun e' w'=>e'=.returned (.bool z)∧Low W.heap.size W w'):
 Calls Tryz.prog 58 #[.pointer (some ⟨g,0,none⟩),F] w fun e w'=>e=.returned (.bool z)∧Only g w w'∧w'.heap[g]?=some (.cells cs' 93):=by
 have H2:=Lib.hid h2
 have H3:=Lib.hid h3
 have H4:=Lib.hid h4
 have HC:=Lib.hid kc
 have HK:=Lib.hid k11
 have HK2:=Lib.hid ka
 have HK3:=Lib.hid k12
 clear h2 h3 h4 kc k11 ka k12
 go_enter Tryz.func58,Tryz.ntmps58
 go_upto_region 3 with (go_at_call 62;(with_reducible refine h1.mono ?_);rintro e0 w2 ⟨rfl,l1⟩)
 replace l1:=l1.drew
 have B1:=(l1.block _ (zac B)).trans B
 have q11:w2.drew.cell? ⟨g,11,none⟩=some (.int .i64 2):=zab B1 11 HK.out
 refine wp_region_held_drew (S:=fun W=>W.cell? ⟨g,11,none⟩=some (.int .i64 2)) (by kernel_rfl) q11 (fun hHeld=>?_)
 refine tg (i:=0) (.pointer (some ⟨g,0,none⟩)) rfl hHeld ?_
 refine tg (i:=1) (.pointer (some ⟨g,0,none⟩)) rfl hHeld ?_
 refine tg (i:=2) (.pointer (some ⟨g,0,none⟩)) rfl hHeld ?_
 refine tg (i:=3) (.pointer (some ⟨g,11,none⟩)) rfl hHeld ?_
 refine tk (i:=4) (v:=.int .i64 2) rfl (Or.inl ⟨by rfl,fun W h=>by have c0:=h;go_simp⟩) hHeld ?_
 refine tk (i:=5) (v:=.int .i64 1) rfl (Or.inl ⟨by rfl,fun W _=>by go_simp;try rfl⟩) hHeld ?_
 refine tg (i:=6) (.pointer (some ⟨g,0,none⟩)) rfl hHeld ?_
 refine tg (i:=8) F rfl hHeld ?_
 refine tg (i:=10) (.pointer (some ⟨g,0,none⟩)) rfl hHeld ?_
 refine tg (i:=11) (.pointer (some ⟨g,5,none⟩)) rfl hHeld ?_
 refine tr 7 rfl (fun K hK=>?_)
 rw [if_pos (by rfl)]
 go_simp
 refine (H2.out _ l1).mono ?_
 rintro e0 w3 ⟨rfl,hb3⟩
 have B2:=(hb3.block _ (zac B1)).trans B1
 have l2:=zad l1 hb3 l1.size
 have q11:w3.cell? ⟨g,11,none⟩=some (.int .i64 2):=zab B2 11 (HK.out)
 clear hb3
 refine hK.out _ _ q11 (fun hHeld2=>?_)
 clear hK K
 try simp only [putS]
 refine tr 9 rfl (fun K hK=>?_)
 rw [if_pos (by rfl)]
 go_simp
 refine (H3.out _ l2).mono ?_
 rintro e0 w3 ⟨rfl,hb3⟩
 have B3:=(hb3.block _ (zac B2)).trans B2
 have l3:=zad l2 hb3 l2.size
 have q11:w3.cell? ⟨g,11,none⟩=some (.int .i64 2):=zab B3 11 (HK.out)
 clear hb3
 refine hK.out _ _ q11 (fun hHeld3=>?_)
 clear hK K
 try simp only [putS]
 refine tg (i:=12) (.pointer (some ⟨g,7,none⟩)) rfl hHeld3 ?_
 refine tg (i:=13) (.pointer (some ⟨g,7,none⟩)) rfl hHeld3 ?_
 refine tr 14 rfl (fun K hK=>?_)
 have c0:=zab B3 7 HK2.out
 have f0:w3.frozen? ⟨g,7,none⟩=false:=za9 B3 _
 go_simp
 have hon:Only g w (w3.setCell ⟨g,7,none⟩ (.int .i64 r)):=(Only.of_low (b:=g) l3).setCell 7 none _
 have hcur:=zaz B3 7 (.int .i64 r)
 rw [HC.out] at hcur
 generalize w3.setCell ⟨g,7,none⟩ (.int .i64 r)=w5 at*
 have q12:w5.cell? ⟨g,11,none⟩=some (.int .i64 2):=zab hcur 11 HK3.out
 refine hK.out _ _ q12 (fun _=>?_)
 clear hK K
 refine wpAnyH_done (by kernel_rfl) ?_ _
 go_wp2_with (go_at_call 62;(with_reducible refine (H4.out _ hon hcur).mono ?_);rintro e0 w6 ⟨rfl,hb6⟩)
 go_ret
 exact ⟨rfl,zm5 hon hb6,(hb6.block _ (zac hcur)).trans hcur⟩
set_option maxHeartbeats 3200000 in
set_option maxRecDepth 20000 in
theorem passGo3 (g:Nat) (F:Value) (a e r:Nat) (z:Bool) (cs cs':Array Value) (w:World) (B:w.heap[g]?=some (.cells cs 93)) (k11:cs[11]?=some (.int .i64 3)) (ka:cs[9]?=some (.int .i64 a)) (kc:cs.setIfInBounds 9 (.int .i64 r)=cs') (k12:cs'[11]?=some (.int .i64 3))
 (h1:Calls Tryz.prog 62 #[.pointer (some ⟨g,0,none⟩)] w fun e w'=>e=.returned (.bool true)∧Low w.heap.size w w')
 (h2:∀ W,Low w.heap.size w W→Calls Tryz.prog 65 #[.pointer (some ⟨g,0,none⟩)] W fun e' w'=>e'=.returned (.agg #[.int .i64 a,.int .i64 e])∧Low W.heap.size W w')
 (h3:∀ W,Low w.heap.size w W→Calls Tryz.prog 91 #[.agg #[.int .i64 a,.int .i64 e],F] W fun e' w'=>e'=.returned (.int .i64 r)∧Low W.heap.size W w')
 (h4:∀ W,Only g w W→W.heap[g]?=some (.cells cs' 93)→Calls Tryz.prog 62 #[.pointer (some ⟨g,0,none⟩)] W fun e' w'=>e'=.returned (.bool z)∧Low W.heap.size W w'):
 Calls Tryz.prog 58 #[.pointer (some ⟨g,0,none⟩),F] w fun e w'=>e=.returned (.bool z)∧Only g w w'∧w'.heap[g]?=some (.cells cs' 93):=by
 have H2:=Lib.hid h2
 have H3:=Lib.hid h3
 have H4:=Lib.hid h4
 have HC:=Lib.hid kc
 have HK:=Lib.hid k11
 have HK2:=Lib.hid ka
 have HK3:=Lib.hid k12
 clear h2 h3 h4 kc k11 ka k12
 go_enter Tryz.func58,Tryz.ntmps58
 go_upto_region 3 with (go_at_call 62;(with_reducible refine h1.mono ?_);rintro e0 w2 ⟨rfl,l1⟩)
 replace l1:=l1.drew
 have B1:=(l1.block _ (zac B)).trans B
 have q11:w2.drew.cell? ⟨g,11,none⟩=some (.int .i64 3):=zab B1 11 HK.out
 refine wp_region_held_drew (S:=fun W=>W.cell? ⟨g,11,none⟩=some (.int .i64 3)) (by kernel_rfl) q11 (fun hHeld=>?_)
 refine tg (i:=0) (.pointer (some ⟨g,0,none⟩)) rfl hHeld ?_
 refine tg (i:=1) (.pointer (some ⟨g,0,none⟩)) rfl hHeld ?_
 refine tg (i:=2) (.pointer (some ⟨g,0,none⟩)) rfl hHeld ?_
 refine tg (i:=3) (.pointer (some ⟨g,11,none⟩)) rfl hHeld ?_
 refine tk (i:=4) (v:=.int .i64 3) rfl (Or.inl ⟨by rfl,fun W h=>by have c0:=h;go_simp⟩) hHeld ?_
 refine tk (i:=5) (v:=.int .i64 2) rfl (Or.inl ⟨by rfl,fun W _=>by go_simp;try rfl⟩) hHeld ?_
 refine tg (i:=6) (.pointer (some ⟨g,0,none⟩)) rfl hHeld ?_
 refine tg (i:=8) F rfl hHeld ?_
 refine tg (i:=10) (.pointer (some ⟨g,0,none⟩)) rfl hHeld ?_
 refine tg (i:=11) (.pointer (some ⟨g,5,none⟩)) rfl hHeld ?_
 refine tr 7 rfl (fun K hK=>?_)
 rw [if_pos (by rfl)]
 go_simp
 refine (H2.out _ l1).mono ?_
 rintro e0 w3 ⟨rfl,hb3⟩
 have B2:=(hb3.block _ (zac B1)).trans B1
 have l2:=zad l1 hb3 l1.size
 have q11:w3.cell? ⟨g,11,none⟩=some (.int .i64 3):=zab B2 11 (HK.out)
 clear hb3
 refine hK.out _ _ q11 (fun hHeld2=>?_)
 clear hK K
 try simp only [putS]
 refine tr 9 rfl (fun K hK=>?_)
 rw [if_pos (by rfl)]
 go_simp
 refine (H3.out _ l2).mono ?_
 rintro e0 w3 ⟨rfl,hb3⟩
 have B3:=(hb3.block _ (zac B2)).trans B2
 have l3:=zad l2 hb3 l2.size
 have q11:w3.cell? ⟨g,11,none⟩=some (.int .i64 3):=zab B3 11 (HK.out)
 clear hb3
 refine hK.out _ _ q11 (fun hHeld3=>?_)
 clear hK K
 try simp only [putS]
 refine tg (i:=12) (.pointer (some ⟨g,9,none⟩)) rfl hHeld3 ?_
 refine tg (i:=13) (.pointer (some ⟨g,9,none⟩)) rfl hHeld3 ?_
 refine tr 14 rfl (fun K hK=>?_)
 have c0:=zab B3 9 HK2.out
 have f0:w3.frozen? ⟨g,9,none⟩=false:=za9 B3 _
 go_simp
 have hon:Only g w (w3.setCell ⟨g,9,none⟩ (.int .i64 r)):=(Only.of_low (b:=g) l3).setCell 9 none _
 have hcur:=zaz B3 9 (.int .i64 r)
 rw [HC.out] at hcur
 generalize w3.setCell ⟨g,9,none⟩ (.int .i64 r)=w5 at*
 have q12:w5.cell? ⟨g,11,none⟩=some (.int .i64 3):=zab hcur 11 HK3.out
 refine hK.out _ _ q12 (fun _=>?_)
 clear hK K
 refine wpAnyH_done (by kernel_rfl) ?_ _
 go_wp2_with (go_at_call 62;(with_reducible refine (H4.out _ hon hcur).mono ?_);rintro e0 w6 ⟨rfl,hb6⟩)
 go_ret
 exact ⟨rfl,zm5 hon hb6,(hb6.block _ (zac hcur)).trans hcur⟩
end Go.Proofs.YtanbgdhmfjgihaaGreatDoor

/- LA -/
namespace Go.Proofs.YtanbgdhmfjgihaaGreatDoor
open Go.RowKit
mutual
def zbq (w:World) (P:Nat→Prop) (g off:Nat):Val→Prop
 | .mk k b n t x l=>w.cell? ⟨g,off,none⟩=some (.int .i64 k)∧w.cell? ⟨g,off+1,none⟩=some (.bool b)∧w.cell? ⟨g,off+2,none⟩=some (.int .i64 n)∧
   w.cell? ⟨g,off+3,none⟩=some (.string t)∧w.cell? ⟨g,off+4,none⟩=some (.string x)∧Fine n t x l.length∧
   ∃ L,w.cell? ⟨g,off+5,none⟩=some L∧zdb w P L l
def zdb (w:World) (P:Nat→Prop) (L:Value):List Val→Prop
 | []=>∃ p cap,L=.slice p 0 cap
 | v::r=>∃ g off cap,L=.slice (some ⟨g,off,none⟩) (r.length+1) cap∧P g∧zbq w P g off v∧zcq w P g (off+6) r
def zcq (w:World) (P:Nat→Prop) (g off:Nat):List Val→Prop
 | []=>True
 | v::r=>zbq w P g off v∧zcq w P g (off+6) r
end
mutual
theorem zbq.held {w:World} {P:Nat→Prop} {g off:Nat}:(v:Val)→zbq w P g off v→zay w g off v
 | .mk k b n t x l,h=>by
   unfold zbq at h
   unfold zay
   obtain ⟨h0,h1,h2,h3,h4,hf,L,h5,hl⟩:=h
   exact ⟨h0,h1,h2,h3,h4,hf,L,h5,zdb.held l hl⟩
theorem zdb.held {w:World} {P:Nat→Prop} {L:Value}:(l:List Val)→zdb w P L l→Held w L l
 | [],h=>by
   unfold zdb at h
   unfold Held
   exact h
 | v::r,h=>by
   unfold zdb at h
   unfold Held
   obtain ⟨g,off,cap,e,_,hv,hr⟩:=h
   exact ⟨g,off,cap,e,zbq.held v hv,zcq.held r hr⟩
theorem zcq.held {w:World} {P:Nat→Prop} {g off:Nat}:(l:List Val)→zcq w P g off l→zar w g off l
 | [],_=>by unfold zar;trivial
 | v::r,h=>by
   unfold zcq at h
   unfold zar
   exact ⟨zbq.held v h.1,zcq.held r h.2⟩
end
def zsz (P P':Nat→Prop) (w w':World):Prop:=∀ g,P g→P' g∧w'.heap[g]?=w.heap[g]?
theorem zsz.cell {P P':Nat→Prop} {w w':World} (h:zsz P P' w w') {g:Nat} (hg:P g) (o:Nat) {v:Value} (hv:w.cell? ⟨g,o,none⟩=some v):w'.cell? ⟨g,o,none⟩=some v:=
 (World.cell?_of_block (w:=w) (a:=⟨g,o,none⟩) (h g hg).2).trans hv
mutual
theorem zbq.stays {w w':World} {P P':Nat→Prop} {g off:Nat} (s:zsz P P' w w') (hg:P g):(v:Val)→zbq w P g off v→zbq w' P' g off v
 | .mk k b n t x l,h=>by
   unfold zbq at h ⊢
   obtain ⟨h0,h1,h2,h3,h4,hf,L,h5,hl⟩:=h
   exact ⟨s.cell hg _ h0,s.cell hg _ h1,s.cell hg _ h2,s.cell hg _ h3,s.cell hg _ h4,hf,L,s.cell hg _ h5,zdb.stays s l hl⟩
theorem zdb.stays {w w':World} {P P':Nat→Prop} {L:Value} (s:zsz P P' w w'):(l:List Val)→zdb w P L l→zdb w' P' L l
 | [],h=>by
   unfold zdb at h ⊢
   exact h
 | v::r,h=>by
   unfold zdb at h ⊢
   obtain ⟨g,off,cap,e,hg,hv,hr⟩:=h
   exact ⟨g,off,cap,e,(s g hg).1,zbq.stays s hg v hv,zcq.stays s hg r hr⟩
theorem zcq.stays {w w':World} {P P':Nat→Prop} {g off:Nat} (s:zsz P P' w w') (hg:P g):(l:List Val)→zcq w P g off l→zcq w' P' g off l
 | [],_=>by unfold zcq;trivial
 | v::r,h=>by
   unfold zcq at h ⊢
   exact ⟨zbq.stays s hg v h.1,zcq.stays s hg r h.2⟩
end
def za5 (w:World) (P:Nat→Prop):List Value→List Val→Prop
 | xs,[]=>xs=[]
 | xs,.mk k b n t x q::r=>∃ L ys,xs=.int .i64 k::.bool b::.int .i64 n::.string t::.string x::L::ys∧Fine n t x q.length∧zdb w P L q∧za5 w P ys r
theorem za5.append {w:World} {P:Nat→Prop}:{xs ys:List Value}→(l r:List Val)→za5 w P xs l→za5 w P ys r→za5 w P (xs++ys) (l++r)
 | _,_,[],_,h,g=>by
   unfold za5 at h
   subst h
   exact g
 | _,_,.mk k b n t x q::l,r,h,g=>by
   unfold za5 at h
   obtain ⟨L,zs,rfl,hf,hq,hr⟩:=h
   show za5 w P _ (.mk k b n t x q::(l++r))
   unfold za5
   exact ⟨L,_,rfl,hf,hq,za5.append l r hr g⟩
theorem za5.stays {w w':World} {P P':Nat→Prop} (s:zsz P P' w w'):{xs:List Value}→(l:List Val)→za5 w P xs l→za5 w' P' xs l
 | _,[],h=>by unfold za5 at h ⊢;exact h
 | _,.mk k b n t x q::l,h=>by
   unfold za5 at h ⊢
   obtain ⟨L,zs,rfl,hf,hq,hr⟩:=h
   exact ⟨L,zs,rfl,hf,zdb.stays s q hq,za5.stays s l hr⟩
theorem za5.one {w:World} {P:Nat→Prop} {k:Int} {b:Bool} {n:Int} {t x:ByteArray} {q:List Val} {L:Value} (hf:Fine n t x q.length) (hq:zdb w P L q):za5 w P [.int .i64 k,.bool b,.int .i64 n,.string t,.string x,L] [.mk k b n t x q]:=by
 unfold za5
 exact ⟨L,[],rfl,hf,hq,by unfold za5;rfl⟩
theorem za5.holds {w:World} {P:Nat→Prop} {g:Nat}:{xs:List Value}→(l:List Val)→(off:Nat)→za5 w P xs l→(∀ (j:Nat) u,xs[j]?=some u→w.cell? ⟨g,off+j,none⟩=some u)→zcq w P g off l
 | _,[],_,_,_=>by unfold zcq;trivial
 | _,.mk k b n t x q::l,off,h,hc=>by
   unfold za5 at h
   obtain ⟨L,zs,rfl,hf,hq,hr⟩:=h
   unfold zcq zbq
   refine ⟨⟨hc 0 _ rfl,hc 1 _ rfl,hc 2 _ rfl,hc 3 _ rfl,hc 4 _ rfl,hf,L,hc 5 _ rfl,hq⟩,za5.holds l (off+6) hr fun j u hj=>?_⟩
   have:=hc (j+6) u hj
   rw [show off+6+j=off+(j+6) by omega]
   exact this
theorem zoz {w:World} {base:Nat} {P P':Nat→Prop} {V:Value} {xs:List Value} {l:List Val} (h:w.ownsRow base 39 6 V l.length xs) (c:za5 w P xs l) (s:∀ g,P g→P' g) (hP:∀ g,V.ownBlock=some g→P' g):zdb w P' V l:=by
 have c':za5 w P' xs l:=c.stays (fun g hg=>⟨s g hg,rfl⟩) l
 rcases h.2 with ⟨rfl,hn⟩ | ⟨g,cap,cur,rfl,hb,hg,hcap,_,hsz,htk⟩
 ·obtain rfl:=List.length_eq_zero_iff.1 hn
  unfold zdb
  exact ⟨none,0,rfl⟩
 ·have hh:zcq w P' g 0 l:=c'.holds l 0 fun j u hj=>by
   have e:cur[j]?=some u:=by
    rw [← htk,List.getElem?_take] at hj
    split at hj
    ·rw [← Array.getElem?_toList];exact hj
    ·cases hj
   rw [Nat.zero_add]
   exact zab hg j e
  cases l with
  | nil=>
    unfold zdb
    exact ⟨_,cap,rfl⟩
  | cons v r=>
    unfold zcq at hh
    unfold zdb
    exact ⟨g,0,cap,rfl,hP g rfl,hh.1,hh.2⟩
end Go.Proofs.YtanbgdhmfjgihaaGreatDoor

/- LB -/
namespace Go.Proofs
open Go.Shelf
def Tryz.laysM316_ren:Go.Shelf.Ren:=⟨fun | 316=>119 | n=>n,fun | 9=>9 | 3=>3 | 4=>4 | 37=>163 | 0=>0 | 127=>190 | 5=>5 | n=>n,fun | n=>n⟩
theorem Tryz.laysM316:Go.Proofs.LaysM.n316 Tryz.prog Tryz.laysM316_ren:={
 mixed:=by kernel_rfl
 f316:=Tryz.func119.trans (congrArg some (by kernel_rfl))
 t0:=Tryz.underlying0
 a0:=Tryz.isAgg0
 z0:=Tryz.sizeOf0
 v0:=Tryz.zeroValue0
 t3:=Tryz.underlying3
 a3:=Tryz.isAgg3
 z3:=Tryz.sizeOf3
 v3:=Tryz.zeroValue3
 t4:=Tryz.underlying4
 a4:=Tryz.isAgg4
 z4:=Tryz.sizeOf4
 v4:=Tryz.zeroValue4
 t9:=Tryz.underlying9
 a9:=Tryz.isAgg9
 z9:=Tryz.sizeOf9
 v9:=Tryz.zeroValue9
 t37:=Tryz.underlying163
 a37:=Tryz.isAgg163
 z37:=Tryz.sizeOf163
 v37:=Tryz.zeroValue163
 t127:=Tryz.underlying190
 a127:=Tryz.isAgg190
 z127:=Tryz.sizeOf190
 v127:=Tryz.zeroValue190
 t5:=Tryz.underlying5
 a5:=Tryz.isAgg5
 z5:=Tryz.sizeOf5
 v5:=Tryz.zeroValue5
 i0:=by kernel_rfl
 i3:=by kernel_rfl
 i4:=by kernel_rfl
 i5:=by kernel_rfl
 i9:=by kernel_rfl
 i37:=by kernel_rfl
 i127:=by kernel_rfl }
namespace YtanbgdhmfjgihaaGreatDoor
open Go.RowKit
theorem slClone (s:ByteArray) (w:World) (h2:s.size≤281474976710656):Calls Tryz.prog 119 #[.string s] w fun e w'=>e=.returned (.string s)∧Below w.heap.size w w':=Any.stringslite_Clone Tryz.laysM316 s w h2
theorem zu4 (s:ByteArray) (w:World) (h2:s.size≤281474976710656):
 Calls Tryz.prog 94 #[.string s] w fun e w'=>e=.returned (.string s)∧Below w.heap.size w w':=by
 go_enter Tryz.func94,Tryz.ntmps94
 go_wp2_with (go_at_call 119;(with_reducible refine (slClone s _ h2).mono ?_);rintro e w' ⟨rfl,hb⟩)
 go_ret
 exact ⟨rfl,hb⟩
end YtanbgdhmfjgihaaGreatDoor
end Go.Proofs

/- TO -/
namespace Go.Proofs.YtanbgdhmfjgihaaGreatDoor
open Go.RowKit
set_option maxHeartbeats 3200000 in
set_option maxRecDepth 20000 in
theorem ownAt (k:Int) (b:Bool) (n:Int) (t x:ByteArray) (p:Option Addr) (len cap:Nat) (w:World) (ht:t.size≤2097152) (hx:x.size≤2097152):
 Calls Tryz.prog 63 #[.agg #[.int .i64 k,.bool b,.int .i64 n,.string t,.string x,.slice p len cap]] w fun e w'=>e=.returned (.agg #[.int .i64 k,.bool b,.int .i64 n,.string t,.string x,.slice none 0 0])∧Below w.heap.size w w':=by
 obtain ⟨w1,hw1⟩:∃ w1,w1=(w.alloc (.cells #[.int .i64 k,.bool b,.int .i64 n,.string t,.string x,.slice p len cap] 39)).alloc (.cells #[.int .i64 0,.bool false,.int .i64 0,.string ⟨#[]⟩,.string ⟨#[]⟩,.slice none 0 0] 39):=⟨_,rfl⟩
 have u1:Six w1 w.heap.size k b n t x p len cap:=by rw [hw1];exact (zaf _ rfl).alloc _
 have u2:Six w1 (w.heap.size+1) 0 false 0 ⟨#[]⟩ ⟨#[]⟩ none 0 0:=by rw [hw1];exact zaf _ (by simp)
 have bw:Below w.heap.size w w1:=by rw [hw1];exact zfl _ _ _
 have HCL:=Lib.hid (fun W=>zu4 t W (by omega))
 have HCX:=Lib.hid (fun W=>zu4 x W (by omega))
 have HW:=Lib.hid hw1
 clear hw1 ht hx
 go_enter Tryz.func63,Tryz.ntmps63
 go_upto_region 1 with fail
 rw [← HW.out]
 refine wp_region_held_drew (S:=fun W=>∃ p' n' c',Six W w.heap.size k b n t x p' n' c') (by kernel_rfl) ⟨p,len,cap,u1⟩ (fun hHeld=>?_)
 replace bw:=bw.drew
 replace u1:Six w1.drew w.heap.size k b n t x p len cap:=u1
 replace u2:Six w1.drew (w.heap.size+1) 0 false 0 ⟨#[]⟩ ⟨#[]⟩ none 0 0:=u2
 refine tg (i:=0) (.pointer (some ⟨w.heap.size,3,none⟩)) rfl hHeld ?_
 refine tg (i:=3) (.pointer (some ⟨w.heap.size,4,none⟩)) rfl hHeld ?_
 refine tk (i:=1) (v:=.string t) rfl (Or.inl ⟨by rfl,fun W ⟨_,_,_,h⟩=>by have c0:=h.c3;go_simp⟩) hHeld ?_
 refine tk (i:=4) (v:=.string x) rfl (Or.inl ⟨by rfl,fun W ⟨_,_,_,h⟩=>by have c0:=h.c4;go_simp⟩) hHeld ?_
 clear hHeld
 refine tr 2 rfl (fun K hK=>?_)
 rw [if_pos (by rfl)]
 go_simp
 refine (HCL.out _).mono ?_
 rintro e0 w3 ⟨rfl,hb3⟩
 replace u1:=u1.below hb3
 replace u2:=u2.below hb3
 replace bw:=zak bw hb3 bw.size
 refine hK.out _ _ ⟨_,_,_,u1⟩ (fun _=>?_)
 clear hK K hb3
 try simp only [putS]
 refine tg (i:=6) (.pointer (some ⟨w.heap.size,3,none⟩)) rfl ⟨_,_,_,u1⟩ ?_
 refine tr 5 rfl (fun K hK=>?_)
 rw [if_pos (by rfl)]
 go_simp
 refine (HCX.out _).mono ?_
 rintro e0 w3 ⟨rfl,hb3⟩
 replace u1:=u1.below hb3
 replace u2:=u2.below hb3
 replace bw:=zak bw hb3 bw.size
 refine hK.out _ _ ⟨_,_,_,u1⟩ (fun _=>?_)
 clear hK K hb3
 try simp only [putS]
 refine tr 7 rfl (fun K hK=>?_)
 have c0:=u1.c3
 have f0:=u1.free 3
 go_simp
 replace bw:=zfm (e:=w.heap.size) (o:=3) bw none (.string t) (Nat.le_refl _) bw.size
 replace u2:=u2.only ((Only.refl w.heap.size _).setCell 3 none (.string t)) (by omega)
 replace u1:=u1.set3 t
 refine hK.out _ _ ⟨_,_,_,u1⟩ (fun _=>?_)
 clear hK K c0 f0
 try simp only [putS]
 refine tg (i:=8) (.pointer (some ⟨w.heap.size,4,none⟩)) rfl ⟨_,_,_,u1⟩ ?_
 refine tr 9 rfl (fun K hK=>?_)
 have c0:=u1.c4
 have f0:=u1.free 4
 go_simp
 replace bw:=zfm (e:=w.heap.size) (o:=4) bw none (.string x) (Nat.le_refl _) bw.size
 replace u2:=u2.only ((Only.refl w.heap.size _).setCell 4 none (.string x)) (by omega)
 replace u1:=u1.set4 x
 refine hK.out _ _ ⟨_,_,_,u1⟩ (fun _=>?_)
 clear hK K c0 f0
 try simp only [putS]
 refine tg (i:=10) (.pointer (some ⟨w.heap.size,5,none⟩)) rfl ⟨_,_,_,u1⟩ ?_
 refine tr 11 rfl (fun K hK=>?_)
 have c0:=u1.c5
 have f0:=u1.free 5
 go_simp
 replace bw:=zfm (e:=w.heap.size) (o:=5) bw none (.slice none 0 0) (Nat.le_refl _) bw.size
 replace u2:=u2.only ((Only.refl w.heap.size _).setCell 5 none (.slice none 0 0)) (by omega)
 replace u1:=u1.set5 none 0 0
 refine hK.out _ _ ⟨_,_,_,u1⟩ (fun _=>?_)
 clear hK K c0 f0
 try simp only [putS]
 refine wpAnyH_done (by kernel_rfl) ?_ _
 go_wp2_with (first
  |((with_reducible refine zaa (.tmp 1) w.heap.size u1 ?_ ?_ ?_ ?_);rfl;rfl;rfl)
  |((with_reducible refine zat (k':=k) (b':=b) (n':=n) (t':=t) (x':=x) (p':=none) (len':=0) (cap':=0) (.tmp 2) (.tmp 12) (w.heap.size+1) u2 ?_ ?_ ?_ ?_ ?_);rfl;rfl;rfl;rfl;intro w5 ho5 u5;have b5:=zag bw ho5 (Nat.le_succ _) bw.size))
 exact bodyPost_ret (v:=.agg #[.int .i64 k,.bool b,.int .i64 n,.string t,.string x,.slice none 0 0]) (results_cell_row (p:=2) (ty:=39) Tryz.results63 _ _ (w.heap.size+1) 39 _ (0,0) _ rfl u5 Tryz.underlying39 rfl (by exact zas)) rfl ⟨rfl,b5⟩
end Go.Proofs.YtanbgdhmfjgihaaGreatDoor

/- WI -/
namespace Go.Proofs.YtanbgdhmfjgihaaGreatDoor
open Go.RowKit
set_option maxHeartbeats 3200000 in
set_option maxRecDepth 20000 in
theorem zw0 (g j:Nat) (u v:V6) (z:Int) (w:World)
 (h64:∀ W,Low w.heap.size w W→Calls Tryz.prog 64 #[.pointer (some ⟨g,0,none⟩),.int .i64 j] W fun e w'=>e=.returned (.agg #[.int .i64 v.k,.bool v.b,.int .i64 v.n,.string v.t,.string v.x,.slice v.p v.len v.cap])∧Low W.heap.size W w')
 (h74:∀ W,Low w.heap.size w W→Calls Tryz.prog 74 #[.agg #[.int .i64 v.k,.bool v.b,.int .i64 v.n,.string v.t,.string v.x,.slice v.p v.len v.cap],.agg #[.int .i64 u.k,.bool u.b,.int .i64 u.n,.string u.t,.string u.x,.slice u.p u.len u.cap]] W fun e w'=>e=.returned (.int .i64 z)∧Low W.heap.size W w'):
 Calls Tryz.prog 61 #[.agg #[.pointer (some ⟨g,0,none⟩),.int .i64 u.k,.bool u.b,.int .i64 u.n,.string u.t,.string u.x,.slice u.p u.len u.cap],.int .i64 j] w fun e w'=>e=.returned (.bool (decide (z < 0)))∧Low w.heap.size w w':=by
 obtain ⟨W1,hW1⟩:∃ W1,W1=w.alloc (.cells #[.pointer (some ⟨g,0,none⟩),.int .i64 u.k,.bool u.b,.int .i64 u.n,.string u.t,.string u.x,.slice u.p u.len u.cap] 101):=⟨_,rfl⟩
 have B:W1.heap[w.heap.size]?=some (.cells #[.pointer (some ⟨g,0,none⟩),.int .i64 u.k,.bool u.b,.int .i64 u.n,.string u.t,.string u.x,.slice u.p u.len u.cap] 101):=by rw [hW1];exact zah _ _ rfl
 have b0:Low w.heap.size w W1:=by rw [hW1];exact low1 _ _
 have BB:∀ W,Low W1.heap.size W1 W→W.heap[w.heap.size]?=some (.cells #[.pointer (some ⟨g,0,none⟩),.int .i64 u.k,.bool u.b,.int .i64 u.n,.string u.t,.string u.x,.slice u.p u.len u.cap] 101):=fun W h=>(h.block _ (zac B)).trans B
 have KB0:Hid (∀ W,Low W1.heap.size W1 W→W.cell? ⟨w.heap.size,0,none⟩=some (.pointer (some ⟨g,0,none⟩))):=Lib.hid fun W h=>zab (BB W h) 0 rfl
 have KB1:Hid (∀ W,Low W1.heap.size W1 W→W.rangeAt w.heap.size 1 [.int .i64 u.k,.bool u.b,.int .i64 u.n,.string u.t,.string u.x,.slice u.p u.len u.cap]):=Lib.hid fun W h=>zcy (zab (BB W h) 1 rfl) (zab (BB W h) 2 rfl) (zab (BB W h) 3 rfl) (zab (BB W h) 4 rfl) (zab (BB W h) 5 rfl) (zab (BB W h) 6 rfl)
 have H64:=Lib.hid h64
 have H74:=Lib.hid h74
 have HW:=Lib.hid hW1
 clear hW1 h64 h74 BB
 go_enter Tryz.func61,Tryz.ntmps61
 go_upto_region 1 with fail
 rw [← HW.out]
 refine wp_region_held_drew (S:=fun W=>Low W1.heap.size W1 W) (by kernel_rfl) (Low.refl _ _).drew (fun hHeld=>?_)
 refine tg (i:=0) (.pointer (some ⟨w.heap.size,0,none⟩)) rfl hHeld ?_
 refine tk (i:=1) (v:=.pointer (some ⟨g,0,none⟩)) rfl (Or.inl ⟨by rfl,fun W h=>by have c0:=KB0.out W h;go_simp⟩) hHeld ?_
 refine tg (i:=2) (.int .i64 j) rfl hHeld ?_
 refine tg (i:=4) (.pointer (some ⟨w.heap.size,1,none⟩)) rfl hHeld ?_
 refine tk (i:=5) rfl (yieldsIf_load_mid (by rfl) 39 (.tmp 9) rfl w.heap.size 1 rfl [.int .i64 u.k,.bool u.b,.int .i64 u.n,.string u.t,.string u.x,.slice u.p u.len u.cap] _ (fun w h=>KB1.out w h) Tryz.underlying39 rfl zas) hHeld ?_
 refine tr 3 rfl (fun K hK=>?_)
 rw [if_pos (by rfl)]
 go_simp
 refine (H64.out _ (b0.trans (hHeld.mono b0.size))).mono ?_
 rintro e0 w3 ⟨rfl,hb3⟩
 have hH2:=zad hHeld hb3 hHeld.size
 clear hb3
 refine hK.out _ _ hH2 (fun hH2=>?_)
 clear hK K
 try simp only [putS]
 refine tr 6 rfl (fun K hK=>?_)
 rw [if_pos (by rfl)]
 go_simp
 refine (H74.out _ (b0.trans (hH2.mono b0.size))).mono ?_
 rintro e0 w3 ⟨rfl,hb3⟩
 have hH3:=zad hH2 hb3 hH2.size
 clear hb3
 refine hK.out _ _ hH3 (fun hH3=>?_)
 clear hK K
 try simp only [putS]
 refine tg (i:=7) (.bool (decide (z < 0))) rfl hH3 ?_
 refine tg (i:=8) (.bool (decide (z < 0))) rfl hH3 ?_
 refine wpAnyH_done (by kernel_rfl) ?_ _
 go_wp2_with fail
 go_ret
 exact ⟨rfl,b0.trans (hH3.mono b0.size)⟩
def SM.less (s:SM) (u:Val) (k v j:Nat):Bool:=decide (zan 1 ((s.vs[s.num k v j]?).getD (.mk 0 false 0 ⟨#[]⟩ ⟨#[]⟩ [])) u < 0)
theorem aheadC {W0 W:World} {s:SM} {g k:Nat} {c:CS} (h:At W0 s W g c k) (ok:SMok s) (hG:Gd W) (hT:Tab W) (h1:1≤c.d) (h3:c.d≤3) (u:V6) (uv:Val) (q:List Val) (hu:Is W u uv q) (j:Nat) (hj:j < c.n):
 Calls Tryz.prog 61 #[.agg #[.pointer (some ⟨g,0,none⟩),.int .i64 u.k,.bool u.b,.int .i64 u.n,.string u.t,.string u.x,.slice u.p u.len u.cap],.int .i64 j] W fun e w'=>e=.returned (.bool (s.less uv k c.lev j))∧Low W.heap.size W w':=by
 obtain ⟨v,q2,i1,hv⟩:=zyc h ok h1 h3 j hj
 have hm:=s.num_lt ok k c.lev j (by have:=h.n;omega)
 have hl:s.less uv k c.lev j=decide (zan 1 s.vs[s.num k c.lev j] uv < 0):=by
  unfold SM.less
  rw [List.getElem?_eq_getElem hm,Option.getD_some]
 rw [hl]
 obtain ⟨k0,b0,n0,t0,x0,p0,len0,cap0⟩:=v
 obtain ⟨k2,b2,n2,t2,x2,p2,len2,cap2⟩:=u
 obtain ⟨e1,l1,f1,d1⟩:=i1
 obtain ⟨e2,l2,f2,d2⟩:=hu
 simp only at e1 l1 f1 d1 e2 l2 f2 d2
 subst l1 l2
 refine zw0 g j ⟨k2,b2,n2,t2,x2,p2,q.length,cap2⟩ ⟨k0,b0,n0,t0,x0,p0,q2.length,cap0⟩ _ W hv (fun W' b=>zmx _ _ W' k0 b0 n0 t0 x0 q2 p0 cap0 k2 b2 n2 t2 x2 q p2 cap2 e1 e2 (hG.below b.is) (hT.below b.is) f1 f2 (Held.below q2 d1 b.is) (Held.below q d2 b.is))
end Go.Proofs.YtanbgdhmfjgihaaGreatDoor

/- WJ -/
namespace Go.Proofs.YtanbgdhmfjgihaaGreatDoor
open Go.RowKit
theorem zh9 {ops:Array Oper} {rest:List Oper} {o:Oper} {a:Act} {w:World} {Q:Exit→Act→World→Prop} {p q:Value} (u v:Int) (y z:Operand) (g:Nat) (hg:w.heap[g]?=some (.cells #[p,q] 90))
 (hgd:o.guard=none) (ho:o.op=.store 90 y z) (hx:a.eval y=.pointer (some ⟨g,0,none⟩)) (hy:a.eval z=.agg #[.int .i64 u,.int .i64 v])
 (h:wpList Tryz.prog ops Q rest (a.put o.dst undef) (w.setRow g #[.int .i64 u,.int .i64 v])):wpList Tryz.prog ops Q (o::rest) a w:=
 wpList_store_row hgd 90 y z ho g #[.int .i64 u,.int .i64 v] hx hy 90 _ hg zb9 rfl (by simp [Value.oneCell']) h
theorem zre (g:Nat) (b0:Value) (eg:∀ args w,(callFunc g args).run Tryz.prog w=.ok (.enter g args) w) (a e:Nat) (p:Nat→Bool) (w:World) (he:e < 1099511627776)
 (mono:∀ i j,a≤i→i≤j→j < e→p j=true→p i=true)
 (hf:∀ W,Low w.heap.size w W→∀ j:Nat,a≤j→j < e→Calls Tryz.prog g #[b0,.int .i64 j] W fun x w'=>x=.returned (.bool (p j))∧Low W.heap.size W w'):
 Calls Tryz.prog 91 #[.agg #[.int .i64 a,.int .i64 e],.func (.func g) #[b0] #[]] w fun x w'=>x=.returned (.int .i64 (gal p a (e - a):Nat))∧Low w.heap.size w w':=by
 by_cases h:a < e
 ·cases hp:p a with
  | true=>exact zr3 g b0 eg a e p w h hp he mono hf
  | false=>
    have hz:gal p a (e - a)=a:=by
     rw [show e - a=(e - a - 1)+1 by omega,gal,if_neg (by rw [hp];exact Bool.false_ne_true)]
    rw [hz]
    exact zr2 g b0 eg a e w h fun W b=>by have:=hf W b a (Nat.le_refl _) h;rwa [hp] at this
 ·rw [show e - a=0 by omega,gal]
  exact zr1 g b0 a e w (by omega)
theorem eg59:∀ args w,(callFunc 59 args).run Tryz.prog w=.ok (.enter 59 args) w:=enters_of Tryz.func59 (by kernel_rfl) rfl
theorem eg61:∀ args w,(callFunc 61 args).run Tryz.prog w=.ok (.enter 61 args) w:=enters_of Tryz.func61 (by kernel_rfl) rfl
set_option maxHeartbeats 3200000 in
set_option maxRecDepth 20000 in
theorem zw1 (g a e r d:Nat) (w:World) (hd:1≤d) (hd3:d≤3) (k11:w.cell? ⟨g,11,none⟩=some (.int .i64 d))
 (h65:∀ W,Low w.heap.size w W→Calls Tryz.prog 65 #[.pointer (some ⟨g,0,none⟩)] W fun e' w'=>e'=.returned (.agg #[.int .i64 a,.int .i64 e])∧Low W.heap.size W w')
 (h91:∀ W,Low w.heap.size w W→Calls Tryz.prog 91 #[.agg #[.int .i64 a,.int .i64 e],.func (.func 59) #[.pointer (some ⟨g,0,none⟩)] #[]] W fun e' w'=>e'=.returned (.int .i64 r)∧Low W.heap.size W w'):
 Calls Tryz.prog 55 #[.pointer (some ⟨g,0,none⟩)] w fun e' w'=>e'=.returned (.agg #[.int .i64 a,.int .i64 r])∧Low w.heap.size w w':=by
 obtain ⟨W1,hW1⟩:∃ W1,W1=w.alloc (.cells #[.int .i64 0,.int .i64 0] 90):=⟨_,rfl⟩
 have BR:W1.heap[w.heap.size]?=some (.cells #[.int .i64 0,.int .i64 0] 90):=by rw [hW1];exact zah _ _ rfl
 have b0:Low w.heap.size w W1:=by rw [hW1];exact low1 _ _
 have c11:W1.cell? ⟨g,11,none⟩=some (.int .i64 d):=(b0.cell (p:=⟨g,11,none⟩) (World.block_lt_of_cell? w _ k11)).trans k11
 have e1:((d:Int) == 0)=false:=by simp;omega
 have H65:=Lib.hid h65
 have HG:=Lib.hid h91
 have HW:=Lib.hid hW1
 clear hW1 h65 h91
 go_enter Tryz.func55,Tryz.ntmps55
 go_upto_region 4 with (first
  |(go_at_call 65;(with_reducible refine (H65.out _ b0).mono ?_);rintro e0 w3 ⟨rfl,hb3⟩;replace b0:=zad b0 hb3 b0.size;replace BR:=(hb3.block _ (zac BR)).trans BR;clear hb3 c11)
  |(rw [← HW.out]))
 have hne:w3.heap.size≠w.heap.size:=by have:=zac BR;omega
 generalize hw4:w3.alloc (Obj.cells #[Value.int IntKind.i64 a,Value.int IntKind.i64 e] 90)=w4
 have KB:w4.heap[w3.heap.size]?=some (.cells #[.int .i64 a,.int .i64 e] 90):=by rw [← hw4];exact zah _ _ rfl
 replace b0:Low w.heap.size w w4:=by rw [← hw4];exact b0.alloc b0.size _
 replace BR:w4.heap[w.heap.size]?=some (.cells #[.int .i64 0,.int .i64 0] 90):=by rw [← hw4];exact zaw _ BR
 generalize w3.heap.size=b3 at*
 clear hw4
 refine wp_region_held_drew (S:=fun W=>W.heap[b3]?=some (.cells #[.int .i64 a,.int .i64 e] 90)) (by kernel_rfl) KB (fun hHeld=>?_)
 refine tg (i:=0) (.pointer (some ⟨b3,0,none⟩)) rfl hHeld ?_
 refine tk (i:=1) (v:=.int .i64 a) rfl (Or.inl ⟨by rfl,fun W h=>by have c0:=zab h 0 rfl;go_simp⟩) hHeld ?_
 refine tk (i:=2) rfl (yieldsIf_load_mid (by rfl) 90 (.tmp 3) rfl b3 0 rfl [.int .i64 a,.int .i64 e] _ (fun w h=>zio h) Tryz.underlying90 rfl zb9) hHeld ?_
 refine tg (i:=3) (.pointer (some ⟨g,0,none⟩)) rfl hHeld ?_
 refine tg (i:=4) (.func (.func 59) #[.pointer (some ⟨g,0,none⟩)] #[]) rfl hHeld ?_
 refine tr 5 rfl (fun K hK=>?_)
 rw [if_pos (by rfl)]
 go_simp
 refine (HG.out _ b0.drew).mono ?_
 rintro e0 w3 ⟨rfl,hb3⟩
 have b1:=zad b0.drew hb3 b0.size
 have KB2:=(hb3.block _ (zac KB)).trans KB
 have BR2:=(hb3.block _ (zac BR)).trans BR
 clear hb3
 refine hK.out _ _ KB2 (fun hH2=>?_)
 clear hK K
 try simp only [putS]
 refine tg (i:=6) (.agg #[.int .i64 a,.int .i64 r]) rfl hH2 ?_
 refine tr 7 rfl (fun K hK=>?_)
 rw [if_pos (by rfl)]
 have b2:=zbn b1 (Only.setRow (b:=w.heap.size) w3 #[.int .i64 a,.int .i64 r]) (Nat.le_refl _) b1.size
 have KB3:=((Only.setRow (b:=w.heap.size) w3 #[.int .i64 a,.int .i64 r]).block b3 (zac KB2) hne).trans KB2
 refine wp_store_row 90 (.tmp 2) (.tmp 23) rfl w.heap.size #[.int .i64 a,.int .i64 r] rfl rfl 90 _ BR2 zb9 rfl (by simp [Value.oneCell']) ?_
 have u5:=za6 (w:=w3) (g:=w.heap.size) (c':=#[.int .i64 a,.int .i64 r]) BR2
 generalize w3.setRow w.heap.size #[.int .i64 a,.int .i64 r]=w5 at*
 refine hK.out _ _ KB3 (fun _=>?_)
 clear hK K
 refine wpAnyH_done (by kernel_rfl) ?_ _
 go_wp2_with fail
 exact bodyPost_ret (v:=.agg #[.int .i64 a,.int .i64 r]) (results_cell_row (p:=2) (ty:=90) Tryz.results55 _ _ w.heap.size 90 _ (0,0) _ rfl u5 Tryz.underlying90 rfl (by exact zb9)) rfl ⟨rfl,b2⟩
def SM.same (s:SM) (k v a j:Nat):Bool:=s.num k v j == s.num k v a
def CS.bot (c:CS) (s:SM) (k:Nat):Nat:=gal (s.same k c.lev c.pos) c.pos (c.fin - c.pos)
theorem belowC {W0 W:World} {s:SM} {g k:Nat} {c:CS} (h:At W0 s W g c k) (ok:SMok s) (h1:1≤c.d) (h3:c.d≤3) (hf:c.fin≤c.n)
 (mono:∀ i j,c.pos≤i→i≤j→j < c.fin→s.same k c.lev c.pos j=true→s.same k c.lev c.pos i=true):
 Calls Tryz.prog 55 #[.pointer (some ⟨g,0,none⟩)] W fun e w'=>e=.returned (.agg #[.int .i64 c.pos,.int .i64 (c.bot s k)])∧Low W.heap.size W w':=by
 have hn:=h.n
 have hl:=ok.nl k
 refine zw1 g c.pos c.fin (c.bot s k) c.d W h1 h3 h.B.c11 (fun W' b=>zu2 (h.low b) h1 h3) (fun W' b=>?_)
 exact zre 59 _ eg59 c.pos c.fin (s.same k c.lev c.pos) W' (by omega) mono (fun W2 b2 j hj hj2=>zyb ((h.low b).low b2) ok h1 h3 j (by omega) (by omega))
set_option maxHeartbeats 3200000 in
set_option maxRecDepth 20000 in
theorem zw2 {W:World} {g:Nat} {c:CS} (B:Cur W g c) (h0:c.d=0):
 Calls Tryz.prog 55 #[.pointer (some ⟨g,0,none⟩)] W fun e w'=>e=.returned (.agg #[.int .i64 0,.int .i64 c.n])∧Low W.heap.size W w':=by
 obtain ⟨W1,hW1⟩:∃ W1,W1=W.alloc (.cells #[.int .i64 0,.int .i64 0] 90):=⟨_,rfl⟩
 have BR:W1.heap[W.heap.size]?=some (.cells #[.int .i64 0,.int .i64 0] 90):=by rw [hW1];exact zah _ _ rfl
 have b0:Low W.heap.size W W1:=by rw [hW1];exact low1 _ _
 have B1:=B.low b0
 have c11:W1.cell? ⟨g,11,none⟩=some (.int .i64 0):=by have:=B1.c11;rw [h0] at this;exact this
 have c1:W1.cell? ⟨g,1,none⟩=some (.slice c.pl c.n c.cl):=B1.cell 1 _ rfl
 have b2:=zbn b0 (Only.setRow (b:=W.heap.size) W1 #[.int .i64 0,.int .i64 c.n]) (Nat.le_refl _) b0.size
 have u5:=za6 (w:=W1) (g:=W.heap.size) (c':=#[.int .i64 0,.int .i64 c.n]) BR
 have HW:=Lib.hid hW1
 clear hW1 B B1 b0
 go_enter Tryz.func55,Tryz.ntmps55
 go_upto_region 1 with fail
 rw [← HW.out]
 go_wp2_with ((with_reducible refine zh9 0 c.n (.tmp 2) (.tmp 14) W.heap.size BR ?_ ?_ ?_ ?_ ?_);rfl;rfl;rfl;rfl;generalize W1.setRow W.heap.size #[.int .i64 0,.int .i64 c.n]=w5 at *)
 exact bodyPost_ret (v:=.agg #[.int .i64 0,.int .i64 c.n]) (results_cell_row (p:=2) (ty:=90) Tryz.results55 _ _ W.heap.size 90 _ (0,0) _ rfl u5 Tryz.underlying90 rfl (by exact zb9)) rfl ⟨rfl,b2⟩
end Go.Proofs.YtanbgdhmfjgihaaGreatDoor
