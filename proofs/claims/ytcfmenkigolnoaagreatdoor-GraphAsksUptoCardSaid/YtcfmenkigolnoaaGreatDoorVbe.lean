/- Texts of one kind, one behind the other: each says ahead of itself what it shows. -/
import Derived.Test.YtcfmenkigolnoaaGreatDoorVba
import Derived.Test.YtcfmenkigolnoaaGreatDoorVan
import Derived.Test.YtcfmenkigolnoaaGreatDoorVay
/- GOR -/
namespace Go.Proofs.YtcfmenkigolnoaaGreatDoor
open Go.RowKit
def OwnL (w:World) (N:Nat) (V:Value) (q:List Val):Prop:=∃ xs,w.ownsRow (N+2) 60 6 V q.length xs∧RowE valE w (fun g=>N+1 < g∧g < w.heap.size) xs q
theorem zdy {w:World} {N i:Nat} {V v:Value} {q:List Val} (h:OwnL w N V q):OwnL (w.setCell ⟨N,i,none⟩ v) N V q:=by
 obtain ⟨xs,h1,h2⟩:=h
 exact ⟨xs,ownsRow_setCell_below h1 (show N < N+2 by omega) _,h2.stays fun g hg=>⟨⟨hg.1,by simpa using hg.2⟩,Below.heap_setCell _ _ _ _ (by show g≠N;have:=hg.1;omega)⟩⟩
theorem zjq {w w':World} {N:Nat} {V:Value} {q:List Val} (h:OwnL w N V q) (ho:Only (N+1) w w'):OwnL w' N V q:=by
 obtain ⟨xs,h1,h2⟩:=h
 exact ⟨xs,zec h1 ho (by omega),h2.stays fun g hg=>⟨⟨hg.1,Nat.lt_of_lt_of_le hg.2 ho.size⟩,ho.block g hg.2 (by have:=hg.1;omega)⟩⟩
set_option maxHeartbeats 6400000 in
set_option maxRecDepth 20000 in
theorem zyq (k:Int) (b:Bool) (n:Int) (t x:ByteArray) (q:List Val) (p:Option Addr) (cap:Nat) (w:World) (hf:Fine n t x q.length) (hl:za9 w (Old w) (.slice p q.length cap) q) (each:∀ v∈q,OwnV v):
 Calls Tryz.prog 59 #[.agg #[.int .i64 k,.bool b,.int .i64 n,.string t,.string x,.slice p q.length cap]] w fun e w'=>∃ V,e=.returned (.agg #[.int .i64 k,.bool b,.int .i64 n,.string t,.string x,V])∧OwnL w' w.heap.size V q∧Below w.heap.size w w':=by
 obtain ⟨w1,hw1⟩:∃ w1,w1=(w.alloc (.cells #[.int .i64 k,.bool b,.int .i64 n,.string t,.string x,.slice p q.length cap] 60)).alloc (.cells #[.int .i64 0,.bool false,.int .i64 0,.string ⟨#[]⟩,.string ⟨#[]⟩,.slice none 0 0] 60):=⟨_,rfl⟩
 have u1:Six w1 w.heap.size k b n t x p q.length cap:=by rw [hw1];exact (zal _ rfl).alloc _
 have u2:Six w1 (w.heap.size+1) 0 false 0 ⟨#[]⟩ ⟨#[]⟩ none 0 0:=by rw [hw1];exact zal _ (by simp)
 have bw:Below w.heap.size w w1:=by rw [hw1];exact zbi _ _ _
 have HCL:=Lib.hid (fun W=>zf3 t W (by have:=hf.ht;omega))
 have HCX:=Lib.hid (fun W=>zf3 x W (by have:=hf.hx;omega))
 have HLL:Hid (∀ W,Below w.heap.size w W→Calls Tryz.prog 94 #[.slice p q.length cap,.func (.func 59) #[] #[]] W (zbg valE 60 W q)):=
  Lib.hid fun W hb=>zuc q _ W (za9.stays (zad hb) q hl) hf.hn each
 have HW:=Lib.hid hw1
 clear hw1 hf hl each
 go_enter Tryz.func59,Tryz.ntmps59
 go_upto_region 1 with fail
 rw [← HW.out]
 refine wp_region_held_drew (S:=fun W=>∃ p' n' c',Six W w.heap.size k b n t x p' n' c') (by kernel_rfl) ⟨p,q.length,cap,u1⟩ (fun hHeld=>?_)
 replace bw:=bw.drew
 replace u1:Six w1.drew w.heap.size k b n t x p q.length cap:=u1
 replace u2:Six w1.drew (w.heap.size+1) 0 false 0 ⟨#[]⟩ ⟨#[]⟩ none 0 0:=u2
 refine tg (i:=0) (.pointer (some ⟨w.heap.size,3,none⟩)) rfl hHeld ?_
 refine tg (i:=3) (.pointer (some ⟨w.heap.size,4,none⟩)) rfl hHeld ?_
 refine tg (i:=6) (.pointer (some ⟨w.heap.size,5,none⟩)) rfl hHeld ?_
 refine tk (i:=1) (v:=.string t) rfl (Or.inl ⟨by rfl,fun W ⟨_,_,_,h⟩=>by have c0:=h.c3;go_simp⟩) hHeld ?_
 refine tk (i:=4) (v:=.string x) rfl (Or.inl ⟨by rfl,fun W ⟨_,_,_,h⟩=>by have c0:=h.c4;go_simp⟩) hHeld ?_
 clear hHeld
 refine wpAnyH_ready (rs:=[2,7]) (by kernel_rfl) (by simp) ?_
 refine AllReadyH.cons rfl (fun K hK=>?_) (AllReadyH.cons rfl (fun K hK=>?_) AllReadyH.nil)
 ·rw [if_pos (by rfl)]
  go_simp
  refine (HCL.out _).mono ?_
  rintro e0 w3 ⟨rfl,hb3⟩
  replace u1:=u1.below hb3
  replace u2:=u2.below hb3
  replace bw:=zab bw hb3 bw.size
  refine hK.out _ _ ⟨_,_,_,u1⟩ (fun _=>?_)
  clear hK K hb3
  try simp only [putS]
  refine wpAnyH_ready (rs:=[5,7]) (by kernel_rfl) (by simp) ?_
  refine AllReadyH.cons rfl (fun K hK=>?_) (AllReadyH.cons rfl (fun K hK=>?_) AllReadyH.nil)
  ·rw [if_pos (by rfl)]
   go_simp
   refine (HCX.out _).mono ?_
   rintro e0 w3 ⟨rfl,hb3⟩
   replace u1:=u1.below hb3
   replace u2:=u2.below hb3
   replace bw:=zab bw hb3 bw.size
   refine hK.out _ _ ⟨_,_,_,u1⟩ (fun _=>?_)
   clear hK K hb3
   try simp only [putS]
   refine tr 7 rfl (fun K hK=>?_)
   rw [if_pos (by rfl)]
   have c0:=u1.c5
   go_simp
   refine hK.out _ _ ⟨_,_,_,u1⟩ (fun _=>?_)
   clear hK K c0
   try simp only [putS]
   refine tg (i:=9) (.pointer (some ⟨w.heap.size,3,none⟩)) rfl ⟨_,_,_,u1⟩ ?_
   refine tr 8 rfl (fun K hK=>?_)
   rw [if_pos (by rfl)]
   go_simp
   refine (HLL.out _ bw).mono ?_
   rintro e0 w3 ⟨V,xs,rfl,hown,hrow,hb3⟩
   have hV:OwnL w3 w.heap.size V q:=⟨xs,zbr hown (by have:=u2.lt;omega),hrow.stays (fun g hg=>⟨⟨by have:=hg.1;have:=u2.lt;omega,hg.2.1⟩,rfl⟩)⟩
   obtain ⟨pv,cv,rfl⟩:=zb1 hown
   replace u1:=u1.below hb3
   replace u2:=u2.below hb3
   replace bw:=zab bw hb3 bw.size
   have HV:=Lib.hid hV
   refine hK.out _ _ ⟨_,_,_,u1⟩ (fun _=>?_)
   clear hK K hb3 hown hrow hV
   try simp only [putS]
   refine tr 10 rfl (fun K hK=>?_)
   have c0:=u1.c3
   have f0:=u1.free 3
   go_simp
   replace HV:=Lib.hid (zdy (i:=3) (v:=.string t) HV.out)
   replace bw:=zao (e:=w.heap.size) (o:=3) bw none (.string t) (Nat.le_refl _) bw.size
   replace u2:=u2.only ((Only.refl w.heap.size _).setCell 3 none (.string t)) (by omega)
   replace u1:=u1.set3 t
   refine hK.out _ _ ⟨_,_,_,u1⟩ (fun _=>?_)
   clear hK K c0 f0
   try simp only [putS]
   refine tg (i:=11) (.pointer (some ⟨w.heap.size,4,none⟩)) rfl ⟨_,_,_,u1⟩ ?_
   refine tr 12 rfl (fun K hK=>?_)
   have c0:=u1.c4
   have f0:=u1.free 4
   go_simp
   replace HV:=Lib.hid (zdy (i:=4) (v:=.string x) HV.out)
   replace bw:=zao (e:=w.heap.size) (o:=4) bw none (.string x) (Nat.le_refl _) bw.size
   replace u2:=u2.only ((Only.refl w.heap.size _).setCell 4 none (.string x)) (by omega)
   replace u1:=u1.set4 x
   refine hK.out _ _ ⟨_,_,_,u1⟩ (fun _=>?_)
   clear hK K c0 f0
   try simp only [putS]
   refine tg (i:=13) (.pointer (some ⟨w.heap.size,5,none⟩)) rfl ⟨_,_,_,u1⟩ ?_
   refine tr 14 rfl (fun K hK=>?_)
   have c0:=u1.c5
   have f0:=u1.free 5
   go_simp
   replace HV:=Lib.hid (zdy (i:=5) (v:=.slice pv q.length cv) HV.out)
   replace bw:=zao (e:=w.heap.size) (o:=5) bw none (.slice pv q.length cv) (Nat.le_refl _) bw.size
   replace u2:=u2.only ((Only.refl w.heap.size _).setCell 5 none (.slice pv q.length cv)) (by omega)
   replace u1:=u1.set5 pv q.length cv
   refine hK.out _ _ ⟨_,_,_,u1⟩ (fun _=>?_)
   clear hK K c0 f0
   try simp only [putS]
   refine wpAnyH_done (by kernel_rfl) ?_ _
   go_wp2_with (first
    |((with_reducible refine zan (.tmp 1) w.heap.size u1 ?_ ?_ ?_ ?_);rfl;rfl;rfl)
    |((with_reducible refine zch (k':=k) (b':=b) (n':=n) (t':=t) (x':=x) (p':=pv) (len':=q.length) (cap':=cv) (.tmp 2) (.tmp 15) (w.heap.size+1) u2 ?_ ?_ ?_ ?_ ?_);rfl;rfl;rfl;rfl;intro w5 ho5 u5))
   have b5:=zaf bw ho5 (Nat.le_succ _) bw.size
   refine bodyPost_ret (zcr (p:=2) Tryz.results59 _ rfl u5) rfl ⟨_,rfl,zjq HV.out ho5,b5⟩
  ·rw [if_pos (by rfl)]
   have c0:=u1.c5
   go_simp
   refine hK.out _ _ ⟨_,_,_,u1⟩ (fun _=>?_)
   clear hK K c0
   try simp only [putS]
   refine tg (i:=9) (.pointer (some ⟨w.heap.size,3,none⟩)) rfl ⟨_,_,_,u1⟩ ?_
   refine tr 5 rfl (fun K hK=>?_)
   rw [if_pos (by rfl)]
   go_simp
   refine (HCX.out _).mono ?_
   rintro e0 w3 ⟨rfl,hb3⟩
   replace u1:=u1.below hb3
   replace u2:=u2.below hb3
   replace bw:=zab bw hb3 bw.size
   refine hK.out _ _ ⟨_,_,_,u1⟩ (fun _=>?_)
   clear hK K hb3
   try simp only [putS]
   refine tr 8 rfl (fun K hK=>?_)
   rw [if_pos (by rfl)]
   go_simp
   refine (HLL.out _ bw).mono ?_
   rintro e0 w3 ⟨V,xs,rfl,hown,hrow,hb3⟩
   have hV:OwnL w3 w.heap.size V q:=⟨xs,zbr hown (by have:=u2.lt;omega),hrow.stays (fun g hg=>⟨⟨by have:=hg.1;have:=u2.lt;omega,hg.2.1⟩,rfl⟩)⟩
   obtain ⟨pv,cv,rfl⟩:=zb1 hown
   replace u1:=u1.below hb3
   replace u2:=u2.below hb3
   replace bw:=zab bw hb3 bw.size
   have HV:=Lib.hid hV
   refine hK.out _ _ ⟨_,_,_,u1⟩ (fun _=>?_)
   clear hK K hb3 hown hrow hV
   try simp only [putS]
   refine tr 10 rfl (fun K hK=>?_)
   have c0:=u1.c3
   have f0:=u1.free 3
   go_simp
   replace HV:=Lib.hid (zdy (i:=3) (v:=.string t) HV.out)
   replace bw:=zao (e:=w.heap.size) (o:=3) bw none (.string t) (Nat.le_refl _) bw.size
   replace u2:=u2.only ((Only.refl w.heap.size _).setCell 3 none (.string t)) (by omega)
   replace u1:=u1.set3 t
   refine hK.out _ _ ⟨_,_,_,u1⟩ (fun _=>?_)
   clear hK K c0 f0
   try simp only [putS]
   refine tg (i:=11) (.pointer (some ⟨w.heap.size,4,none⟩)) rfl ⟨_,_,_,u1⟩ ?_
   refine tr 12 rfl (fun K hK=>?_)
   have c0:=u1.c4
   have f0:=u1.free 4
   go_simp
   replace HV:=Lib.hid (zdy (i:=4) (v:=.string x) HV.out)
   replace bw:=zao (e:=w.heap.size) (o:=4) bw none (.string x) (Nat.le_refl _) bw.size
   replace u2:=u2.only ((Only.refl w.heap.size _).setCell 4 none (.string x)) (by omega)
   replace u1:=u1.set4 x
   refine hK.out _ _ ⟨_,_,_,u1⟩ (fun _=>?_)
   clear hK K c0 f0
   try simp only [putS]
   refine tg (i:=13) (.pointer (some ⟨w.heap.size,5,none⟩)) rfl ⟨_,_,_,u1⟩ ?_
   refine tr 14 rfl (fun K hK=>?_)
   have c0:=u1.c5
   have f0:=u1.free 5
   go_simp
   replace HV:=Lib.hid (zdy (i:=5) (v:=.slice pv q.length cv) HV.out)
   replace bw:=zao (e:=w.heap.size) (o:=5) bw none (.slice pv q.length cv) (Nat.le_refl _) bw.size
   replace u2:=u2.only ((Only.refl w.heap.size _).setCell 5 none (.slice pv q.length cv)) (by omega)
   replace u1:=u1.set5 pv q.length cv
   refine hK.out _ _ ⟨_,_,_,u1⟩ (fun _=>?_)
   clear hK K c0 f0
   try simp only [putS]
   refine wpAnyH_done (by kernel_rfl) ?_ _
   go_wp2_with (first
    |((with_reducible refine zan (.tmp 1) w.heap.size u1 ?_ ?_ ?_ ?_);rfl;rfl;rfl)
    |((with_reducible refine zch (k':=k) (b':=b) (n':=n) (t':=t) (x':=x) (p':=pv) (len':=q.length) (cap':=cv) (.tmp 2) (.tmp 15) (w.heap.size+1) u2 ?_ ?_ ?_ ?_ ?_);rfl;rfl;rfl;rfl;intro w5 ho5 u5))
   have b5:=zaf bw ho5 (Nat.le_succ _) bw.size
   refine bodyPost_ret (zcr (p:=2) Tryz.results59 _ rfl u5) rfl ⟨_,rfl,zjq HV.out ho5,b5⟩
 ·rw [if_pos (by rfl)]
  have c0:=u1.c5
  go_simp
  refine hK.out _ _ ⟨_,_,_,u1⟩ (fun _=>?_)
  clear hK K c0
  try simp only [putS]
  refine tr 2 rfl (fun K hK=>?_)
  rw [if_pos (by rfl)]
  go_simp
  refine (HCL.out _).mono ?_
  rintro e0 w3 ⟨rfl,hb3⟩
  replace u1:=u1.below hb3
  replace u2:=u2.below hb3
  replace bw:=zab bw hb3 bw.size
  refine hK.out _ _ ⟨_,_,_,u1⟩ (fun _=>?_)
  clear hK K hb3
  try simp only [putS]
  refine tg (i:=9) (.pointer (some ⟨w.heap.size,3,none⟩)) rfl ⟨_,_,_,u1⟩ ?_
  refine tr 5 rfl (fun K hK=>?_)
  rw [if_pos (by rfl)]
  go_simp
  refine (HCX.out _).mono ?_
  rintro e0 w3 ⟨rfl,hb3⟩
  replace u1:=u1.below hb3
  replace u2:=u2.below hb3
  replace bw:=zab bw hb3 bw.size
  refine hK.out _ _ ⟨_,_,_,u1⟩ (fun _=>?_)
  clear hK K hb3
  try simp only [putS]
  refine tr 8 rfl (fun K hK=>?_)
  rw [if_pos (by rfl)]
  go_simp
  refine (HLL.out _ bw).mono ?_
  rintro e0 w3 ⟨V,xs,rfl,hown,hrow,hb3⟩
  have hV:OwnL w3 w.heap.size V q:=⟨xs,zbr hown (by have:=u2.lt;omega),hrow.stays (fun g hg=>⟨⟨by have:=hg.1;have:=u2.lt;omega,hg.2.1⟩,rfl⟩)⟩
  obtain ⟨pv,cv,rfl⟩:=zb1 hown
  replace u1:=u1.below hb3
  replace u2:=u2.below hb3
  replace bw:=zab bw hb3 bw.size
  have HV:=Lib.hid hV
  refine hK.out _ _ ⟨_,_,_,u1⟩ (fun _=>?_)
  clear hK K hb3 hown hrow hV
  try simp only [putS]
  refine tr 10 rfl (fun K hK=>?_)
  have c0:=u1.c3
  have f0:=u1.free 3
  go_simp
  replace HV:=Lib.hid (zdy (i:=3) (v:=.string t) HV.out)
  replace bw:=zao (e:=w.heap.size) (o:=3) bw none (.string t) (Nat.le_refl _) bw.size
  replace u2:=u2.only ((Only.refl w.heap.size _).setCell 3 none (.string t)) (by omega)
  replace u1:=u1.set3 t
  refine hK.out _ _ ⟨_,_,_,u1⟩ (fun _=>?_)
  clear hK K c0 f0
  try simp only [putS]
  refine tg (i:=11) (.pointer (some ⟨w.heap.size,4,none⟩)) rfl ⟨_,_,_,u1⟩ ?_
  refine tr 12 rfl (fun K hK=>?_)
  have c0:=u1.c4
  have f0:=u1.free 4
  go_simp
  replace HV:=Lib.hid (zdy (i:=4) (v:=.string x) HV.out)
  replace bw:=zao (e:=w.heap.size) (o:=4) bw none (.string x) (Nat.le_refl _) bw.size
  replace u2:=u2.only ((Only.refl w.heap.size _).setCell 4 none (.string x)) (by omega)
  replace u1:=u1.set4 x
  refine hK.out _ _ ⟨_,_,_,u1⟩ (fun _=>?_)
  clear hK K c0 f0
  try simp only [putS]
  refine tg (i:=13) (.pointer (some ⟨w.heap.size,5,none⟩)) rfl ⟨_,_,_,u1⟩ ?_
  refine tr 14 rfl (fun K hK=>?_)
  have c0:=u1.c5
  have f0:=u1.free 5
  go_simp
  replace HV:=Lib.hid (zdy (i:=5) (v:=.slice pv q.length cv) HV.out)
  replace bw:=zao (e:=w.heap.size) (o:=5) bw none (.slice pv q.length cv) (Nat.le_refl _) bw.size
  replace u2:=u2.only ((Only.refl w.heap.size _).setCell 5 none (.slice pv q.length cv)) (by omega)
  replace u1:=u1.set5 pv q.length cv
  refine hK.out _ _ ⟨_,_,_,u1⟩ (fun _=>?_)
  clear hK K c0 f0
  try simp only [putS]
  refine wpAnyH_done (by kernel_rfl) ?_ _
  go_wp2_with (first
   |((with_reducible refine zan (.tmp 1) w.heap.size u1 ?_ ?_ ?_ ?_);rfl;rfl;rfl)
   |((with_reducible refine zch (k':=k) (b':=b) (n':=n) (t':=t) (x':=x) (p':=pv) (len':=q.length) (cap':=cv) (.tmp 2) (.tmp 15) (w.heap.size+1) u2 ?_ ?_ ?_ ?_ ?_);rfl;rfl;rfl;rfl;intro w5 ho5 u5))
  have b5:=zaf bw ho5 (Nat.le_succ _) bw.size
  refine bodyPost_ret (zcr (p:=2) Tryz.results59 _ rfl u5) rfl ⟨_,rfl,zjq HV.out ho5,b5⟩
theorem ownValL (k:Int) (b:Bool) (n:Int) (t x:ByteArray) (q:List Val) (W:World) (c:List Value) (h:zfw W (Old W) c (.mk k b n t x q)):
 Calls Tryz.prog 59 #[.agg c.toArray] W fun e w'=>∃ V,e=.returned (.agg #[.int .i64 k,.bool b,.int .i64 n,.string t,.string x,V])∧OwnL w' W.heap.size V q∧Below W.heap.size W w':=by
 obtain ⟨L,rfl,hf,hq⟩:=h
 obtain ⟨p,cap,rfl⟩:=za7 (za9.held q hq)
 exact zyq k b n t x q p cap W hf hq (zks q)
end Go.Proofs.YtcfmenkigolnoaaGreatDoor

/- GPQ -/
namespace Go.Proofs.YtcfmenkigolnoaaGreatDoor
open Go.RowKit
theorem zg0 {w:World} {N:Nat} {V:Value} {q:List Val} (h:OwnL w N V q):∃ p cap,V=.slice p q.length cap:=by
 obtain ⟨xs,h1,_⟩:=h
 exact zb1 h1
def zww (W:World) (g:zaw) (k n:Int) (ky:ByteArray) (e:Ending) (w':World):Prop:=
 ∃ k' b' n' t' x' q V,e=.returned (.agg #[.int .i64 k',.bool b',.int .i64 n',.string t',.string x',V])∧OwnL w' W.heap.size V q∧Fine n' t' x' q.length∧zqn g k n ky (.mk k' b' n' t' x' q)∧Below W.heap.size W w'
set_option maxHeartbeats 6400000 in
set_option maxRecDepth 20000 in
theorem zsk (W:World) (s:Nat) (g:zaw) (h:zcz W s g) (k:Int) (b:Value) (n:Int) (t x L:Value) (hn:(Lit.int .i64 n).wf=true) (ky:ByteArray):
 Calls Tryz.prog 27 #[.pointer (some ⟨s,0,none⟩),.agg #[.int .i64 k,b,.int .i64 n,t,x,L],.string ky] W (zww W g k n ky):=by
 have hz1:∀ u∈[Value.int .i64 0,.bool false,.int .i64 0,.string ⟨#[]⟩,.string ⟨#[]⟩,.slice none 0 0],u.oneCell'=true:=by simp [Value.oneCell']
 have u1:((W.alloc (.cells #[.int .i64 k,b,.int .i64 n,t,x,L] 60)).alloc (.cells #[.int .i64 0,.bool false,.int .i64 0,.string ⟨#[]⟩,.string ⟨#[]⟩,.slice none 0 0] 60)).heap[W.heap.size]?=some (.cells #[.int .i64 k,b,.int .i64 n,t,x,L] 60 (0,0)):=zat _ (zae _ _ rfl)
 have u2:((W.alloc (.cells #[.int .i64 k,b,.int .i64 n,t,x,L] 60)).alloc (.cells #[.int .i64 0,.bool false,.int .i64 0,.string ⟨#[]⟩,.string ⟨#[]⟩,.slice none 0 0] 60)).heap[W.heap.size+1]?=some (.cells #[.int .i64 0,.bool false,.int .i64 0,.string ⟨#[]⟩,.string ⟨#[]⟩,.slice none 0 0] 60 (0,0)):=zae _ _ (by simp)
 have b0:Below W.heap.size W ((W.alloc (.cells #[.int .i64 k,b,.int .i64 n,t,x,L] 60)).alloc (.cells #[.int .i64 0,.bool false,.int .i64 0,.string ⟨#[]⟩,.string ⟨#[]⟩,.slice none 0 0] 60)):=zbi _ _ _
 obtain ⟨W0,hW0⟩:∃ W0,W0=((W.alloc (.cells #[.int .i64 k,b,.int .i64 n,t,x,L] 60)).alloc (.cells #[.int .i64 0,.bool false,.int .i64 0,.string ⟨#[]⟩,.string ⟨#[]⟩,.slice none 0 0] 60)):=⟨_,rfl⟩
 rw [← hW0] at u1 u2 b0
 have H0:=Lib.hid hW0
 have HP:=Lib.hid (zuy W0 s g (h.below b0) k b n t x L hn)
 clear hW0 h hn
 go_enter Tryz.func27,Tryz.ntmps27
 go_upto_region 1 with fail
 rw [← H0.out]
 go_upto_region 3 with (first
  |((with_reducible refine zai (.tmp 4) W.heap.size 60 60 [.int .i64 k,b,.int .i64 n,t,x,L] 6 _ u1 rfl Tryz.underlying60 rfl za1 ?_ ?_ ?_ ?_);rfl;rfl;rfl)
  |(go_at_call 56;(with_reducible refine HP.out.mono ?_);rintro e w1 ⟨pv,l,rfl,hs1,hl1,hp1,hb1⟩;have b1:=zab b0 hb1 b0.size;replace u2:=(hb1.block _ (zaa u2)).trans u2;clear u1)
  |(go_at_call 57;(with_reducible refine (zxp pv l ky _ hs1 hp1.sorted hl1).mono ?_);rintro e w2 ⟨i,found,rfl,ht,hf,hb2⟩;have b2:=zab b1 hb2 b1.size;replace u2:=(hb2.block _ (zaa u2)).trans u2))
 cases found with
 | false=>
   have HF:=Lib.hid (And.intro hp1 hf)
   clear ht hf hs1 hl1 hp1 hb1 hb2 b1
   go_wp2_with (first
    |((with_reducible refine zag (.tmp 6) (.tmp 21) (W.heap.size+1) 60 60 _ [.int .i64 0,.bool false,.int .i64 0,.string ⟨#[]⟩,.string ⟨#[]⟩,.slice none 0 0] 6 u2 rfl ?_ ?_ ?_ ?_ za1 rfl hz1 ?_);rfl;rfl;rfl;rfl;intro wX oX u5))
   exact bodyPost_ret (results_cell_row (p:=6) (ty:=60) Tryz.results27 _ _ (W.heap.size+1) 60 _ (0,0) _ rfl u5 Tryz.underlying60 rfl za1) rfl
    ⟨0,false,0,⟨#[]⟩,⟨#[]⟩,[],.slice none 0 0,rfl,⟨[],World.ownsRow_nil _ _ _ _,RowE.nil⟩,zgh,⟨l,HF.out.1,.inr ⟨HF.out.2 (by simp),rfl⟩⟩,zaf b2 oX (by omega) b2.size⟩
 | true=>
   obtain ⟨hi,hkey⟩:=ht rfl
   obtain ⟨g2,off,cap,c,e0,hg,hrl,hra⟩:=(hs1.stays (zad hb2)).at_ i hi
   subst e0
   obtain ⟨c',rfl,_,hv⟩:=hrl
   have ra2:=zdz hra
   replace ra2:w2.rangeAt g2 (off+i*7+1) c':=ra2
   have hlen:c'.length=6:=valE.len hv
   have hmem:l[i]∈l:=List.getElem_mem hi
   have HF:=Lib.hid (And.intro hp1 (And.intro hmem hkey))
   obtain ⟨vv,hvv⟩:∃ vv,vv=l[i].v:=⟨_,rfl⟩
   rw [← hvv] at hv
   obtain ⟨kk,bb,nn,tt,xx,qq⟩:=vv
   have HFF:Hid (Fine nn tt xx qq.length):=Lib.hid (by obtain ⟨_,_,hf,_⟩:=hv;exact hf)
   have HVV:=Lib.hid hvv
   have HC:=Lib.hid (ownValL kk bb nn tt xx qq w2 c' hv)
   clear hvv
   have hi3:(i:Int) < l.length:=by omega
   clear ht hf hs1 hp1 hb1 hb2 b1 hra hv hkey hmem
   go_wp2_with (first
    |((with_reducible refine zap (.tmp 25) g2 (off+i*7+1) 60 c' 6 _ ra2 hlen Tryz.underlying60 rfl za1 ?_ ?_ ?_ ?_);rfl;rfl;rfl)
    |(go_at_call 59;(with_reducible refine HC.out.mono ?_);rintro e w3 ⟨V3,rfl,hz,hb3⟩;obtain ⟨p3,k3,rfl⟩:=zg0 hz;have hl3:=zaa u2;have b3:=zab b2 hb3 b2.size;replace u2:=(hb3.block _ (zaa u2)).trans u2)
    |((with_reducible refine zag (.tmp 6) (.tmp 27) (W.heap.size+1) 60 60 _ [.int .i64 kk,.bool bb,.int .i64 nn,.string tt,.string xx,.slice p3 qq.length k3] 6 u2 rfl ?_ ?_ ?_ ?_ za1 rfl (by simp [Value.oneCell']) ?_);rfl;rfl;rfl;rfl;intro wX oX u5))
   have hoX:=oX.size
   exact bodyPost_ret (results_cell_row (p:=6) (ty:=60) Tryz.results27 _ _ (W.heap.size+1) 60 _ (0,0) _ rfl u5 Tryz.underlying60 rfl za1) rfl
    ⟨kk,bb,nn,tt,xx,qq,_,rfl,by
     obtain ⟨xs,h1,h2⟩:=hz
     have:=b2.size
     exact ⟨xs,zbr (zec h1 oX (by omega)) (by omega),h2.stays fun g hg=>⟨⟨by have:=hg.1;omega,Nat.lt_of_lt_of_le hg.2 hoX⟩,oX.block g hg.2 (by have:=hg.1;omega)⟩⟩,HFF.out,⟨l,HF.out.1,.inl ⟨l[i],HF.out.2.1,HF.out.2.2,HVV.out⟩⟩,zaf b3 oX (by omega) b3.size⟩
end Go.Proofs.YtcfmenkigolnoaaGreatDoor

/- GPU -/
namespace Go.Proofs.YtcfmenkigolnoaaGreatDoor
open Go.RowKit
def zwx (q:List Val):Prop:=∀ u∈q,∃ k b n t x,u=.mk k b n t x []
theorem zh8 {b:Bool} {n:Int} {t x:ByteArray} {len:Nat} (h:zbx b n t x len=true):len=0:=by
 rw [zc4] at h
 simp only [Bool.and_eq_true,Bool.not_eq_true',decide_eq_false_iff_not] at h
 omega
theorem zkp {k:Int} {b:Bool} {n:Int} {t x:ByteArray} {q:List Val} {d:Nat} (hk:zdh (.mk k b n t x q)=true) (h:mayP (.mk k b n t x q) d=true):q=[]:=by
 rw [zfj] at h
 refine List.length_eq_zero_iff.1 ?_
 rcases (zft k b n t x q).1 hk with rfl | rfl | rfl | rfl
 ·exact zh8 (show zbx false n t x q.length=true from h)
 ·exact zh8 (show zbx b 0 t x q.length=true from h)
 ·have h2:(chk t.data.toList && zbx b n ⟨#[]⟩ x q.length)=true:=h
  rw [Bool.and_eq_true] at h2
  exact zh8 h2.2
 ·have h2:(decide (t.size≤1048576) && zbx b n ⟨#[]⟩ x q.length)=true:=h
  rw [Bool.and_eq_true] at h2
  exact zh8 h2.2
theorem zwy {k:Int} {b:Bool} {n:Int} {t x:ByteArray} {q:List Val} (h:zfe (.mk k b n t x q)=true):zwx q:=by
 rw [zgx] at h
 simp only [Bool.and_eq_true,Bool.or_eq_true,decide_eq_true_eq,List.all_eq_true] at h
 obtain ⟨h1 | ⟨rfl,h1⟩,h2⟩:=h
 ·rw [zkp h1 h2]
  intro u hu
  simp at hu
 ·rw [zfj] at h2
  have h4:((decide (q.length≤4096) && decide (0+1≤60) && zem q (0+1)) && zbx b n t x 0)=true:=h2
  simp only [Bool.and_eq_true] at h4
  intro u hu
  have h5:=zv3 h4.1.2 u hu
  obtain ⟨k',b',n',t',x',q'⟩:=u
  rw [zkp (h1 _ hu) h5]
  exact ⟨k',b',n',t',x',rfl⟩
theorem flat_is {g:zaw} (hg:zep g) {k n:Int} {ky:ByteArray} {k':Int} {b':Bool} {n':Int} {t' x':ByteArray} {q:List Val} (h:zqn g k n ky (.mk k' b' n' t' x' q)):zwx q:=by
 obtain ⟨l,hl,hr⟩:=h
 rcases hr with ⟨p,hp,_,e⟩ | ⟨_,e⟩
 ·refine zwy (k:=k') (b:=b') (n:=n') (t:=t') (x:=x') ?_
  rw [e]
  unfold zeh at hl
  split at hl
  ·rcases hl with ⟨a,ha,_,hpl⟩ | ⟨_,rfl⟩
   ·exact (zcn (hg.nkeys a ha)).2.2.2 p (hpl.1.mem_iff.1 hp)
   ·simp at hp
  ·split at hl
   ·rcases hl with ⟨a,ha,_,hpl⟩ | ⟨_,rfl⟩
    ·exact (zcn ((hg.ekeys a ha).1)).2.2.2 p (hpl.1.mem_iff.1 hp)
    ·simp at hp
   ·subst hl
    simp at hp
 ·unfold zrt at e
  injection e with _ _ _ _ _ e
  subst e
  intro u hu
  simp at hu
theorem zo4 {w:World} {P:Nat→Prop} {g lo hi:Nat} (hlh:hi≤hi):(q:List Val)→zwx q→(off:Nat)→(xs:List Value)→w.rangeAt g off xs→w.there g off (q.length*6)→RowE valE w P xs q→lo≤hi→zb2 w g off lo hi q
 | [],_,_,_,_,_,_,_=>by unfold zb2;trivial
 | v::r,hf,off,xs,hx,ht,hr,hl=>by
   obtain ⟨c,ys,rfl,h1,h2⟩:=hr
   obtain ⟨k,b,n,t,x,rfl⟩:=hf v (by simp)
   have hlen:c.length=6:=valE.len h1
   obtain ⟨L,rfl,hfi,hq⟩:=h1
   unfold zb2
   refine ⟨lo,lo,Nat.le_refl _,Nat.le_refl _,hl,by omega,?_,?_⟩
   ·unfold OneT
    refine ⟨L,fun j u hj=>hx j u (by rw [List.getElem?_append_left (by have:=(List.getElem?_eq_some_iff.1 hj).1;exact this)];exact hj),fun j hj=>ht j (by rw [List.length_cons];omega),hfi,?_⟩
    unfold za9 at hq
    unfold zcx
    exact hq
   ·refine zo4 hlh r (fun u hu=>hf u (List.mem_cons_of_mem _ hu)) (off+6) ys (fun j u hj=>?_) (fun j hj=>?_) h2 hl
    ·have:=hx (6+j) u (by rw [List.getElem?_append_right (by simp)];simpa using hj)
     rwa [← Nat.add_assoc] at this
    ·have:=ht (6+j) (by rw [List.length_cons];omega)
     rwa [← Nat.add_assoc] at this
theorem zwz {w:World} {N:Nat} {V:Value} {q:List Val} (h:OwnL w N V q) (hf:zwx q):zcx w (N+2) w.heap.size V q:=by
 obtain ⟨xs,h1,h2⟩:=h
 cases q with
 | nil=>
   obtain ⟨p,cap,rfl⟩:=zb1 h1
   unfold zcx
   exact ⟨p,cap,rfl⟩
 | cons v r=>
   rcases h1.2 with ⟨_,e⟩ | ⟨g,cap,cur,rfl,hb,hg,hc,hm,hsz,htk⟩
   ·simp at e
   ·have hcap:(v::r).length*6≤cap*6:=Nat.mul_le_mul_right _ hc
    refine zcx.mk hb (zaa hg) (zo4 (Nat.le_refl _) (v::r) hf 0 xs (fun j u hj=>?_) (fun j hj=>?_) h2 (by have:=zaa hg;omega))
    ·rw [Nat.zero_add]
     refine zac hg j ?_
     rw [← htk,List.getElem?_take] at hj
     split at hj
     ·rw [Array.getElem?_toList] at hj
      exact hj
     ·simp at hj
    ·have hlt:0+j < cur.size:=by omega
     exact ⟨by rw [zac hg _ (Array.getElem?_eq_getElem hlt)];rfl,zbo hg _⟩
end Go.Proofs.YtcfmenkigolnoaaGreatDoor
