/- Texts of one kind, one behind the other: each says ahead of itself what it shows. -/
import Derived.Test.YteclpnfckjfibaaGreatDoorBag
import Derived.Test.YteclpnfckjfibaaGreatDoorBaf
import Derived.Deep.RegionHeld
import Derived.Deep.Cut
import Derived.Deep.CutBlock
import Derived.BigQuiet
import Derived.Lib.SmallJoins
/- RO -/
namespace Go.Proofs.YteclpnfckjfibaaGreatDoor
open Go.RowKit
theorem zfs {w:World} {P:Nat→Prop} {g:Nat}:(l:List Val)→(off:Nat)→zb3 w P g off l→∃ xs,w.rangeAt g off xs∧RowE valE w P xs l
 | [],_,_=>⟨[],fun j u hu=>by simp at hu,RowE.nil⟩
 | .mk k b n t x q::r,off,h=>by
   unfold zb3 zbc at h
   obtain ⟨⟨h0,h1,h2,h3,h4,hf,L,h5,hl⟩,hr⟩:=h
   obtain ⟨xs,hx,hrow⟩:=zfs r (off+6) hr
   refine ⟨[.int .i64 k,.bool b,.int .i64 n,.string t,.string x,L]++xs,fun j u hu=>?_,RowE.append [_] r (RowE.single ⟨L,rfl,hf,hl⟩) hrow⟩
   by_cases hj:j < 6
   ·rw [List.getElem?_append_left (by simpa using hj)] at hu
    match j,hj with
    | 0,_=>simp at hu;subst hu;exact h0
    | 1,_=>simp at hu;subst hu;exact h1
    | 2,_=>simp at hu;subst hu;exact h2
    | 3,_=>simp at hu;subst hu;exact h3
    | 4,_=>simp at hu;subst hu;exact h4
    | 5,_=>simp at hu;subst hu;exact h5
   ·rw [List.getElem?_append_right (by simpa using hj)] at hu
    have:=hx (j - 6) u (by simpa using hu)
    rwa [show off+6+(j - 6)=off+j by omega] at this
theorem zfd {w:World} {P:Nat→Prop} {L:Value}:(l:List Val)→zbe w P L l→zaf valE w P L l
 | [],h=>by
   unfold zbe at h
   obtain ⟨p,cap,rfl⟩:=h
   exact zaf.nil _ _
 | v::r,h=>by
   unfold zbe at h
   obtain ⟨g,off,cap,rfl,hg,hv,hr⟩:=h
   obtain ⟨xs,hx,hrow⟩:=zfs (v::r) off (by unfold zb3;exact ⟨hv,hr⟩)
   exact ⟨_,cap,rfl,fun _=>⟨g,off,xs,rfl,hg,hx,hrow⟩⟩
theorem zft {w:World} {P:Nat→Prop} {g:Nat}:(l:List Val)→(off:Nat)→(xs:List Value)→w.rangeAt g off xs→RowE valE w P xs l→zb3 w P g off l
 | [],_,_,_,_=>by unfold zb3;trivial
 | .mk k b n t x q::r,off,xs,hx,h=>by
   unfold RowE at h
   obtain ⟨c,ys,rfl,⟨L,rfl,hf,hl⟩,hr⟩:=h
   unfold zb3 zbc
   refine ⟨⟨hx 0 _ rfl,hx 1 _ rfl,hx 2 _ rfl,hx 3 _ rfl,hx 4 _ rfl,hf,L,hx 5 _ rfl,hl⟩,zft r (off+6) ys (fun j u hu=>?_) hr⟩
   have:=hx (6+j) u (by rw [List.getElem?_append_right (by simp)];simpa using hu)
   rwa [← Nat.add_assoc] at this
theorem zdd {w:World} {P:Nat→Prop} {L:Value}:(l:List Val)→zaf valE w P L l→zbe w P L l
 | [],h=>by
   obtain ⟨p,cap,rfl,_⟩:=h
   unfold zbe
   exact ⟨p,cap,rfl⟩
 | v::r,h=>by
   obtain ⟨p,cap,rfl,h⟩:=h
   obtain ⟨g,off,xs,rfl,hg,hx,hrow⟩:=h (by simp)
   have hh:=zft (v::r) off xs hx hrow
   unfold zb3 at hh
   unfold zbe
   exact ⟨g,off,cap,rfl,hg,hh.1,hh.2⟩
theorem za8.slice {β:Type} {E:Elem β} {D:TypeId} {w w':World} {bs:List β} {V:Value} {xs:List Value} (h:w'.ownsRow w.heap.size D E.k V bs.length xs) (r:RowE E w' (Inn w V w') xs bs):zaf E w' (New w w') V bs:=
 zb6 h r (fun g hg=>⟨hg.1,hg.2.1⟩) (fun g hg=>⟨(h.lt g hg).1,(h.lt g hg).2⟩)
theorem zde {w:World} {N i:Nat} {V v:Value} (q:List Val) (hq:zbe w (fun g=>N+1 < g∧g < w.heap.size) V q):zbe (w.setCell ⟨N,i,none⟩ v) (fun g=>N+1 < g∧g < (w.setCell ⟨N,i,none⟩ v).heap.size) V q:=
 zbe.stays (fun g hg=>⟨⟨hg.1,by simpa using hg.2⟩,Below.heap_setCell _ _ _ _ (by show g≠N;have:=hg.1;omega)⟩) q hq
def OwnV (v:Val):Prop:=∀ (W:World) (c:List Value),zcz W (Old W) c v→Calls Tryz.prog 116 #[.agg c.toArray] W (zb0 valE v W)
theorem ownList (q:List Val) (L:Value) (W:World) (hl:zbe W (Old W) L q) (hn:q.length≤2097152) (each:∀ v∈q,OwnV v):Calls Tryz.prog 162 #[L,.func (.func 116) #[] #[]] W (za8 valE 48 W q):=by
 have h:=zzm id q L W (zfd q hl) hn fun x hx W' c _ hr=>each x hx W' c hr
 rwa [List.map_id] at h
set_option maxHeartbeats 6400000 in
set_option maxRecDepth 20000 in
theorem ownStep (k:Int) (b:Bool) (n:Int) (t x:ByteArray) (q:List Val) (p:Option Addr) (cap:Nat) (w:World) (hf:Fine n t x q.length) (hl:zbe w (Old w) (.slice p q.length cap) q) (each:∀ v∈q,OwnV v):
 Calls Tryz.prog 116 #[.agg #[.int .i64 k,.bool b,.int .i64 n,.string t,.string x,.slice p q.length cap]] w fun e w'=>∃ V,e=.returned (.agg #[.int .i64 k,.bool b,.int .i64 n,.string t,.string x,V])∧zbe w' (New w w') V q∧Below w.heap.size w w':=by
 obtain ⟨w1,hw1⟩:∃ w1,w1=(w.alloc (.cells #[.int .i64 k,.bool b,.int .i64 n,.string t,.string x,.slice p q.length cap] 48)).alloc (.cells #[.int .i64 0,.bool false,.int .i64 0,.string ⟨#[]⟩,.string ⟨#[]⟩,.slice none 0 0] 48):=⟨_,rfl⟩
 have u1:Six w1 w.heap.size k b n t x p q.length cap:=by rw [hw1];exact (zak _ rfl).alloc _
 have u2:Six w1 (w.heap.size+1) 0 false 0 ⟨#[]⟩ ⟨#[]⟩ none 0 0:=by rw [hw1];exact zak _ (by simp)
 have bw:Below w.heap.size w w1:=by rw [hw1];exact zc6 _ _ _
 have HCL:=Lib.hid (fun W=>zqi t W (by have:=hf.ht;omega))
 have HCX:=Lib.hid (fun W=>zqi x W (by have:=hf.hx;omega))
 have HLL:Hid (∀ W,Below w.heap.size w W→Calls Tryz.prog 162 #[.slice p q.length cap,.func (.func 116) #[] #[]] W (za8 valE 48 W q)):=
  Lib.hid fun W hb=>ownList q _ W (zbe.stays (zad hb) q hl) hf.hn each
 have HW:=Lib.hid hw1
 clear hw1 hf hl each
 go_enter Tryz.func116,Tryz.ntmps116
 go_upto_region 1 with fail
 rw [← HW.out]
 refine wp_region_held_drew (S:=fun W=>∃ p' n' c',Six W w.heap.size k b n t x p' n' c') (by kernel_rfl) ⟨p,q.length,cap,u1⟩ (fun hHeld=>?_)
 replace bw:=bw.drew
 replace u1:Six w1.drew w.heap.size k b n t x p q.length cap:=u1
 replace u2:Six w1.drew (w.heap.size+1) 0 false 0 ⟨#[]⟩ ⟨#[]⟩ none 0 0:=u2
 refine tg (i:=0) (.pointer (some ⟨w.heap.size,3,none⟩)) rfl hHeld ?_
 refine tg (i:=3) (.pointer (some ⟨w.heap.size,4,none⟩)) rfl hHeld ?_
 refine tg (i:=6) (.pointer (some ⟨w.heap.size,5,none⟩)) rfl hHeld ?_
 refine tk (i:=1) (v:=.string t) rfl (Or.inl ⟨by rfl,fun W ⟨_,_,_,h⟩=>by have c0:=h.c3;go_simp⟩) hHeld ?_
 refine tk (i:=4) (v:=.string x) rfl (Or.inl ⟨by rfl,fun W ⟨_,_,_,h⟩=>by have c0:=h.c4;go_simp⟩) hHeld ?_
 clear hHeld
 refine wpAnyH_ready (rs:=[2,7]) (by kernel_rfl) (by simp) ?_
 refine AllReadyH.cons rfl (fun K hK=>?_) (AllReadyH.cons rfl (fun K hK=>?_) AllReadyH.nil)
 ·rw [if_pos (by rfl)]
  go_simp
  refine (HCL.out _).mono ?_
  rintro e0 w3 ⟨rfl,hb3⟩
  replace u1:=u1.below hb3
  replace u2:=u2.below hb3
  replace bw:=zab bw hb3 bw.size
  refine hK.out _ _ ⟨_,_,_,u1⟩ (fun _=>?_)
  clear hK K hb3
  try simp only [putS]
  refine wpAnyH_ready (rs:=[5,7]) (by kernel_rfl) (by simp) ?_
  refine AllReadyH.cons rfl (fun K hK=>?_) (AllReadyH.cons rfl (fun K hK=>?_) AllReadyH.nil)
  ·rw [if_pos (by rfl)]
   go_simp
   refine (HCX.out _).mono ?_
   rintro e0 w3 ⟨rfl,hb3⟩
   replace u1:=u1.below hb3
   replace u2:=u2.below hb3
   replace bw:=zab bw hb3 bw.size
   refine hK.out _ _ ⟨_,_,_,u1⟩ (fun _=>?_)
   clear hK K hb3
   try simp only [putS]
   refine tr 7 rfl (fun K hK=>?_)
   rw [if_pos (by rfl)]
   have c0:=u1.c5
   go_simp
   refine hK.out _ _ ⟨_,_,_,u1⟩ (fun _=>?_)
   clear hK K c0
   try simp only [putS]
   refine tg (i:=9) (.pointer (some ⟨w.heap.size,3,none⟩)) rfl ⟨_,_,_,u1⟩ ?_
   refine tr 8 rfl (fun K hK=>?_)
   rw [if_pos (by rfl)]
   go_simp
   refine (HLL.out _ bw).mono ?_
   rintro e0 w3 ⟨V,xs,rfl,hown,hrow,hb3⟩
   have hV:zbe w3 (fun g=>w.heap.size+1 < g∧g < w3.heap.size) V q:=zbe.stays (fun g hg=>⟨⟨by have:=hg.1;have:=u2.lt;omega,hg.2⟩,rfl⟩) q (zdd q (za8.slice hown hrow))
   obtain ⟨pv,cv,rfl⟩:=zbt (zbe.held q hV)
   replace u1:=u1.below hb3
   replace u2:=u2.below hb3
   replace bw:=zab bw hb3 bw.size
   have HV:=Lib.hid hV
   refine hK.out _ _ ⟨_,_,_,u1⟩ (fun _=>?_)
   clear hK K hb3 hown hrow hV
   try simp only [putS]
   refine tr 10 rfl (fun K hK=>?_)
   have c0:=u1.c3
   have f0:=u1.free 3
   go_simp
   replace HV:=Lib.hid (zde (i:=3) (v:=.string t) q HV.out)
   replace bw:=zc9 (e:=w.heap.size) (o:=3) bw none (.string t) (Nat.le_refl _) bw.size
   replace u2:=u2.only ((Only.refl w.heap.size _).setCell 3 none (.string t)) (by omega)
   replace u1:=u1.set3 t
   refine hK.out _ _ ⟨_,_,_,u1⟩ (fun _=>?_)
   clear hK K c0 f0
   try simp only [putS]
   refine tg (i:=11) (.pointer (some ⟨w.heap.size,4,none⟩)) rfl ⟨_,_,_,u1⟩ ?_
   refine tr 12 rfl (fun K hK=>?_)
   have c0:=u1.c4
   have f0:=u1.free 4
   go_simp
   replace HV:=Lib.hid (zde (i:=4) (v:=.string x) q HV.out)
   replace bw:=zc9 (e:=w.heap.size) (o:=4) bw none (.string x) (Nat.le_refl _) bw.size
   replace u2:=u2.only ((Only.refl w.heap.size _).setCell 4 none (.string x)) (by omega)
   replace u1:=u1.set4 x
   refine hK.out _ _ ⟨_,_,_,u1⟩ (fun _=>?_)
   clear hK K c0 f0
   try simp only [putS]
   refine tg (i:=13) (.pointer (some ⟨w.heap.size,5,none⟩)) rfl ⟨_,_,_,u1⟩ ?_
   refine tr 14 rfl (fun K hK=>?_)
   have c0:=u1.c5
   have f0:=u1.free 5
   go_simp
   replace HV:=Lib.hid (zde (i:=5) (v:=.slice pv q.length cv) q HV.out)
   replace bw:=zc9 (e:=w.heap.size) (o:=5) bw none (.slice pv q.length cv) (Nat.le_refl _) bw.size
   replace u2:=u2.only ((Only.refl w.heap.size _).setCell 5 none (.slice pv q.length cv)) (by omega)
   replace u1:=u1.set5 pv q.length cv
   refine hK.out _ _ ⟨_,_,_,u1⟩ (fun _=>?_)
   clear hK K c0 f0
   try simp only [putS]
   refine wpAnyH_done (by kernel_rfl) ?_ _
   go_wp2_with (first
    |((with_reducible refine zaj (.tmp 1) w.heap.size u1 ?_ ?_ ?_ ?_);rfl;rfl;rfl)
    |((with_reducible refine zes (k':=k) (b':=b) (n':=n) (t':=t) (x':=x) (p':=pv) (len':=q.length) (cap':=cv) (.tmp 2) (.tmp 15) (w.heap.size+1) u2 ?_ ?_ ?_ ?_ ?_);rfl;rfl;rfl;rfl;intro w5 ho5 u5))
   have b5:=zam bw ho5 (Nat.le_succ _) bw.size
   refine bodyPost_ret (ze8 (p:=2) Tryz.results116 _ rfl u5) rfl ⟨_,rfl,zbe.stays (fun g hg=>⟨⟨by have:=hg.1;omega,Nat.lt_of_lt_of_le hg.2 ho5.size⟩,ho5.block g hg.2 (by have:=hg.1;omega)⟩) q HV.out,b5⟩
  ·rw [if_pos (by rfl)]
   have c0:=u1.c5
   go_simp
   refine hK.out _ _ ⟨_,_,_,u1⟩ (fun _=>?_)
   clear hK K c0
   try simp only [putS]
   refine tg (i:=9) (.pointer (some ⟨w.heap.size,3,none⟩)) rfl ⟨_,_,_,u1⟩ ?_
   refine tr 5 rfl (fun K hK=>?_)
   rw [if_pos (by rfl)]
   go_simp
   refine (HCX.out _).mono ?_
   rintro e0 w3 ⟨rfl,hb3⟩
   replace u1:=u1.below hb3
   replace u2:=u2.below hb3
   replace bw:=zab bw hb3 bw.size
   refine hK.out _ _ ⟨_,_,_,u1⟩ (fun _=>?_)
   clear hK K hb3
   try simp only [putS]
   refine tr 8 rfl (fun K hK=>?_)
   rw [if_pos (by rfl)]
   go_simp
   refine (HLL.out _ bw).mono ?_
   rintro e0 w3 ⟨V,xs,rfl,hown,hrow,hb3⟩
   have hV:zbe w3 (fun g=>w.heap.size+1 < g∧g < w3.heap.size) V q:=zbe.stays (fun g hg=>⟨⟨by have:=hg.1;have:=u2.lt;omega,hg.2⟩,rfl⟩) q (zdd q (za8.slice hown hrow))
   obtain ⟨pv,cv,rfl⟩:=zbt (zbe.held q hV)
   replace u1:=u1.below hb3
   replace u2:=u2.below hb3
   replace bw:=zab bw hb3 bw.size
   have HV:=Lib.hid hV
   refine hK.out _ _ ⟨_,_,_,u1⟩ (fun _=>?_)
   clear hK K hb3 hown hrow hV
   try simp only [putS]
   refine tr 10 rfl (fun K hK=>?_)
   have c0:=u1.c3
   have f0:=u1.free 3
   go_simp
   replace HV:=Lib.hid (zde (i:=3) (v:=.string t) q HV.out)
   replace bw:=zc9 (e:=w.heap.size) (o:=3) bw none (.string t) (Nat.le_refl _) bw.size
   replace u2:=u2.only ((Only.refl w.heap.size _).setCell 3 none (.string t)) (by omega)
   replace u1:=u1.set3 t
   refine hK.out _ _ ⟨_,_,_,u1⟩ (fun _=>?_)
   clear hK K c0 f0
   try simp only [putS]
   refine tg (i:=11) (.pointer (some ⟨w.heap.size,4,none⟩)) rfl ⟨_,_,_,u1⟩ ?_
   refine tr 12 rfl (fun K hK=>?_)
   have c0:=u1.c4
   have f0:=u1.free 4
   go_simp
   replace HV:=Lib.hid (zde (i:=4) (v:=.string x) q HV.out)
   replace bw:=zc9 (e:=w.heap.size) (o:=4) bw none (.string x) (Nat.le_refl _) bw.size
   replace u2:=u2.only ((Only.refl w.heap.size _).setCell 4 none (.string x)) (by omega)
   replace u1:=u1.set4 x
   refine hK.out _ _ ⟨_,_,_,u1⟩ (fun _=>?_)
   clear hK K c0 f0
   try simp only [putS]
   refine tg (i:=13) (.pointer (some ⟨w.heap.size,5,none⟩)) rfl ⟨_,_,_,u1⟩ ?_
   refine tr 14 rfl (fun K hK=>?_)
   have c0:=u1.c5
   have f0:=u1.free 5
   go_simp
   replace HV:=Lib.hid (zde (i:=5) (v:=.slice pv q.length cv) q HV.out)
   replace bw:=zc9 (e:=w.heap.size) (o:=5) bw none (.slice pv q.length cv) (Nat.le_refl _) bw.size
   replace u2:=u2.only ((Only.refl w.heap.size _).setCell 5 none (.slice pv q.length cv)) (by omega)
   replace u1:=u1.set5 pv q.length cv
   refine hK.out _ _ ⟨_,_,_,u1⟩ (fun _=>?_)
   clear hK K c0 f0
   try simp only [putS]
   refine wpAnyH_done (by kernel_rfl) ?_ _
   go_wp2_with (first
    |((with_reducible refine zaj (.tmp 1) w.heap.size u1 ?_ ?_ ?_ ?_);rfl;rfl;rfl)
    |((with_reducible refine zes (k':=k) (b':=b) (n':=n) (t':=t) (x':=x) (p':=pv) (len':=q.length) (cap':=cv) (.tmp 2) (.tmp 15) (w.heap.size+1) u2 ?_ ?_ ?_ ?_ ?_);rfl;rfl;rfl;rfl;intro w5 ho5 u5))
   have b5:=zam bw ho5 (Nat.le_succ _) bw.size
   refine bodyPost_ret (ze8 (p:=2) Tryz.results116 _ rfl u5) rfl ⟨_,rfl,zbe.stays (fun g hg=>⟨⟨by have:=hg.1;omega,Nat.lt_of_lt_of_le hg.2 ho5.size⟩,ho5.block g hg.2 (by have:=hg.1;omega)⟩) q HV.out,b5⟩
 ·rw [if_pos (by rfl)]
  have c0:=u1.c5
  go_simp
  refine hK.out _ _ ⟨_,_,_,u1⟩ (fun _=>?_)
  clear hK K c0
  try simp only [putS]
  refine tr 2 rfl (fun K hK=>?_)
  rw [if_pos (by rfl)]
  go_simp
  refine (HCL.out _).mono ?_
  rintro e0 w3 ⟨rfl,hb3⟩
  replace u1:=u1.below hb3
  replace u2:=u2.below hb3
  replace bw:=zab bw hb3 bw.size
  refine hK.out _ _ ⟨_,_,_,u1⟩ (fun _=>?_)
  clear hK K hb3
  try simp only [putS]
  refine tg (i:=9) (.pointer (some ⟨w.heap.size,3,none⟩)) rfl ⟨_,_,_,u1⟩ ?_
  refine tr 5 rfl (fun K hK=>?_)
  rw [if_pos (by rfl)]
  go_simp
  refine (HCX.out _).mono ?_
  rintro e0 w3 ⟨rfl,hb3⟩
  replace u1:=u1.below hb3
  replace u2:=u2.below hb3
  replace bw:=zab bw hb3 bw.size
  refine hK.out _ _ ⟨_,_,_,u1⟩ (fun _=>?_)
  clear hK K hb3
  try simp only [putS]
  refine tr 8 rfl (fun K hK=>?_)
  rw [if_pos (by rfl)]
  go_simp
  refine (HLL.out _ bw).mono ?_
  rintro e0 w3 ⟨V,xs,rfl,hown,hrow,hb3⟩
  have hV:zbe w3 (fun g=>w.heap.size+1 < g∧g < w3.heap.size) V q:=zbe.stays (fun g hg=>⟨⟨by have:=hg.1;have:=u2.lt;omega,hg.2⟩,rfl⟩) q (zdd q (za8.slice hown hrow))
  obtain ⟨pv,cv,rfl⟩:=zbt (zbe.held q hV)
  replace u1:=u1.below hb3
  replace u2:=u2.below hb3
  replace bw:=zab bw hb3 bw.size
  have HV:=Lib.hid hV
  refine hK.out _ _ ⟨_,_,_,u1⟩ (fun _=>?_)
  clear hK K hb3 hown hrow hV
  try simp only [putS]
  refine tr 10 rfl (fun K hK=>?_)
  have c0:=u1.c3
  have f0:=u1.free 3
  go_simp
  replace HV:=Lib.hid (zde (i:=3) (v:=.string t) q HV.out)
  replace bw:=zc9 (e:=w.heap.size) (o:=3) bw none (.string t) (Nat.le_refl _) bw.size
  replace u2:=u2.only ((Only.refl w.heap.size _).setCell 3 none (.string t)) (by omega)
  replace u1:=u1.set3 t
  refine hK.out _ _ ⟨_,_,_,u1⟩ (fun _=>?_)
  clear hK K c0 f0
  try simp only [putS]
  refine tg (i:=11) (.pointer (some ⟨w.heap.size,4,none⟩)) rfl ⟨_,_,_,u1⟩ ?_
  refine tr 12 rfl (fun K hK=>?_)
  have c0:=u1.c4
  have f0:=u1.free 4
  go_simp
  replace HV:=Lib.hid (zde (i:=4) (v:=.string x) q HV.out)
  replace bw:=zc9 (e:=w.heap.size) (o:=4) bw none (.string x) (Nat.le_refl _) bw.size
  replace u2:=u2.only ((Only.refl w.heap.size _).setCell 4 none (.string x)) (by omega)
  replace u1:=u1.set4 x
  refine hK.out _ _ ⟨_,_,_,u1⟩ (fun _=>?_)
  clear hK K c0 f0
  try simp only [putS]
  refine tg (i:=13) (.pointer (some ⟨w.heap.size,5,none⟩)) rfl ⟨_,_,_,u1⟩ ?_
  refine tr 14 rfl (fun K hK=>?_)
  have c0:=u1.c5
  have f0:=u1.free 5
  go_simp
  replace HV:=Lib.hid (zde (i:=5) (v:=.slice pv q.length cv) q HV.out)
  replace bw:=zc9 (e:=w.heap.size) (o:=5) bw none (.slice pv q.length cv) (Nat.le_refl _) bw.size
  replace u2:=u2.only ((Only.refl w.heap.size _).setCell 5 none (.slice pv q.length cv)) (by omega)
  replace u1:=u1.set5 pv q.length cv
  refine hK.out _ _ ⟨_,_,_,u1⟩ (fun _=>?_)
  clear hK K c0 f0
  try simp only [putS]
  refine wpAnyH_done (by kernel_rfl) ?_ _
  go_wp2_with (first
   |((with_reducible refine zaj (.tmp 1) w.heap.size u1 ?_ ?_ ?_ ?_);rfl;rfl;rfl)
   |((with_reducible refine zes (k':=k) (b':=b) (n':=n) (t':=t) (x':=x) (p':=pv) (len':=q.length) (cap':=cv) (.tmp 2) (.tmp 15) (w.heap.size+1) u2 ?_ ?_ ?_ ?_ ?_);rfl;rfl;rfl;rfl;intro w5 ho5 u5))
  have b5:=zam bw ho5 (Nat.le_succ _) bw.size
  refine bodyPost_ret (ze8 (p:=2) Tryz.results116 _ rfl u5) rfl ⟨_,rfl,zbe.stays (fun g hg=>⟨⟨by have:=hg.1;omega,Nat.lt_of_lt_of_le hg.2 ho5.size⟩,ho5.block g hg.2 (by have:=hg.1;omega)⟩) q HV.out,b5⟩
mutual
theorem zo5:(v:Val)→OwnV v
 | .mk k b n t x q=>by
   intro W c h
   obtain ⟨L,rfl,hf,hq⟩:=h
   obtain ⟨p,cap,rfl⟩:=zbt (zbe.held q hq)
   refine (ownStep k b n t x q p cap W hf hq (zux q)).mono ?_
   rintro e w' ⟨V,rfl,hV,hb⟩
   exact ⟨_,[.int .i64 k,.bool b,.int .i64 n,.string t,.string x,V],rfl,rfl,⟨V,rfl,hf,hV⟩,hb⟩
theorem zux:(q:List Val)→∀ v∈q,OwnV v
 | [],v,h=>by cases h
 | u::r,v,h=>by
   rcases List.mem_cons.1 h with e | h
   ·rw [e]
    exact zo5 u
   ·exact zux r v h
end
end Go.Proofs.YteclpnfckjfibaaGreatDoor

/- RU -/
namespace Go.Proofs.YteclpnfckjfibaaGreatDoor
open Go.RowKit
def bl (b:ByteArray):List UInt8:=b.data.toList
theorem zrs {a b:ByteArray} (h:bl a=bl b):a=b:=by
 cases a;cases b
 simp only [bl] at h
 congr
 exact Array.toList_inj.1 h
theorem zqk {x y:ByteArray} (h:¬ x=y):(x.toList == y.toList)=false:=by
 rw [beq_eq_false_iff_ne]
 intro e
 rw [Lib.toList_data,Lib.toList_data] at e
 exact h (zrs e)
def eqB (a b:ByteArray):Bool:=decide (bl a=bl b)
theorem zhh (a b:ByteArray):eqB a b=true↔a=b:=by
 unfold eqB
 rw [decide_eq_true_iff]
 exact ⟨zrs,fun h=>by rw [h]⟩
theorem zzn {a b:ByteArray} (h:¬ a=b):eqB a b=false:=by rw [Bool.eq_false_iff];exact fun q=>h ((zhh a b).1 q)
def zau (t:ByteArray) (ts:List ByteArray):Option Nat:=ts.findIdx? (eqB t)
def za3:Option Nat→Int
 | none=>-1
 | some k=>k
theorem zfz {t:ByteArray} {ts:List ByteArray} {k:Nat} (h:zau t ts=some k):∃ hk:k < ts.length,ts[k]=t∧∀ j (hj:j < k),ts[j]'(by omega)≠t:=by
 unfold zau at h
 rw [List.findIdx?_eq_some_iff_getElem] at h
 obtain ⟨hk,h1,h2⟩:=h
 refine ⟨hk,((zhh _ _).1 h1).symm,fun j hj e=>?_⟩
 exact h2 j hj ((zhh _ _).2 e.symm)
theorem zsz {a b:ByteArray}:eqB a b=false↔¬ a=b:=⟨fun h e=>Bool.noConfusion (((zhh a b).2 e).symm.trans h),zzn⟩
theorem zc4 {t:ByteArray} {ts:List ByteArray}:zau t ts=none↔∀ x∈ts,x≠t:=by
 unfold zau
 rw [List.findIdx?_eq_none_iff]
 exact ⟨fun h x hx e=>by have:=h x hx;rw [zsz] at this;exact this e.symm,fun h x hx=>zzn fun e=>h x hx e.symm⟩
theorem zc2 {t:ByteArray} {ts:List ByteArray} {k:Nat} (h:zau t ts=some k):k < ts.length:=(zfz h).1
theorem zfe {t:ByteArray} {ts:List ByteArray} {k:Nat} (hk:k < ts.length) (e:ts[k]=t) (h:∀ j (hj:j < ts.length),j < k→ts[j]≠t):zau t ts=some k:=by
 unfold zau
 rw [List.findIdx?_eq_some_iff_getElem]
 exact ⟨hk,(zhh _ _).2 e.symm,fun j hj q=>h j (by omega) hj ((zhh _ _).1 q).symm⟩
def memB (t:ByteArray) (ts:List ByteArray):Bool:=(zau t ts).isSome
theorem zet (t:ByteArray) (ts:List ByteArray):memB t ts=true↔t∈ts:=by
 unfold memB
 constructor
 ·intro h
  obtain ⟨k,hk⟩:=Option.isSome_iff_exists.1 h
  obtain ⟨h1,h2,_⟩:=zfz hk
  rw [← h2]
  exact List.getElem_mem h1
 ·intro h
  rw [Option.isSome_iff_ne_none]
  intro q
  exact zc4.1 q t h rfl
def isB:Val→Bool
 | .mk k _ _ _ _ _=>decide (k≠0)
set_option maxHeartbeats 1600000 in
set_option maxRecDepth 20000 in
theorem zdr (v:Val) (W:World) (c:List Value) (P:Nat→Prop) (h:zcz W P c v):Calls Tryz.prog 126 #[.agg c.toArray] W fun e w'=>e=.returned (.bool (isB v))∧Low W.heap.size W w':=by
 obtain ⟨k,b,n,t,x,q⟩:=v
 obtain ⟨L,rfl,hf,hq⟩:=h
 obtain ⟨p,cap,rfl⟩:=zbt (zbe.held q hq)
 have c0:(W.alloc (.cells #[.int .i64 k,.bool b,.int .i64 n,.string t,.string x,.slice p q.length cap] 48)).cell? ⟨W.heap.size,0,none⟩=some (.int .i64 k):=zac (zah _ _ rfl) 0 rfl
 have b0:=low1 W (.cells #[.int .i64 k,.bool b,.int .i64 n,.string t,.string x,.slice p q.length cap] 48)
 clear hf hq
 by_cases h1:k=0
 ·subst h1
  go_enter Tryz.func126,Tryz.ntmps126
  go_wp2_with fail
  go_ret
  exact ⟨rfl,b0⟩
 ·have h2:(k != 0)=true:=by simpa using h1
  have h3:(k == 0)=false:=by simpa using h1
  have e:isB (.mk k b n t x q)=true:=by simp [isB,h1]
  rw [e]
  clear e
  go_enter Tryz.func126,Tryz.ntmps126
  go_wp2_with fail
  go_ret
  exact ⟨by first | rfl | simp [h1],b0⟩
theorem zmd (v:Val) (W:World) (c:List Value) (P:Nat→Prop) (h:zcz W P c v) (hG:Gd W):Calls Tryz.prog 56 #[.agg c.toArray] W fun e w'=>e=.returned (.bool (mayP v 0))∧Low W.heap.size W w':=by
 obtain ⟨k,b,n,t,x,q⟩:=v
 obtain ⟨L,rfl,hf,hq⟩:=h
 exact zrp _ k b n t x q L W rfl hG hf.ht hf.hx (zbe.held q hq)
set_option maxHeartbeats 1600000 in
set_option maxRecDepth 20000 in
theorem zm5 (V:Value) (ts:List ByteArray) (t:ByteArray) (P:Nat→Prop) (W:World) (h:zaf za0 W P V ts) (hn:ts.length≤2097152):Calls Tryz.prog 124 #[V,.string t] W fun e w'=>e=.returned (.int .i64 (za3 (zau t ts)))∧W=w':=by
 obtain ⟨p,cap,rfl⟩:=h.slice
 obtain ⟨n,hl⟩:∃ n,n=ts.length:=⟨_,rfl⟩
 obtain ⟨r,hr⟩:∃ r,r=za3 (zau t ts):=⟨_,rfl⟩
 rw [← hr,← hl]
 rw [← hl] at hn
 have HC:=Lib.hid h
 have HL:=Lib.hid hl
 have HR:=Lib.hid hr
 clear h hl hr
 go_enter Tryz.func124,Tryz.ntmps124
 go_wp2_with fail
 go_loopg [8] n (fun gg s8 wr=>∃ j:Nat,j+gg=n∧s8=.int .i64 j∧Hid (∀ i (h:i < ts.length),i < j→ts[i]≠t)∧wr=W)
 case atStart=>exact ⟨0,by omega,rfl,Lib.hid (fun i _ h=>absurd h (by omega)),rfl⟩
 case round=>
  obtain ⟨j,hjg,rfl,HA,rfl⟩:=hrel
  by_cases hj:(j:Int) < n
  ·have hj1:j < ts.length:=by have:=HL.out;omega
   obtain ⟨g,off,cap',c,e0,hg,hrl,hra⟩:=HC.out.at_ j hj1
   injection e0 with e1 e2 e3
   subst e1
   obtain ⟨y,hy⟩:∃ y,y=ts[j]:=⟨_,rfl⟩
   obtain ⟨rfl,hwf⟩:=hrl
   have cj:wr.cell? ⟨g,off+j,none⟩=some (.string y):=by
    have:=hra 0 _ rfl
    rw [hy]
    simpa [za0] using this
   have HY:=Lib.hid hy
   clear hra hy hg hwf e2 e3
   by_cases q:t=y
   ·subst q
    have HR2:Hid (r=j):=Lib.hid (by rw [HR.out,zfe hj1 HY.out.symm HA.out];rfl)
    go_wp2_with fail
    go_ret
    exact ⟨by rw [HR2.out];rfl,rfl⟩
   ·have q2:(t.toList == y.toList)=false:=zqk q
    have HA2:Hid (∀ i (h:i < ts.length),i < j+1→ts[i]≠t):=Lib.hid fun i h1 h2=>by
     by_cases e:i=j
     ·subst e
      rw [← HY.out]
      exact fun z=>q z.symm
     ·exact HA.out i h1 (by omega)
    clear q
    go_wp2_with fail
    go_roundg (gk - 1)
    case measure=>omega
    case rel=>exact ⟨j+1,by omega,by go_num,HA2,rfl⟩
  ·have HR2:Hid (r=-1):=Lib.hid (by
    rw [HR.out,zc4.2 fun x hx=>?_]
    ·rfl
    ·obtain ⟨i,hi,rfl⟩:=List.getElem_of_mem hx
     exact HA.out i hi (by have:=HL.out;omega))
   go_wp2_with fail
   go_ret
   exact ⟨by rw [HR2.out];rfl,rfl⟩
theorem zme (V:Value) (ts:List ByteArray) (t:ByteArray) (P:Nat→Prop) (W:World) (h:zaf za0 W P V ts) (hn:ts.length≤2097152):Calls Tryz.prog 120 #[V,.string t] W fun e w'=>e=.returned (.bool (memB t ts))∧W=w':=by
 have HI:=Lib.hid (zm5 V ts t P W h hn)
 obtain ⟨p,cap,rfl⟩:=h.slice
 have hm:memB t ts=(zau t ts).isSome:=rfl
 rw [hm]
 have hb:∀ k,zau t ts=some k→k < ts.length:=fun k=>zc2
 generalize zau t ts=r at*
 clear h hm
 cases r with
 | none=>
   clear hb
   go_enter Tryz.func120,Tryz.ntmps120
   go_wp2_with (first |(go_at_call 124;(with_reducible refine HI.out.mono ?_);rintro e w1 ⟨rfl,rfl⟩))
   go_ret
   exact ⟨rfl,rfl⟩
 | some k=>
   have hk:0≤(k:Int):=by omega
   clear hb
   go_enter Tryz.func120,Tryz.ntmps120
   go_wp2_with (first |(go_at_call 124;(with_reducible refine HI.out.mono ?_);rintro e w1 ⟨rfl,rfl⟩;unfold za3))
   go_ret
   exact ⟨by first | rfl | simp,rfl⟩
set_option maxHeartbeats 3200000 in
set_option maxRecDepth 20000 in
theorem zs0 (q:Val→Bool) (l:List Val) (v:Value) (w:World) (h:zaf valE w (Old w) v l) (hn:l.length≤2097152)
 (each:∀ x∈l,∀ W c,Below w.heap.size w W→valE.rel W (Old W) c x→Calls Tryz.prog 56 #[.agg c.toArray] W fun e w'=>e=.returned (.bool (q x))∧Below W.heap.size W w'):
 Calls Tryz.prog 55 #[v,.func (.func 56) #[] #[]] w fun e w'=>e=.returned (.bool (l.all q))∧Below w.heap.size w w':=by
 obtain ⟨n,hln⟩:∃ n,n=l.length:=⟨_,rfl⟩
 obtain ⟨p,cap,rfl⟩:=h.slice
 rw [← hln] at hn
 obtain ⟨ans,hans⟩:∃ ans,ans=l.all q:=⟨_,rfl⟩
 have HN:=Lib.hid hans
 rw [← hans]
 have HL:=Lib.hid hln
 have HH:=Lib.hid h
 have HE:=Lib.hid each
 rw [← hln]
 clear h hln each hans
 go_enter Tryz.func55,Tryz.ntmps55
 go_wp2_with fail
 go_loopg [9] n (fun gg s9 wr=>∃ j:Nat,j+gg=n∧s9=.int .i64 j∧Hid (Below w.heap.size w wr)∧Hid (∀ i (h:i < l.length),i < j→q l[i]=true))
 case atStart=>exact ⟨0,by omega,rfl,Lib.hid (Below.refl _ _),Lib.hid (fun i _ h=>absurd h (by omega))⟩
 case round=>
  obtain ⟨j,hjg,rfl,HB,HA⟩:=hrel
  by_cases hlt:(j:Int) < n
  ·have hj1:j < l.length:=by have:=HL.out;omega
   have hbel:=HB.out
   obtain ⟨g,off,cap',c,e0,hg,hrl,hra⟩:=(HH.out.stays (zad hbel)).at_ j hj1
   injection e0 with e1 e2 e3
   subst e1
   replace hra:wr.rangeAt g (off+j*6) c:=hra
   have hlen:c.length=6:=valE.len hrl
   have hbs:=hbel.size
   obtain ⟨r,hr⟩:∃ r,r=q l[j]:=⟨_,rfl⟩
   have hone:=valE.one hrl
   have HR:=Lib.hid (And.intro hrl hra)
   clear hrl hra e2 e3 hbel
   go_upto_region 4 with (first
    |((with_reducible refine zax (.tmp 11) g (off+j*6) 48 c 6 _ HR.out.2 hlen Tryz.underlying48 rfl zai ?_ ?_ ?_ ?_);rfl;rfl;rfl)
    |((with_reducible refine zas (.tmp 6) (.tmp 12) wr.heap.size 48 48 _ c 6 (zah _ _ rfl) hlen ?_ ?_ ?_ ?_ zai rfl hone ?_);rfl;rfl;rfl;rfl;intro wX oX hX))
   have bX:Below wr.heap.size wr wX:=zam (zaz wr _) oX (Nat.le_refl _) (by simp)
   have bWX:Below w.heap.size w wX:=HB.out.trans (bX.mono hbs)
   have hcall:=HE.out l[j] (List.getElem_mem hj1) wX c bWX (valE.stays (zad bX) HR.out.1)
   rw [← hr] at hcall
   have HC:=Lib.hid hcall
   have HR2:=Lib.hid hr
   have HX:=Lib.hid (And.intro bWX hX)
   clear oX bX bWX hcall hr
   cases r with
   | true=>
     go_wp2_with (first
      |((with_reducible refine zag (.tmp 6) wr.heap.size 48 48 c 6 _ hX hlen Tryz.underlying48 rfl zai ?_ ?_ ?_ ?_);rfl;rfl;rfl)
      |(go_at_call 56;(with_reducible refine HC.out.mono ?_);rintro e w3 ⟨rfl,hb3⟩))
     have HB2:Hid (Below w.heap.size w w3):=Lib.hid (HX.out.1.trans (hb3.mono HX.out.1.size))
     clear hb3
     go_wp2_with fail
     go_roundg (gk - 1)
     case measure=>omega
     case rel=>
      refine ⟨j+1,by omega,by go_num,HB2,Lib.hid fun i h hi=>?_⟩
      by_cases e:i=j
      ·subst e;exact HR2.out.symm
      ·exact HA.out i h (by omega)
   | false=>
     go_wp2_with (first
      |((with_reducible refine zag (.tmp 6) wr.heap.size 48 48 c 6 _ hX hlen Tryz.underlying48 rfl zai ?_ ?_ ?_ ?_);rfl;rfl;rfl)
      |(go_at_call 56;(with_reducible refine HC.out.mono ?_);rintro e w3 ⟨rfl,hb3⟩))
     have HB2:Hid (Below w.heap.size w w3):=Lib.hid (HX.out.1.trans (hb3.mono HX.out.1.size))
     clear hb3
     go_wp2_with fail
     go_ret
     refine ⟨?_,HB2.out⟩
     have e:l.all q=false:=List.all_eq_false.2 ⟨l[j],List.getElem_mem hj1,by rw [← HR2.out];decide⟩
     rw [HN.out.trans e]
     try rfl
  ·have e:l.all q=true:=List.all_eq_true.2 fun x hx=>by
    obtain ⟨i,hi,rfl⟩:=List.getElem_of_mem hx
    exact HA.out i hi (by have:=HL.out;omega)
   have HQ:=Lib.hid e
   clear e
   go_wp2_with fail
   go_ret
   refine ⟨?_,HB.out⟩
   rw [HN.out.trans HQ.out]
   try rfl
set_option maxHeartbeats 3200000 in
set_option maxRecDepth 20000 in
theorem zk5 (q:Val→Bool) (l:List Val) (v:Value) (w:World) (h:zaf valE w (Old w) v l) (hn:l.length≤2097152)
 (each:∀ x∈l,∀ W c,Below w.heap.size w W→valE.rel W (Old W) c x→Calls Tryz.prog 126 #[.agg c.toArray] W fun e w'=>e=.returned (.bool (q x))∧Below W.heap.size W w'):
 Calls Tryz.prog 55 #[v,.func (.func 126) #[] #[]] w fun e w'=>e=.returned (.bool (l.all q))∧Below w.heap.size w w':=by
 obtain ⟨n,hln⟩:∃ n,n=l.length:=⟨_,rfl⟩
 obtain ⟨p,cap,rfl⟩:=h.slice
 rw [← hln] at hn
 obtain ⟨ans,hans⟩:∃ ans,ans=l.all q:=⟨_,rfl⟩
 have HN:=Lib.hid hans
 rw [← hans]
 have HL:=Lib.hid hln
 have HH:=Lib.hid h
 have HE:=Lib.hid each
 rw [← hln]
 clear h hln each hans
 go_enter Tryz.func55,Tryz.ntmps55
 go_wp2_with fail
 go_loopg [9] n (fun gg s9 wr=>∃ j:Nat,j+gg=n∧s9=.int .i64 j∧Hid (Below w.heap.size w wr)∧Hid (∀ i (h:i < l.length),i < j→q l[i]=true))
 case atStart=>exact ⟨0,by omega,rfl,Lib.hid (Below.refl _ _),Lib.hid (fun i _ h=>absurd h (by omega))⟩
 case round=>
  obtain ⟨j,hjg,rfl,HB,HA⟩:=hrel
  by_cases hlt:(j:Int) < n
  ·have hj1:j < l.length:=by have:=HL.out;omega
   have hbel:=HB.out
   obtain ⟨g,off,cap',c,e0,hg,hrl,hra⟩:=(HH.out.stays (zad hbel)).at_ j hj1
   injection e0 with e1 e2 e3
   subst e1
   replace hra:wr.rangeAt g (off+j*6) c:=hra
   have hlen:c.length=6:=valE.len hrl
   have hbs:=hbel.size
   obtain ⟨r,hr⟩:∃ r,r=q l[j]:=⟨_,rfl⟩
   have hone:=valE.one hrl
   have HR:=Lib.hid (And.intro hrl hra)
   clear hrl hra e2 e3 hbel
   go_upto_region 4 with (first
    |((with_reducible refine zax (.tmp 11) g (off+j*6) 48 c 6 _ HR.out.2 hlen Tryz.underlying48 rfl zai ?_ ?_ ?_ ?_);rfl;rfl;rfl)
    |((with_reducible refine zas (.tmp 6) (.tmp 12) wr.heap.size 48 48 _ c 6 (zah _ _ rfl) hlen ?_ ?_ ?_ ?_ zai rfl hone ?_);rfl;rfl;rfl;rfl;intro wX oX hX))
   have bX:Below wr.heap.size wr wX:=zam (zaz wr _) oX (Nat.le_refl _) (by simp)
   have bWX:Below w.heap.size w wX:=HB.out.trans (bX.mono hbs)
   have hcall:=HE.out l[j] (List.getElem_mem hj1) wX c bWX (valE.stays (zad bX) HR.out.1)
   rw [← hr] at hcall
   have HC:=Lib.hid hcall
   have HR2:=Lib.hid hr
   have HX:=Lib.hid (And.intro bWX hX)
   clear oX bX bWX hcall hr
   cases r with
   | true=>
     go_wp2_with (first
      |((with_reducible refine zag (.tmp 6) wr.heap.size 48 48 c 6 _ hX hlen Tryz.underlying48 rfl zai ?_ ?_ ?_ ?_);rfl;rfl;rfl)
      |(go_at_call 126;(with_reducible refine HC.out.mono ?_);rintro e w3 ⟨rfl,hb3⟩))
     have HB2:Hid (Below w.heap.size w w3):=Lib.hid (HX.out.1.trans (hb3.mono HX.out.1.size))
     clear hb3
     go_wp2_with fail
     go_roundg (gk - 1)
     case measure=>omega
     case rel=>
      refine ⟨j+1,by omega,by go_num,HB2,Lib.hid fun i h hi=>?_⟩
      by_cases e:i=j
      ·subst e;exact HR2.out.symm
      ·exact HA.out i h (by omega)
   | false=>
     go_wp2_with (first
      |((with_reducible refine zag (.tmp 6) wr.heap.size 48 48 c 6 _ hX hlen Tryz.underlying48 rfl zai ?_ ?_ ?_ ?_);rfl;rfl;rfl)
      |(go_at_call 126;(with_reducible refine HC.out.mono ?_);rintro e w3 ⟨rfl,hb3⟩))
     have HB2:Hid (Below w.heap.size w w3):=Lib.hid (HX.out.1.trans (hb3.mono HX.out.1.size))
     clear hb3
     go_wp2_with fail
     go_ret
     refine ⟨?_,HB2.out⟩
     have e:l.all q=false:=List.all_eq_false.2 ⟨l[j],List.getElem_mem hj1,by rw [← HR2.out];decide⟩
     rw [HN.out.trans e]
     try rfl
  ·have e:l.all q=true:=List.all_eq_true.2 fun x hx=>by
    obtain ⟨i,hi,rfl⟩:=List.getElem_of_mem hx
    exact HA.out i hi (by have:=HL.out;omega)
   have HQ:=Lib.hid e
   clear e
   go_wp2_with fail
   go_ret
   refine ⟨?_,HB.out⟩
   rw [HN.out.trans HQ.out]
   try rfl
set_option maxHeartbeats 3200000 in
set_option maxRecDepth 20000 in
theorem zo6 (q:ByteArray→Bool) (l:List ByteArray) (v:Value) (w:World) (h:zaf za0 w (Old w) v l) (hn:l.length≤2097152)
 (each:∀ x∈l,∀ W c,Below w.heap.size w W→za0.rel W (Old W) c x→Calls Tryz.prog 101 #[.string x] W fun e w'=>e=.returned (.bool (q x))∧Below W.heap.size W w'):
 Calls Tryz.prog 100 #[v,.func (.func 101) #[] #[]] w fun e w'=>e=.returned (.bool (l.all q))∧Below w.heap.size w w':=by
 obtain ⟨n,hln⟩:∃ n,n=l.length:=⟨_,rfl⟩
 obtain ⟨p,cap,rfl⟩:=h.slice
 rw [← hln] at hn
 obtain ⟨ans,hans⟩:∃ ans,ans=l.all q:=⟨_,rfl⟩
 have HN:=Lib.hid hans
 rw [← hans]
 have HL:=Lib.hid hln
 have HH:=Lib.hid h
 have HE:=Lib.hid each
 rw [← hln]
 clear h hln each hans
 go_enter Tryz.func100,Tryz.ntmps100
 go_wp2_with fail
 go_loopg [9] n (fun gg s9 wr=>∃ j:Nat,j+gg=n∧s9=.int .i64 j∧Hid (Below w.heap.size w wr)∧Hid (∀ i (h:i < l.length),i < j→q l[i]=true))
 case atStart=>exact ⟨0,by omega,rfl,Lib.hid (Below.refl _ _),Lib.hid (fun i _ h=>absurd h (by omega))⟩
 case round=>
  obtain ⟨j,hjg,rfl,HB,HA⟩:=hrel
  by_cases hlt:(j:Int) < n
  ·have hj1:j < l.length:=by have:=HL.out;omega
   have hbel:=HB.out
   obtain ⟨g,off,cap',c,e0,hg,hrl,hra⟩:=(HH.out.stays (zad hbel)).at_ j hj1
   injection e0 with e1 e2 e3
   subst e1
   replace hra:wr.rangeAt g (off+j*1) c:=hra
   have hlen:c.length=1:=za0.len hrl
   have hbs:=hbel.size
   obtain ⟨r,hr⟩:∃ r,r=q l[j]:=⟨_,rfl⟩
   obtain ⟨rfl,hwf⟩:=hrl
   have c0:wr.cell? ⟨g,off+j,none⟩=some (.string l[j]):=by
    have:=hra 0 _ rfl
    simpa using this
   have hcall:=HE.out l[j] (List.getElem_mem hj1) wr _ hbel ⟨rfl,hwf⟩
   rw [← hr] at hcall
   have HC:=Lib.hid hcall
   have HR2:=Lib.hid hr
   clear hcall hr hra e2 e3 hbel
   cases r with
   | true=>
     go_wp2_with (first
      |(go_at_call 101;(with_reducible refine HC.out.mono ?_);rintro e w3 ⟨rfl,hb3⟩))
     have HB2:Hid (Below w.heap.size w w3):=Lib.hid (HB.out.trans (hb3.mono HB.out.size))
     clear hb3
     go_wp2_with fail
     go_roundg (gk - 1)
     case measure=>omega
     case rel=>
      refine ⟨j+1,by omega,by go_num,HB2,Lib.hid fun i h hi=>?_⟩
      by_cases e:i=j
      ·subst e;exact HR2.out.symm
      ·exact HA.out i h (by omega)
   | false=>
     go_wp2_with (first
      |(go_at_call 101;(with_reducible refine HC.out.mono ?_);rintro e w3 ⟨rfl,hb3⟩))
     have HB2:Hid (Below w.heap.size w w3):=Lib.hid (HB.out.trans (hb3.mono HB.out.size))
     clear hb3
     go_wp2_with fail
     go_ret
     refine ⟨?_,HB2.out⟩
     have e:l.all q=false:=List.all_eq_false.2 ⟨l[j],List.getElem_mem hj1,by rw [← HR2.out];decide⟩
     rw [HN.out.trans e]
     try rfl
  ·have e:l.all q=true:=List.all_eq_true.2 fun x hx=>by
    obtain ⟨i,hi,rfl⟩:=List.getElem_of_mem hx
    exact HA.out i hi (by have:=HL.out;omega)
   have HQ:=Lib.hid e
   clear e
   go_wp2_with fail
   go_ret
   refine ⟨?_,HB.out⟩
   rw [HN.out.trans HQ.out]
   try rfl
set_option maxHeartbeats 3200000 in
set_option maxRecDepth 20000 in
theorem zs1 (B:Value) (q:(List Val)→Bool) (l:List (List Val)) (v:Value) (w:World) (h:zaf rowE w (Old w) v l) (hn:l.length≤2097152)
 (each:∀ x∈l,∀ W u,Below w.heap.size w W→rowE.rel W (Old W) [u] x→Calls Tryz.prog 54 #[u,B] W fun e w'=>e=.returned (.bool (q x))∧Below W.heap.size W w'):
 Calls Tryz.prog 58 #[v,.func (.func 54) #[] #[B]] w fun e w'=>e=.returned (.bool (l.all q))∧Below w.heap.size w w':=by
 obtain ⟨n,hln⟩:∃ n,n=l.length:=⟨_,rfl⟩
 obtain ⟨p,cap,rfl⟩:=h.slice
 rw [← hln] at hn
 obtain ⟨ans,hans⟩:∃ ans,ans=l.all q:=⟨_,rfl⟩
 have HN:=Lib.hid hans
 rw [← hans]
 have HL:=Lib.hid hln
 have HH:=Lib.hid h
 have HE:=Lib.hid each
 rw [← hln]
 clear h hln each hans
 go_enter Tryz.func58,Tryz.ntmps58
 go_wp2_with fail
 go_loopg [9] n (fun gg s9 wr=>∃ j:Nat,j+gg=n∧s9=.int .i64 j∧Hid (Below w.heap.size w wr)∧Hid (∀ i (h:i < l.length),i < j→q l[i]=true))
 case atStart=>exact ⟨0,by omega,rfl,Lib.hid (Below.refl _ _),Lib.hid (fun i _ h=>absurd h (by omega))⟩
 case round=>
  obtain ⟨j,hjg,rfl,HB,HA⟩:=hrel
  by_cases hlt:(j:Int) < n
  ·have hj1:j < l.length:=by have:=HL.out;omega
   have hbel:=HB.out
   obtain ⟨g,off,cap',c,e0,hg,hrl,hra⟩:=(HH.out.stays (zad hbel)).at_ j hj1
   injection e0 with e1 e2 e3
   subst e1
   replace hra:wr.rangeAt g (off+j*1) c:=hra
   have hlen:c.length=1:=rowE.len hrl
   have hbs:=hbel.size
   obtain ⟨r,hr⟩:∃ r,r=q l[j]:=⟨_,rfl⟩
   obtain ⟨u,rfl⟩:∃ u,c=[u]:=by obtain ⟨v,rfl,_⟩:=id hrl;exact ⟨v,rfl⟩
   have c0:wr.cell? ⟨g,off+j,none⟩=some u:=by
    have:=hra 0 _ rfl
    simpa using this
   have hcall:=HE.out l[j] (List.getElem_mem hj1) wr u hbel hrl
   obtain ⟨p2,n2,cap2,rfl⟩:∃ p n cap,u=.slice p n cap:=by
    obtain ⟨v,ev,hs,_⟩:=hrl
    cases ev
    obtain ⟨p,cap,rfl⟩:=hs.slice
    exact ⟨_,_,_,rfl⟩
   clear hrl
   rw [← hr] at hcall
   have HC:=Lib.hid hcall
   have HR2:=Lib.hid hr
   clear hcall hr hra e2 e3 hbel
   cases r with
   | true=>
     go_wp2_with (first
      |(go_at_call 54;(with_reducible refine HC.out.mono ?_);rintro e w3 ⟨rfl,hb3⟩))
     have HB2:Hid (Below w.heap.size w w3):=Lib.hid (HB.out.trans (hb3.mono HB.out.size))
     clear hb3
     go_wp2_with fail
     go_roundg (gk - 1)
     case measure=>omega
     case rel=>
      refine ⟨j+1,by omega,by go_num,HB2,Lib.hid fun i h hi=>?_⟩
      by_cases e:i=j
      ·subst e;exact HR2.out.symm
      ·exact HA.out i h (by omega)
   | false=>
     go_wp2_with (first
      |(go_at_call 54;(with_reducible refine HC.out.mono ?_);rintro e w3 ⟨rfl,hb3⟩))
     have HB2:Hid (Below w.heap.size w w3):=Lib.hid (HB.out.trans (hb3.mono HB.out.size))
     clear hb3
     go_wp2_with fail
     go_ret
     refine ⟨?_,HB2.out⟩
     have e:l.all q=false:=List.all_eq_false.2 ⟨l[j],List.getElem_mem hj1,by rw [← HR2.out];decide⟩
     rw [HN.out.trans e]
     try rfl
  ·have e:l.all q=true:=List.all_eq_true.2 fun x hx=>by
    obtain ⟨i,hi,rfl⟩:=List.getElem_of_mem hx
    exact HA.out i hi (by have:=HL.out;omega)
   have HQ:=Lib.hid e
   clear e
   go_wp2_with fail
   go_ret
   refine ⟨?_,HB.out⟩
   rw [HN.out.trans HQ.out]
   try rfl
end Go.Proofs.YteclpnfckjfibaaGreatDoor
