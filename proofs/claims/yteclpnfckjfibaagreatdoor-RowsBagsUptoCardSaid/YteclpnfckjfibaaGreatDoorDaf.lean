/- Texts of one kind, one behind the other: each says ahead of itself what it shows. -/
import Derived.Test.YteclpnfckjfibaaGreatDoorDae
import Derived.Deep.RegionHeld
import Derived.Deep.Cut
import Derived.Deep.CutBlock
import Derived.BigQuiet
import Derived.Lib.SmallJoins
/- RO -/
namespace Go.Proofs.YteclpnfckjfibaaGreatDoor
open Go.RowKit
theorem ziv {w:World} {P:Nat→Prop} {g:Nat}:(l:List Val)→(off:Nat)→zb5 w P g off l→∃ xs,w.rangeAt g off xs∧RowE valE w P xs l
 | [],_,_=>⟨[],fun j u hu=>by simp at hu,RowE.nil⟩
 | .mk k b n t x q::r,off,h=>by
   unfold zb5 zbb at h
   obtain ⟨⟨h0,h1,h2,h3,h4,hf,L,h5,hl⟩,hr⟩:=h
   obtain ⟨xs,hx,hrow⟩:=ziv r (off+6) hr
   refine ⟨[.int .i64 k,.bool b,.int .i64 n,.string t,.string x,L]++xs,fun j u hu=>?_,RowE.append [_] r (RowE.single ⟨L,rfl,hf,hl⟩) hrow⟩
   by_cases hj:j < 6
   ·rw [List.getElem?_append_left (by simpa using hj)] at hu
    match j,hj with
    | 0,_=>simp at hu;subst hu;exact h0
    | 1,_=>simp at hu;subst hu;exact h1
    | 2,_=>simp at hu;subst hu;exact h2
    | 3,_=>simp at hu;subst hu;exact h3
    | 4,_=>simp at hu;subst hu;exact h4
    | 5,_=>simp at hu;subst hu;exact h5
   ·rw [List.getElem?_append_right (by simpa using hj)] at hu
    have:=hx (j - 6) u (by simpa using hu)
    rwa [show off+6+(j - 6)=off+j by omega] at this
theorem zh2 {w:World} {P:Nat→Prop} {L:Value}:(l:List Val)→zbe w P L l→zai valE w P L l
 | [],h=>by
   unfold zbe at h
   obtain ⟨p,cap,rfl⟩:=h
   exact zai.nil _ _
 | v::r,h=>by
   unfold zbe at h
   obtain ⟨g,off,cap,rfl,hg,hv,hr⟩:=h
   obtain ⟨xs,hx,hrow⟩:=ziv (v::r) off (by unfold zb5;exact ⟨hv,hr⟩)
   exact ⟨_,cap,rfl,fun _=>⟨g,off,xs,rfl,hg,hx,hrow⟩⟩
theorem ziw {w:World} {P:Nat→Prop} {g:Nat}:(l:List Val)→(off:Nat)→(xs:List Value)→w.rangeAt g off xs→RowE valE w P xs l→zb5 w P g off l
 | [],_,_,_,_=>by unfold zb5;trivial
 | .mk k b n t x q::r,off,xs,hx,h=>by
   unfold RowE at h
   obtain ⟨c,ys,rfl,⟨L,rfl,hf,hl⟩,hr⟩:=h
   unfold zb5 zbb
   refine ⟨⟨hx 0 _ rfl,hx 1 _ rfl,hx 2 _ rfl,hx 3 _ rfl,hx 4 _ rfl,hf,L,hx 5 _ rfl,hl⟩,ziw r (off+6) ys (fun j u hu=>?_) hr⟩
   have:=hx (6+j) u (by rw [List.getElem?_append_right (by simp)];simpa using hu)
   rwa [← Nat.add_assoc] at this
theorem zck {w:World} {P:Nat→Prop} {L:Value}:(l:List Val)→zai valE w P L l→zbe w P L l
 | [],h=>by
   obtain ⟨p,cap,rfl,_⟩:=h
   unfold zbe
   exact ⟨p,cap,rfl⟩
 | v::r,h=>by
   obtain ⟨p,cap,rfl,h⟩:=h
   obtain ⟨g,off,xs,rfl,hg,hx,hrow⟩:=h (by simp)
   have hh:=ziw (v::r) off xs hx hrow
   unfold zb5 at hh
   unfold zbe
   exact ⟨g,off,cap,rfl,hg,hh.1,hh.2⟩
theorem za1.slice {β:Type} {E:Elem β} {D:TypeId} {w w':World} {bs:List β} {V:Value} {xs:List Value} (h:w'.ownsRow w.heap.size D E.k V bs.length xs) (r:RowE E w' (Inn w V w') xs bs):zai E w' (New w w') V bs:=
 zbm h r (fun _ hg=>⟨hg.1,hg.2.1⟩) (fun g hg=>⟨(h.lt g hg).1,(h.lt g hg).2⟩)
theorem zdq {w:World} {N i:Nat} {V v:Value} (q:List Val) (hq:zbe w (fun g=>N+1 < g∧g < w.heap.size) V q):zbe (w.setCell ⟨N,i,none⟩ v) (fun g=>N+1 < g∧g < (w.setCell ⟨N,i,none⟩ v).heap.size) V q:=
 zbe.stays (fun g hg=>⟨⟨hg.1,by simpa using hg.2⟩,Below.heap_setCell _ _ _ _ (by show g≠N;have:=hg.1;omega)⟩) q hq
def OwnV (v:Val):Prop:=∀ (W:World) (c:List Value),zdp W (Old W) c v→Calls Tryz.prog 116 #[.agg c.toArray] W (zbs valE v W)
theorem ownList (q:List Val) (L:Value) (W:World) (hl:zbe W (Old W) L q) (hn:q.length≤2097152) (each:∀ v∈q,OwnV v):Calls Tryz.prog 162 #[L,.func (.func 116) #[] #[]] W (za1 valE 48 W q):=by
 have h:=z3q id q L W (zh2 q hl) hn fun x hx W' c _ hr=>each x hx W' c hr
 rwa [List.map_id] at h
set_option maxHeartbeats 6400000 in
set_option maxRecDepth 20000 in
theorem ownStep (k:Int) (b:Bool) (n:Int) (t x:ByteArray) (q:List Val) (p:Option Addr) (cap:Nat) (w:World) (hf:Fine n t x q.length) (hl:zbe w (Old w) (.slice p q.length cap) q) (each:∀ v∈q,OwnV v):
 Calls Tryz.prog 116 #[.agg #[.int .i64 k,.bool b,.int .i64 n,.string t,.string x,.slice p q.length cap]] w fun e w'=>∃ V,e=.returned (.agg #[.int .i64 k,.bool b,.int .i64 n,.string t,.string x,V])∧zbe w' (New w w') V q∧Below w.heap.size w w':=by
 obtain ⟨w1,hw1⟩:∃ w1,w1=(w.alloc (.cells #[.int .i64 k,.bool b,.int .i64 n,.string t,.string x,.slice p q.length cap] 48)).alloc (.cells #[.int .i64 0,.bool false,.int .i64 0,.string ⟨#[]⟩,.string ⟨#[]⟩,.slice none 0 0] 48):=⟨_,rfl⟩
 have u1:Six w1 w.heap.size k b n t x p q.length cap:=by rw [hw1];exact (zaj _ rfl).alloc _
 have u2:Six w1 (w.heap.size+1) 0 false 0 ⟨#[]⟩ ⟨#[]⟩ none 0 0:=by rw [hw1];exact zaj _ (by simp)
 have bw:Below w.heap.size w w1:=by rw [hw1];exact zcr _ _ _
 have HCL:=Lib.hid (fun W=>zsw t W (by have:=hf.ht;omega))
 have HCX:=Lib.hid (fun W=>zsw x W (by have:=hf.hx;omega))
 have HLL:Hid (∀ W,Below w.heap.size w W→Calls Tryz.prog 162 #[.slice p q.length cap,.func (.func 116) #[] #[]] W (za1 valE 48 W q)):=
  Lib.hid fun W hb=>ownList q _ W (zbe.stays (zae hb) q hl) hf.hn each
 have HW:=Lib.hid hw1
 clear hw1 hf hl each
 go_enter Tryz.func116,Tryz.ntmps116
 go_upto_region 1 with fail
 rw [← HW.out]
 refine wp_region_held_drew (S:=fun W=>∃ p' n' c',Six W w.heap.size k b n t x p' n' c') (by kernel_rfl) ⟨p,q.length,cap,u1⟩ (fun hHeld=>?_)
 replace bw:=bw.drew
 replace u1:Six w1.drew w.heap.size k b n t x p q.length cap:=u1
 replace u2:Six w1.drew (w.heap.size+1) 0 false 0 ⟨#[]⟩ ⟨#[]⟩ none 0 0:=u2
 refine tg (i:=0) (.pointer (some ⟨w.heap.size,3,none⟩)) rfl hHeld ?_
 refine tg (i:=3) (.pointer (some ⟨w.heap.size,4,none⟩)) rfl hHeld ?_
 refine tg (i:=6) (.pointer (some ⟨w.heap.size,5,none⟩)) rfl hHeld ?_
 refine tk (i:=1) (v:=.string t) rfl (Or.inl ⟨by rfl,fun W ⟨_,_,_,h⟩=>by have c0:=h.c3;go_simp⟩) hHeld ?_
 refine tk (i:=4) (v:=.string x) rfl (Or.inl ⟨by rfl,fun W ⟨_,_,_,h⟩=>by have c0:=h.c4;go_simp⟩) hHeld ?_
 clear hHeld
 refine wpAnyH_ready (rs:=[2,7]) (by kernel_rfl) (by simp) ?_
 refine AllReadyH.cons rfl (fun K hK=>?_) (AllReadyH.cons rfl (fun K hK=>?_) AllReadyH.nil)
 ·rw [if_pos (by rfl)]
  go_simp
  refine (HCL.out _).mono ?_
  rintro e0 w3 ⟨rfl,hb3⟩
  replace u1:=u1.below hb3
  replace u2:=u2.below hb3
  replace bw:=zab bw hb3 bw.size
  refine hK.out _ _ ⟨_,_,_,u1⟩ (fun _=>?_)
  clear hK K hb3
  try simp only [putS]
  refine wpAnyH_ready (rs:=[5,7]) (by kernel_rfl) (by simp) ?_
  refine AllReadyH.cons rfl (fun K hK=>?_) (AllReadyH.cons rfl (fun K hK=>?_) AllReadyH.nil)
  ·rw [if_pos (by rfl)]
   go_simp
   refine (HCX.out _).mono ?_
   rintro e0 w3 ⟨rfl,hb3⟩
   replace u1:=u1.below hb3
   replace u2:=u2.below hb3
   replace bw:=zab bw hb3 bw.size
   refine hK.out _ _ ⟨_,_,_,u1⟩ (fun _=>?_)
   clear hK K hb3
   try simp only [putS]
   refine tr 7 rfl (fun K hK=>?_)
   rw [if_pos (by rfl)]
   have c0:=u1.c5
   go_simp
   refine hK.out _ _ ⟨_,_,_,u1⟩ (fun _=>?_)
   clear hK K c0
   try simp only [putS]
   refine tg (i:=9) (.pointer (some ⟨w.heap.size,3,none⟩)) rfl ⟨_,_,_,u1⟩ ?_
   refine tr 8 rfl (fun K hK=>?_)
   rw [if_pos (by rfl)]
   go_simp
   refine (HLL.out _ bw).mono ?_
   rintro e0 w3 ⟨V,xs,rfl,hown,hrow,hb3⟩
   have hV:zbe w3 (fun g=>w.heap.size+1 < g∧g < w3.heap.size) V q:=zbe.stays (fun g hg=>⟨⟨by have:=hg.1;have:=u2.lt;omega,hg.2⟩,rfl⟩) q (zck q (za1.slice hown hrow))
   obtain ⟨pv,cv,rfl⟩:=zb4 (zbe.held q hV)
   replace u1:=u1.below hb3
   replace u2:=u2.below hb3
   replace bw:=zab bw hb3 bw.size
   have HV:=Lib.hid hV
   refine hK.out _ _ ⟨_,_,_,u1⟩ (fun _=>?_)
   clear hK K hb3 hown hrow hV
   try simp only [putS]
   refine tr 10 rfl (fun K hK=>?_)
   have c0:=u1.c3
   have f0:=u1.free 3
   go_simp
   replace HV:=Lib.hid (zdq (i:=3) (v:=.string t) q HV.out)
   replace bw:=zdk (e:=w.heap.size) (o:=3) bw none (.string t) (Nat.le_refl _) bw.size
   replace u2:=u2.only ((Only.refl w.heap.size _).setCell 3 none (.string t)) (by omega)
   replace u1:=u1.set3 t
   refine hK.out _ _ ⟨_,_,_,u1⟩ (fun _=>?_)
   clear hK K c0 f0
   try simp only [putS]
   refine tg (i:=11) (.pointer (some ⟨w.heap.size,4,none⟩)) rfl ⟨_,_,_,u1⟩ ?_
   refine tr 12 rfl (fun K hK=>?_)
   have c0:=u1.c4
   have f0:=u1.free 4
   go_simp
   replace HV:=Lib.hid (zdq (i:=4) (v:=.string x) q HV.out)
   replace bw:=zdk (e:=w.heap.size) (o:=4) bw none (.string x) (Nat.le_refl _) bw.size
   replace u2:=u2.only ((Only.refl w.heap.size _).setCell 4 none (.string x)) (by omega)
   replace u1:=u1.set4 x
   refine hK.out _ _ ⟨_,_,_,u1⟩ (fun _=>?_)
   clear hK K c0 f0
   try simp only [putS]
   refine tg (i:=13) (.pointer (some ⟨w.heap.size,5,none⟩)) rfl ⟨_,_,_,u1⟩ ?_
   refine tr 14 rfl (fun K hK=>?_)
   have c0:=u1.c5
   have f0:=u1.free 5
   go_simp
   replace HV:=Lib.hid (zdq (i:=5) (v:=.slice pv q.length cv) q HV.out)
   replace bw:=zdk (e:=w.heap.size) (o:=5) bw none (.slice pv q.length cv) (Nat.le_refl _) bw.size
   replace u2:=u2.only ((Only.refl w.heap.size _).setCell 5 none (.slice pv q.length cv)) (by omega)
   replace u1:=u1.set5 pv q.length cv
   refine hK.out _ _ ⟨_,_,_,u1⟩ (fun _=>?_)
   clear hK K c0 f0
   try simp only [putS]
   refine wpAnyH_done (by kernel_rfl) ?_ _
   go_wp2_with (first
    |((with_reducible refine zac (.tmp 1) w.heap.size u1 ?_ ?_ ?_ ?_);rfl;rfl;rfl)
    |((with_reducible refine zfp (k':=k) (b':=b) (n':=n) (t':=t) (x':=x) (p':=pv) (len':=q.length) (cap':=cv) (.tmp 2) (.tmp 15) (w.heap.size+1) u2 ?_ ?_ ?_ ?_ ?_);rfl;rfl;rfl;rfl;intro w5 ho5 u5))
   have b5:=zam bw ho5 (Nat.le_succ _) bw.size
   refine bodyPost_ret (zhy (p:=2) Tryz.results116 _ rfl u5) rfl ⟨_,rfl,zbe.stays (fun g hg=>⟨⟨by have:=hg.1;omega,Nat.lt_of_lt_of_le hg.2 ho5.size⟩,ho5.block g hg.2 (by have:=hg.1;omega)⟩) q HV.out,b5⟩
  ·rw [if_pos (by rfl)]
   have c0:=u1.c5
   go_simp
   refine hK.out _ _ ⟨_,_,_,u1⟩ (fun _=>?_)
   clear hK K c0
   try simp only [putS]
   refine tg (i:=9) (.pointer (some ⟨w.heap.size,3,none⟩)) rfl ⟨_,_,_,u1⟩ ?_
   refine tr 5 rfl (fun K hK=>?_)
   rw [if_pos (by rfl)]
   go_simp
   refine (HCX.out _).mono ?_
   rintro e0 w3 ⟨rfl,hb3⟩
   replace u1:=u1.below hb3
   replace u2:=u2.below hb3
   replace bw:=zab bw hb3 bw.size
   refine hK.out _ _ ⟨_,_,_,u1⟩ (fun _=>?_)
   clear hK K hb3
   try simp only [putS]
   refine tr 8 rfl (fun K hK=>?_)
   rw [if_pos (by rfl)]
   go_simp
   refine (HLL.out _ bw).mono ?_
   rintro e0 w3 ⟨V,xs,rfl,hown,hrow,hb3⟩
   have hV:zbe w3 (fun g=>w.heap.size+1 < g∧g < w3.heap.size) V q:=zbe.stays (fun g hg=>⟨⟨by have:=hg.1;have:=u2.lt;omega,hg.2⟩,rfl⟩) q (zck q (za1.slice hown hrow))
   obtain ⟨pv,cv,rfl⟩:=zb4 (zbe.held q hV)
   replace u1:=u1.below hb3
   replace u2:=u2.below hb3
   replace bw:=zab bw hb3 bw.size
   have HV:=Lib.hid hV
   refine hK.out _ _ ⟨_,_,_,u1⟩ (fun _=>?_)
   clear hK K hb3 hown hrow hV
   try simp only [putS]
   refine tr 10 rfl (fun K hK=>?_)
   have c0:=u1.c3
   have f0:=u1.free 3
   go_simp
   replace HV:=Lib.hid (zdq (i:=3) (v:=.string t) q HV.out)
   replace bw:=zdk (e:=w.heap.size) (o:=3) bw none (.string t) (Nat.le_refl _) bw.size
   replace u2:=u2.only ((Only.refl w.heap.size _).setCell 3 none (.string t)) (by omega)
   replace u1:=u1.set3 t
   refine hK.out _ _ ⟨_,_,_,u1⟩ (fun _=>?_)
   clear hK K c0 f0
   try simp only [putS]
   refine tg (i:=11) (.pointer (some ⟨w.heap.size,4,none⟩)) rfl ⟨_,_,_,u1⟩ ?_
   refine tr 12 rfl (fun K hK=>?_)
   have c0:=u1.c4
   have f0:=u1.free 4
   go_simp
   replace HV:=Lib.hid (zdq (i:=4) (v:=.string x) q HV.out)
   replace bw:=zdk (e:=w.heap.size) (o:=4) bw none (.string x) (Nat.le_refl _) bw.size
   replace u2:=u2.only ((Only.refl w.heap.size _).setCell 4 none (.string x)) (by omega)
   replace u1:=u1.set4 x
   refine hK.out _ _ ⟨_,_,_,u1⟩ (fun _=>?_)
   clear hK K c0 f0
   try simp only [putS]
   refine tg (i:=13) (.pointer (some ⟨w.heap.size,5,none⟩)) rfl ⟨_,_,_,u1⟩ ?_
   refine tr 14 rfl (fun K hK=>?_)
   have c0:=u1.c5
   have f0:=u1.free 5
   go_simp
   replace HV:=Lib.hid (zdq (i:=5) (v:=.slice pv q.length cv) q HV.out)
   replace bw:=zdk (e:=w.heap.size) (o:=5) bw none (.slice pv q.length cv) (Nat.le_refl _) bw.size
   replace u2:=u2.only ((Only.refl w.heap.size _).setCell 5 none (.slice pv q.length cv)) (by omega)
   replace u1:=u1.set5 pv q.length cv
   refine hK.out _ _ ⟨_,_,_,u1⟩ (fun _=>?_)
   clear hK K c0 f0
   try simp only [putS]
   refine wpAnyH_done (by kernel_rfl) ?_ _
   go_wp2_with (first
    |((with_reducible refine zac (.tmp 1) w.heap.size u1 ?_ ?_ ?_ ?_);rfl;rfl;rfl)
    |((with_reducible refine zfp (k':=k) (b':=b) (n':=n) (t':=t) (x':=x) (p':=pv) (len':=q.length) (cap':=cv) (.tmp 2) (.tmp 15) (w.heap.size+1) u2 ?_ ?_ ?_ ?_ ?_);rfl;rfl;rfl;rfl;intro w5 ho5 u5))
   have b5:=zam bw ho5 (Nat.le_succ _) bw.size
   refine bodyPost_ret (zhy (p:=2) Tryz.results116 _ rfl u5) rfl ⟨_,rfl,zbe.stays (fun g hg=>⟨⟨by have:=hg.1;omega,Nat.lt_of_lt_of_le hg.2 ho5.size⟩,ho5.block g hg.2 (by have:=hg.1;omega)⟩) q HV.out,b5⟩
 ·rw [if_pos (by rfl)]
  have c0:=u1.c5
  go_simp
  refine hK.out _ _ ⟨_,_,_,u1⟩ (fun _=>?_)
  clear hK K c0
  try simp only [putS]
  refine tr 2 rfl (fun K hK=>?_)
  rw [if_pos (by rfl)]
  go_simp
  refine (HCL.out _).mono ?_
  rintro e0 w3 ⟨rfl,hb3⟩
  replace u1:=u1.below hb3
  replace u2:=u2.below hb3
  replace bw:=zab bw hb3 bw.size
  refine hK.out _ _ ⟨_,_,_,u1⟩ (fun _=>?_)
  clear hK K hb3
  try simp only [putS]
  refine tg (i:=9) (.pointer (some ⟨w.heap.size,3,none⟩)) rfl ⟨_,_,_,u1⟩ ?_
  refine tr 5 rfl (fun K hK=>?_)
  rw [if_pos (by rfl)]
  go_simp
  refine (HCX.out _).mono ?_
  rintro e0 w3 ⟨rfl,hb3⟩
  replace u1:=u1.below hb3
  replace u2:=u2.below hb3
  replace bw:=zab bw hb3 bw.size
  refine hK.out _ _ ⟨_,_,_,u1⟩ (fun _=>?_)
  clear hK K hb3
  try simp only [putS]
  refine tr 8 rfl (fun K hK=>?_)
  rw [if_pos (by rfl)]
  go_simp
  refine (HLL.out _ bw).mono ?_
  rintro e0 w3 ⟨V,xs,rfl,hown,hrow,hb3⟩
  have hV:zbe w3 (fun g=>w.heap.size+1 < g∧g < w3.heap.size) V q:=zbe.stays (fun g hg=>⟨⟨by have:=hg.1;have:=u2.lt;omega,hg.2⟩,rfl⟩) q (zck q (za1.slice hown hrow))
  obtain ⟨pv,cv,rfl⟩:=zb4 (zbe.held q hV)
  replace u1:=u1.below hb3
  replace u2:=u2.below hb3
  replace bw:=zab bw hb3 bw.size
  have HV:=Lib.hid hV
  refine hK.out _ _ ⟨_,_,_,u1⟩ (fun _=>?_)
  clear hK K hb3 hown hrow hV
  try simp only [putS]
  refine tr 10 rfl (fun K hK=>?_)
  have c0:=u1.c3
  have f0:=u1.free 3
  go_simp
  replace HV:=Lib.hid (zdq (i:=3) (v:=.string t) q HV.out)
  replace bw:=zdk (e:=w.heap.size) (o:=3) bw none (.string t) (Nat.le_refl _) bw.size
  replace u2:=u2.only ((Only.refl w.heap.size _).setCell 3 none (.string t)) (by omega)
  replace u1:=u1.set3 t
  refine hK.out _ _ ⟨_,_,_,u1⟩ (fun _=>?_)
  clear hK K c0 f0
  try simp only [putS]
  refine tg (i:=11) (.pointer (some ⟨w.heap.size,4,none⟩)) rfl ⟨_,_,_,u1⟩ ?_
  refine tr 12 rfl (fun K hK=>?_)
  have c0:=u1.c4
  have f0:=u1.free 4
  go_simp
  replace HV:=Lib.hid (zdq (i:=4) (v:=.string x) q HV.out)
  replace bw:=zdk (e:=w.heap.size) (o:=4) bw none (.string x) (Nat.le_refl _) bw.size
  replace u2:=u2.only ((Only.refl w.heap.size _).setCell 4 none (.string x)) (by omega)
  replace u1:=u1.set4 x
  refine hK.out _ _ ⟨_,_,_,u1⟩ (fun _=>?_)
  clear hK K c0 f0
  try simp only [putS]
  refine tg (i:=13) (.pointer (some ⟨w.heap.size,5,none⟩)) rfl ⟨_,_,_,u1⟩ ?_
  refine tr 14 rfl (fun K hK=>?_)
  have c0:=u1.c5
  have f0:=u1.free 5
  go_simp
  replace HV:=Lib.hid (zdq (i:=5) (v:=.slice pv q.length cv) q HV.out)
  replace bw:=zdk (e:=w.heap.size) (o:=5) bw none (.slice pv q.length cv) (Nat.le_refl _) bw.size
  replace u2:=u2.only ((Only.refl w.heap.size _).setCell 5 none (.slice pv q.length cv)) (by omega)
  replace u1:=u1.set5 pv q.length cv
  refine hK.out _ _ ⟨_,_,_,u1⟩ (fun _=>?_)
  clear hK K c0 f0
  try simp only [putS]
  refine wpAnyH_done (by kernel_rfl) ?_ _
  go_wp2_with (first
   |((with_reducible refine zac (.tmp 1) w.heap.size u1 ?_ ?_ ?_ ?_);rfl;rfl;rfl)
   |((with_reducible refine zfp (k':=k) (b':=b) (n':=n) (t':=t) (x':=x) (p':=pv) (len':=q.length) (cap':=cv) (.tmp 2) (.tmp 15) (w.heap.size+1) u2 ?_ ?_ ?_ ?_ ?_);rfl;rfl;rfl;rfl;intro w5 ho5 u5))
  have b5:=zam bw ho5 (Nat.le_succ _) bw.size
  refine bodyPost_ret (zhy (p:=2) Tryz.results116 _ rfl u5) rfl ⟨_,rfl,zbe.stays (fun g hg=>⟨⟨by have:=hg.1;omega,Nat.lt_of_lt_of_le hg.2 ho5.size⟩,ho5.block g hg.2 (by have:=hg.1;omega)⟩) q HV.out,b5⟩
mutual
theorem zq4:(v:Val)→OwnV v
 | .mk k b n t x q=>by
   intro W c h
   obtain ⟨L,rfl,hf,hq⟩:=h
   obtain ⟨p,cap,rfl⟩:=zb4 (zbe.held q hq)
   refine (ownStep k b n t x q p cap W hf hq (zx3 q)).mono ?_
   rintro e w' ⟨V,rfl,hV,hb⟩
   exact ⟨_,[.int .i64 k,.bool b,.int .i64 n,.string t,.string x,V],rfl,rfl,⟨V,rfl,hf,hV⟩,hb⟩
theorem zx3:(q:List Val)→∀ v∈q,OwnV v
 | [],v,h=>by cases h
 | u::r,v,h=>by
   rcases List.mem_cons.1 h with e | h
   ·rw [e]
    exact zq4 u
   ·exact zx3 r v h
end
end Go.Proofs.YteclpnfckjfibaaGreatDoor

/- RU -/
namespace Go.Proofs.YteclpnfckjfibaaGreatDoor
open Go.RowKit
def bl (b:ByteArray):List UInt8:=b.data.toList
theorem zuk {a b:ByteArray} (h:bl a=bl b):a=b:=by
 cases a;cases b
 simp only [bl] at h
 congr
 exact Array.toList_inj.1 h
theorem zsy {x y:ByteArray} (h:¬ x=y):(x.toList == y.toList)=false:=by
 rw [beq_eq_false_iff_ne]
 intro e
 rw [Lib.toList_data,Lib.toList_data] at e
 exact h (zuk e)
def eqB (a b:ByteArray):Bool:=decide (bl a=bl b)
theorem zlt (a b:ByteArray):eqB a b=true↔a=b:=by
 unfold eqB
 rw [decide_eq_true_iff]
 exact ⟨zuk,fun h=>by rw [h]⟩
theorem z3r {a b:ByteArray} (h:¬ a=b):eqB a b=false:=by rw [Bool.eq_false_iff];exact fun q=>h ((zlt a b).1 q)
def zbl (t:ByteArray) (ts:List ByteArray):Option Nat:=ts.findIdx? (eqB t)
def zcx:Option Nat→Int
 | none=>-1
 | some k=>k
theorem znr {t:ByteArray} {ts:List ByteArray} {k:Nat} (h:zbl t ts=some k):∃ hk:k < ts.length,ts[k]=t∧∀ j (hj:j < k),ts[j]'(by omega)≠t:=by
 unfold zbl at h
 rw [List.findIdx?_eq_some_iff_getElem] at h
 obtain ⟨hk,h1,h2⟩:=h
 refine ⟨hk,((zlt _ _).1 h1).symm,fun j hj e=>?_⟩
 exact h2 j hj ((zlt _ _).2 e.symm)
theorem zvu {a b:ByteArray}:eqB a b=false↔¬ a=b:=⟨fun h e=>Bool.noConfusion (((zlt a b).2 e).symm.trans h),z3r⟩
theorem zfq {t:ByteArray} {ts:List ByteArray}:zbl t ts=none↔∀ x∈ts,x≠t:=by
 unfold zbl
 rw [List.findIdx?_eq_none_iff]
 exact ⟨fun h x hx e=>by have:=h x hx;rw [zvu] at this;exact this e.symm,fun h x hx=>z3r fun e=>h x hx e.symm⟩
theorem zfg {t:ByteArray} {ts:List ByteArray} {k:Nat} (h:zbl t ts=some k):k < ts.length:=(znr h).1
theorem zh3 {t:ByteArray} {ts:List ByteArray} {k:Nat} (hk:k < ts.length) (e:ts[k]=t) (h:∀ j (hj:j < ts.length),j < k→ts[j]≠t):zbl t ts=some k:=by
 unfold zbl
 rw [List.findIdx?_eq_some_iff_getElem]
 exact ⟨hk,(zlt _ _).2 e.symm,fun j hj q=>h j (by omega) hj ((zlt _ _).1 q).symm⟩
def memB (t:ByteArray) (ts:List ByteArray):Bool:=(zbl t ts).isSome
theorem zkv (t:ByteArray) (ts:List ByteArray):memB t ts=true↔t∈ts:=by
 unfold memB
 constructor
 ·intro h
  obtain ⟨k,hk⟩:=Option.isSome_iff_exists.1 h
  obtain ⟨h1,h2,_⟩:=znr hk
  rw [← h2]
  exact List.getElem_mem h1
 ·intro h
  rw [Option.isSome_iff_ne_none]
  intro q
  exact zfq.1 q t h rfl
def isB:Val→Bool
 | .mk k _ _ _ _ _=>decide (k≠0)
set_option maxHeartbeats 1600000 in
set_option maxRecDepth 20000 in
theorem zd6 (v:Val) (W:World) (c:List Value) (P:Nat→Prop) (h:zdp W P c v):Calls Tryz.prog 126 #[.agg c.toArray] W fun e w'=>e=.returned (.bool (isB v))∧Low W.heap.size W w':=by
 obtain ⟨k,b,n,t,x,q⟩:=v
 obtain ⟨L,rfl,hf,hq⟩:=h
 obtain ⟨p,cap,rfl⟩:=zb4 (zbe.held q hq)
 have c0:(W.alloc (.cells #[.int .i64 k,.bool b,.int .i64 n,.string t,.string x,.slice p q.length cap] 48)).cell? ⟨W.heap.size,0,none⟩=some (.int .i64 k):=zad (zaf _ _ rfl) 0 rfl
 have b0:=low1 W (.cells #[.int .i64 k,.bool b,.int .i64 n,.string t,.string x,.slice p q.length cap] 48)
 clear hf hq
 by_cases h1:k=0
 ·subst h1
  go_enter Tryz.func126,Tryz.ntmps126
  go_wp2_with fail
  go_ret
  exact ⟨rfl,b0⟩
 ·have h2:(k != 0)=true:=by simpa using h1
  have h3:(k == 0)=false:=by simpa using h1
  have e:isB (.mk k b n t x q)=true:=by simp [isB,h1]
  rw [e]
  clear e
  go_enter Tryz.func126,Tryz.ntmps126
  go_wp2_with fail
  go_ret
  exact ⟨by first | rfl | simp [h1],b0⟩
theorem zo2 (v:Val) (W:World) (c:List Value) (P:Nat→Prop) (h:zdp W P c v) (hG:Gd W):Calls Tryz.prog 56 #[.agg c.toArray] W fun e w'=>e=.returned (.bool (mayP v 0))∧Low W.heap.size W w':=by
 obtain ⟨k,b,n,t,x,q⟩:=v
 obtain ⟨L,rfl,hf,hq⟩:=h
 exact zuh _ k b n t x q L W rfl hG hf.ht hf.hx (zbe.held q hq)
set_option maxHeartbeats 1600000 in
set_option maxRecDepth 20000 in
theorem zqa (V:Value) (ts:List ByteArray) (t:ByteArray) (P:Nat→Prop) (W:World) (h:zai zaz W P V ts) (hn:ts.length≤2097152):Calls Tryz.prog 124 #[V,.string t] W fun e w'=>e=.returned (.int .i64 (zcx (zbl t ts)))∧W=w':=by
 obtain ⟨p,cap,rfl⟩:=h.slice
 obtain ⟨n,hl⟩:∃ n,n=ts.length:=⟨_,rfl⟩
 obtain ⟨r,hr⟩:∃ r,r=zcx (zbl t ts):=⟨_,rfl⟩
 rw [← hr,← hl]
 rw [← hl] at hn
 have HC:=Lib.hid h
 have HL:=Lib.hid hl
 have HR:=Lib.hid hr
 clear h hl hr
 go_enter Tryz.func124,Tryz.ntmps124
 go_wp2_with fail
 go_loopg [8] n (fun gg s8 wr=>∃ j:Nat,j+gg=n∧s8=.int .i64 j∧Hid (∀ i (h:i < ts.length),i < j→ts[i]≠t)∧wr=W)
 case atStart=>exact ⟨0,by omega,rfl,Lib.hid (fun i _ h=>absurd h (by omega)),rfl⟩
 case round=>
  obtain ⟨j,hjg,rfl,HA,rfl⟩:=hrel
  by_cases hj:(j:Int) < n
  ·have hj1:j < ts.length:=by have:=HL.out;omega
   obtain ⟨g,off,cap',c,e0,hg,hrl,hra⟩:=HC.out.at_ j hj1
   injection e0 with e1 e2 e3
   subst e1
   obtain ⟨y,hy⟩:∃ y,y=ts[j]:=⟨_,rfl⟩
   obtain ⟨rfl,hwf⟩:=hrl
   have cj:wr.cell? ⟨g,off+j,none⟩=some (.string y):=by
    have:=hra 0 _ rfl
    rw [hy]
    simpa [zaz] using this
   have HY:=Lib.hid hy
   clear hra hy hg hwf e2 e3
   by_cases q:t=y
   ·subst q
    have HR2:Hid (r=j):=Lib.hid (by rw [HR.out,zh3 hj1 HY.out.symm HA.out];rfl)
    go_wp2_with fail
    go_ret
    exact ⟨by rw [HR2.out];rfl,rfl⟩
   ·have q2:(t.toList == y.toList)=false:=zsy q
    have HA2:Hid (∀ i (h:i < ts.length),i < j+1→ts[i]≠t):=Lib.hid fun i h1 h2=>by
     by_cases e:i=j
     ·subst e
      rw [← HY.out]
      exact fun z=>q z.symm
     ·exact HA.out i h1 (by omega)
    clear q
    go_wp2_with fail
    go_roundg (gk - 1)
    case measure=>omega
    case rel=>exact ⟨j+1,by omega,by go_num,HA2,rfl⟩
  ·have HR2:Hid (r=-1):=Lib.hid (by
    rw [HR.out,zfq.2 fun x hx=>?_]
    ·rfl
    ·obtain ⟨i,hi,rfl⟩:=List.getElem_of_mem hx
     exact HA.out i hi (by have:=HL.out;omega))
   go_wp2_with fail
   go_ret
   exact ⟨by rw [HR2.out];rfl,rfl⟩
theorem zo3 (V:Value) (ts:List ByteArray) (t:ByteArray) (P:Nat→Prop) (W:World) (h:zai zaz W P V ts) (hn:ts.length≤2097152):Calls Tryz.prog 120 #[V,.string t] W fun e w'=>e=.returned (.bool (memB t ts))∧W=w':=by
 have HI:=Lib.hid (zqa V ts t P W h hn)
 obtain ⟨p,cap,rfl⟩:=h.slice
 have hm:memB t ts=(zbl t ts).isSome:=rfl
 rw [hm]
 have hb:∀ k,zbl t ts=some k→k < ts.length:=fun k=>zfg
 generalize zbl t ts=r at*
 clear h hm
 cases r with
 | none=>
   clear hb
   go_enter Tryz.func120,Tryz.ntmps120
   go_wp2_with (first |(go_at_call 124;(with_reducible refine HI.out.mono ?_);rintro e w1 ⟨rfl,rfl⟩))
   go_ret
   exact ⟨rfl,rfl⟩
 | some k=>
   have hk:0≤(k:Int):=by omega
   clear hb
   go_enter Tryz.func120,Tryz.ntmps120
   go_wp2_with (first |(go_at_call 124;(with_reducible refine HI.out.mono ?_);rintro e w1 ⟨rfl,rfl⟩;unfold zcx))
   go_ret
   exact ⟨by first | rfl | simp,rfl⟩
set_option maxHeartbeats 3200000 in
set_option maxRecDepth 20000 in
theorem zvv (q:Val→Bool) (l:List Val) (v:Value) (w:World) (h:zai valE w (Old w) v l) (hn:l.length≤2097152)
 (each:∀ x∈l,∀ W c,Below w.heap.size w W→valE.rel W (Old W) c x→Calls Tryz.prog 56 #[.agg c.toArray] W fun e w'=>e=.returned (.bool (q x))∧Below W.heap.size W w'):
 Calls Tryz.prog 55 #[v,.func (.func 56) #[] #[]] w fun e w'=>e=.returned (.bool (l.all q))∧Below w.heap.size w w':=by
 obtain ⟨n,hln⟩:∃ n,n=l.length:=⟨_,rfl⟩
 obtain ⟨p,cap,rfl⟩:=h.slice
 rw [← hln] at hn
 obtain ⟨ans,hans⟩:∃ ans,ans=l.all q:=⟨_,rfl⟩
 have HN:=Lib.hid hans
 rw [← hans]
 have HL:=Lib.hid hln
 have HH:=Lib.hid h
 have HE:=Lib.hid each
 rw [← hln]
 clear h hln each hans
 go_enter Tryz.func55,Tryz.ntmps55
 go_wp2_with fail
 go_loopg [9] n (fun gg s9 wr=>∃ j:Nat,j+gg=n∧s9=.int .i64 j∧Hid (Below w.heap.size w wr)∧Hid (∀ i (h:i < l.length),i < j→q l[i]=true))
 case atStart=>exact ⟨0,by omega,rfl,Lib.hid (Below.refl _ _),Lib.hid (fun i _ h=>absurd h (by omega))⟩
 case round=>
  obtain ⟨j,hjg,rfl,HB,HA⟩:=hrel
  by_cases hlt:(j:Int) < n
  ·have hj1:j < l.length:=by have:=HL.out;omega
   have hbel:=HB.out
   obtain ⟨g,off,cap',c,e0,hg,hrl,hra⟩:=(HH.out.stays (zae hbel)).at_ j hj1
   injection e0 with e1 e2 e3
   subst e1
   replace hra:wr.rangeAt g (off+j*6) c:=hra
   have hlen:c.length=6:=valE.len hrl
   have hbs:=hbel.size
   obtain ⟨r,hr⟩:∃ r,r=q l[j]:=⟨_,rfl⟩
   have hone:=valE.one hrl
   have HR:=Lib.hid (And.intro hrl hra)
   clear hrl hra e2 e3 hbel
   go_upto_region 4 with (first
    |((with_reducible refine za3 (.tmp 11) g (off+j*6) 48 c 6 _ HR.out.2 hlen Tryz.underlying48 rfl zap ?_ ?_ ?_ ?_);rfl;rfl;rfl)
    |((with_reducible refine zar (.tmp 6) (.tmp 12) wr.heap.size 48 48 _ c 6 (zaf _ _ rfl) hlen ?_ ?_ ?_ ?_ zap rfl hone ?_);rfl;rfl;rfl;rfl;intro wX oX hX))
   have bX:Below wr.heap.size wr wX:=zam (zav wr _) oX (Nat.le_refl _) (by simp)
   have bWX:Below w.heap.size w wX:=HB.out.trans (bX.mono hbs)
   have hcall:=HE.out l[j] (List.getElem_mem hj1) wX c bWX (valE.stays (zae bX) HR.out.1)
   rw [← hr] at hcall
   have HC:=Lib.hid hcall
   have HR2:=Lib.hid hr
   have HX:=Lib.hid (And.intro bWX hX)
   clear oX bX bWX hcall hr
   cases r with
   | true=>
     go_wp2_with (first
      |((with_reducible refine zah (.tmp 6) wr.heap.size 48 48 c 6 _ hX hlen Tryz.underlying48 rfl zap ?_ ?_ ?_ ?_);rfl;rfl;rfl)
      |(go_at_call 56;(with_reducible refine HC.out.mono ?_);rintro e w3 ⟨rfl,hb3⟩))
     have HB2:Hid (Below w.heap.size w w3):=Lib.hid (HX.out.1.trans (hb3.mono HX.out.1.size))
     clear hb3
     go_wp2_with fail
     go_roundg (gk - 1)
     case measure=>omega
     case rel=>
      refine ⟨j+1,by omega,by go_num,HB2,Lib.hid fun i h hi=>?_⟩
      by_cases e:i=j
      ·subst e;exact HR2.out.symm
      ·exact HA.out i h (by omega)
   | false=>
     go_wp2_with (first
      |((with_reducible refine zah (.tmp 6) wr.heap.size 48 48 c 6 _ hX hlen Tryz.underlying48 rfl zap ?_ ?_ ?_ ?_);rfl;rfl;rfl)
      |(go_at_call 56;(with_reducible refine HC.out.mono ?_);rintro e w3 ⟨rfl,hb3⟩))
     have HB2:Hid (Below w.heap.size w w3):=Lib.hid (HX.out.1.trans (hb3.mono HX.out.1.size))
     clear hb3
     go_wp2_with fail
     go_ret
     refine ⟨?_,HB2.out⟩
     have e:l.all q=false:=List.all_eq_false.2 ⟨l[j],List.getElem_mem hj1,by rw [← HR2.out];decide⟩
     rw [HN.out.trans e]
     try rfl
  ·have e:l.all q=true:=List.all_eq_true.2 fun x hx=>by
    obtain ⟨i,hi,rfl⟩:=List.getElem_of_mem hx
    exact HA.out i hi (by have:=HL.out;omega)
   have HQ:=Lib.hid e
   clear e
   go_wp2_with fail
   go_ret
   refine ⟨?_,HB.out⟩
   rw [HN.out.trans HQ.out]
   try rfl
set_option maxHeartbeats 3200000 in
set_option maxRecDepth 20000 in
theorem zns (q:Val→Bool) (l:List Val) (v:Value) (w:World) (h:zai valE w (Old w) v l) (hn:l.length≤2097152)
 (each:∀ x∈l,∀ W c,Below w.heap.size w W→valE.rel W (Old W) c x→Calls Tryz.prog 126 #[.agg c.toArray] W fun e w'=>e=.returned (.bool (q x))∧Below W.heap.size W w'):
 Calls Tryz.prog 55 #[v,.func (.func 126) #[] #[]] w fun e w'=>e=.returned (.bool (l.all q))∧Below w.heap.size w w':=by
 obtain ⟨n,hln⟩:∃ n,n=l.length:=⟨_,rfl⟩
 obtain ⟨p,cap,rfl⟩:=h.slice
 rw [← hln] at hn
 obtain ⟨ans,hans⟩:∃ ans,ans=l.all q:=⟨_,rfl⟩
 have HN:=Lib.hid hans
 rw [← hans]
 have HL:=Lib.hid hln
 have HH:=Lib.hid h
 have HE:=Lib.hid each
 rw [← hln]
 clear h hln each hans
 go_enter Tryz.func55,Tryz.ntmps55
 go_wp2_with fail
 go_loopg [9] n (fun gg s9 wr=>∃ j:Nat,j+gg=n∧s9=.int .i64 j∧Hid (Below w.heap.size w wr)∧Hid (∀ i (h:i < l.length),i < j→q l[i]=true))
 case atStart=>exact ⟨0,by omega,rfl,Lib.hid (Below.refl _ _),Lib.hid (fun i _ h=>absurd h (by omega))⟩
 case round=>
  obtain ⟨j,hjg,rfl,HB,HA⟩:=hrel
  by_cases hlt:(j:Int) < n
  ·have hj1:j < l.length:=by have:=HL.out;omega
   have hbel:=HB.out
   obtain ⟨g,off,cap',c,e0,hg,hrl,hra⟩:=(HH.out.stays (zae hbel)).at_ j hj1
   injection e0 with e1 e2 e3
   subst e1
   replace hra:wr.rangeAt g (off+j*6) c:=hra
   have hlen:c.length=6:=valE.len hrl
   have hbs:=hbel.size
   obtain ⟨r,hr⟩:∃ r,r=q l[j]:=⟨_,rfl⟩
   have hone:=valE.one hrl
   have HR:=Lib.hid (And.intro hrl hra)
   clear hrl hra e2 e3 hbel
   go_upto_region 4 with (first
    |((with_reducible refine za3 (.tmp 11) g (off+j*6) 48 c 6 _ HR.out.2 hlen Tryz.underlying48 rfl zap ?_ ?_ ?_ ?_);rfl;rfl;rfl)
    |((with_reducible refine zar (.tmp 6) (.tmp 12) wr.heap.size 48 48 _ c 6 (zaf _ _ rfl) hlen ?_ ?_ ?_ ?_ zap rfl hone ?_);rfl;rfl;rfl;rfl;intro wX oX hX))
   have bX:Below wr.heap.size wr wX:=zam (zav wr _) oX (Nat.le_refl _) (by simp)
   have bWX:Below w.heap.size w wX:=HB.out.trans (bX.mono hbs)
   have hcall:=HE.out l[j] (List.getElem_mem hj1) wX c bWX (valE.stays (zae bX) HR.out.1)
   rw [← hr] at hcall
   have HC:=Lib.hid hcall
   have HR2:=Lib.hid hr
   have HX:=Lib.hid (And.intro bWX hX)
   clear oX bX bWX hcall hr
   cases r with
   | true=>
     go_wp2_with (first
      |((with_reducible refine zah (.tmp 6) wr.heap.size 48 48 c 6 _ hX hlen Tryz.underlying48 rfl zap ?_ ?_ ?_ ?_);rfl;rfl;rfl)
      |(go_at_call 126;(with_reducible refine HC.out.mono ?_);rintro e w3 ⟨rfl,hb3⟩))
     have HB2:Hid (Below w.heap.size w w3):=Lib.hid (HX.out.1.trans (hb3.mono HX.out.1.size))
     clear hb3
     go_wp2_with fail
     go_roundg (gk - 1)
     case measure=>omega
     case rel=>
      refine ⟨j+1,by omega,by go_num,HB2,Lib.hid fun i h hi=>?_⟩
      by_cases e:i=j
      ·subst e;exact HR2.out.symm
      ·exact HA.out i h (by omega)
   | false=>
     go_wp2_with (first
      |((with_reducible refine zah (.tmp 6) wr.heap.size 48 48 c 6 _ hX hlen Tryz.underlying48 rfl zap ?_ ?_ ?_ ?_);rfl;rfl;rfl)
      |(go_at_call 126;(with_reducible refine HC.out.mono ?_);rintro e w3 ⟨rfl,hb3⟩))
     have HB2:Hid (Below w.heap.size w w3):=Lib.hid (HX.out.1.trans (hb3.mono HX.out.1.size))
     clear hb3
     go_wp2_with fail
     go_ret
     refine ⟨?_,HB2.out⟩
     have e:l.all q=false:=List.all_eq_false.2 ⟨l[j],List.getElem_mem hj1,by rw [← HR2.out];decide⟩
     rw [HN.out.trans e]
     try rfl
  ·have e:l.all q=true:=List.all_eq_true.2 fun x hx=>by
    obtain ⟨i,hi,rfl⟩:=List.getElem_of_mem hx
    exact HA.out i hi (by have:=HL.out;omega)
   have HQ:=Lib.hid e
   clear e
   go_wp2_with fail
   go_ret
   refine ⟨?_,HB.out⟩
   rw [HN.out.trans HQ.out]
   try rfl
set_option maxHeartbeats 3200000 in
set_option maxRecDepth 20000 in
theorem zq5 (q:ByteArray→Bool) (l:List ByteArray) (v:Value) (w:World) (h:zai zaz w (Old w) v l) (hn:l.length≤2097152)
 (each:∀ x∈l,∀ W c,Below w.heap.size w W→zaz.rel W (Old W) c x→Calls Tryz.prog 101 #[.string x] W fun e w'=>e=.returned (.bool (q x))∧Below W.heap.size W w'):
 Calls Tryz.prog 100 #[v,.func (.func 101) #[] #[]] w fun e w'=>e=.returned (.bool (l.all q))∧Below w.heap.size w w':=by
 obtain ⟨n,hln⟩:∃ n,n=l.length:=⟨_,rfl⟩
 obtain ⟨p,cap,rfl⟩:=h.slice
 rw [← hln] at hn
 obtain ⟨ans,hans⟩:∃ ans,ans=l.all q:=⟨_,rfl⟩
 have HN:=Lib.hid hans
 rw [← hans]
 have HL:=Lib.hid hln
 have HH:=Lib.hid h
 have HE:=Lib.hid each
 rw [← hln]
 clear h hln each hans
 go_enter Tryz.func100,Tryz.ntmps100
 go_wp2_with fail
 go_loopg [9] n (fun gg s9 wr=>∃ j:Nat,j+gg=n∧s9=.int .i64 j∧Hid (Below w.heap.size w wr)∧Hid (∀ i (h:i < l.length),i < j→q l[i]=true))
 case atStart=>exact ⟨0,by omega,rfl,Lib.hid (Below.refl _ _),Lib.hid (fun i _ h=>absurd h (by omega))⟩
 case round=>
  obtain ⟨j,hjg,rfl,HB,HA⟩:=hrel
  by_cases hlt:(j:Int) < n
  ·have hj1:j < l.length:=by have:=HL.out;omega
   have hbel:=HB.out
   obtain ⟨g,off,cap',c,e0,hg,hrl,hra⟩:=(HH.out.stays (zae hbel)).at_ j hj1
   injection e0 with e1 e2 e3
   subst e1
   replace hra:wr.rangeAt g (off+j*1) c:=hra
   have hlen:c.length=1:=zaz.len hrl
   have hbs:=hbel.size
   obtain ⟨r,hr⟩:∃ r,r=q l[j]:=⟨_,rfl⟩
   obtain ⟨rfl,hwf⟩:=hrl
   have c0:wr.cell? ⟨g,off+j,none⟩=some (.string l[j]):=by
    have:=hra 0 _ rfl
    simpa using this
   have hcall:=HE.out l[j] (List.getElem_mem hj1) wr _ hbel ⟨rfl,hwf⟩
   rw [← hr] at hcall
   have HC:=Lib.hid hcall
   have HR2:=Lib.hid hr
   clear hcall hr hra e2 e3 hbel
   cases r with
   | true=>
     go_wp2_with (first
      |(go_at_call 101;(with_reducible refine HC.out.mono ?_);rintro e w3 ⟨rfl,hb3⟩))
     have HB2:Hid (Below w.heap.size w w3):=Lib.hid (HB.out.trans (hb3.mono HB.out.size))
     clear hb3
     go_wp2_with fail
     go_roundg (gk - 1)
     case measure=>omega
     case rel=>
      refine ⟨j+1,by omega,by go_num,HB2,Lib.hid fun i h hi=>?_⟩
      by_cases e:i=j
      ·subst e;exact HR2.out.symm
      ·exact HA.out i h (by omega)
   | false=>
     go_wp2_with (first
      |(go_at_call 101;(with_reducible refine HC.out.mono ?_);rintro e w3 ⟨rfl,hb3⟩))
     have HB2:Hid (Below w.heap.size w w3):=Lib.hid (HB.out.trans (hb3.mono HB.out.size))
     clear hb3
     go_wp2_with fail
     go_ret
     refine ⟨?_,HB2.out⟩
     have e:l.all q=false:=List.all_eq_false.2 ⟨l[j],List.getElem_mem hj1,by rw [← HR2.out];decide⟩
     rw [HN.out.trans e]
     try rfl
  ·have e:l.all q=true:=List.all_eq_true.2 fun x hx=>by
    obtain ⟨i,hi,rfl⟩:=List.getElem_of_mem hx
    exact HA.out i hi (by have:=HL.out;omega)
   have HQ:=Lib.hid e
   clear e
   go_wp2_with fail
   go_ret
   refine ⟨?_,HB.out⟩
   rw [HN.out.trans HQ.out]
   try rfl
set_option maxHeartbeats 3200000 in
set_option maxRecDepth 20000 in
theorem zvw (B:Value) (q:(List Val)→Bool) (l:List (List Val)) (v:Value) (w:World) (h:zai rowE w (Old w) v l) (hn:l.length≤2097152)
 (each:∀ x∈l,∀ W u,Below w.heap.size w W→rowE.rel W (Old W) [u] x→Calls Tryz.prog 54 #[u,B] W fun e w'=>e=.returned (.bool (q x))∧Below W.heap.size W w'):
 Calls Tryz.prog 58 #[v,.func (.func 54) #[] #[B]] w fun e w'=>e=.returned (.bool (l.all q))∧Below w.heap.size w w':=by
 obtain ⟨n,hln⟩:∃ n,n=l.length:=⟨_,rfl⟩
 obtain ⟨p,cap,rfl⟩:=h.slice
 rw [← hln] at hn
 obtain ⟨ans,hans⟩:∃ ans,ans=l.all q:=⟨_,rfl⟩
 have HN:=Lib.hid hans
 rw [← hans]
 have HL:=Lib.hid hln
 have HH:=Lib.hid h
 have HE:=Lib.hid each
 rw [← hln]
 clear h hln each hans
 go_enter Tryz.func58,Tryz.ntmps58
 go_wp2_with fail
 go_loopg [9] n (fun gg s9 wr=>∃ j:Nat,j+gg=n∧s9=.int .i64 j∧Hid (Below w.heap.size w wr)∧Hid (∀ i (h:i < l.length),i < j→q l[i]=true))
 case atStart=>exact ⟨0,by omega,rfl,Lib.hid (Below.refl _ _),Lib.hid (fun i _ h=>absurd h (by omega))⟩
 case round=>
  obtain ⟨j,hjg,rfl,HB,HA⟩:=hrel
  by_cases hlt:(j:Int) < n
  ·have hj1:j < l.length:=by have:=HL.out;omega
   have hbel:=HB.out
   obtain ⟨g,off,cap',c,e0,hg,hrl,hra⟩:=(HH.out.stays (zae hbel)).at_ j hj1
   injection e0 with e1 e2 e3
   subst e1
   replace hra:wr.rangeAt g (off+j*1) c:=hra
   have hlen:c.length=1:=rowE.len hrl
   have hbs:=hbel.size
   obtain ⟨r,hr⟩:∃ r,r=q l[j]:=⟨_,rfl⟩
   obtain ⟨u,rfl⟩:∃ u,c=[u]:=by obtain ⟨v,rfl,_⟩:=id hrl;exact ⟨v,rfl⟩
   have c0:wr.cell? ⟨g,off+j,none⟩=some u:=by
    have:=hra 0 _ rfl
    simpa using this
   have hcall:=HE.out l[j] (List.getElem_mem hj1) wr u hbel hrl
   obtain ⟨p2,n2,cap2,rfl⟩:∃ p n cap,u=.slice p n cap:=by
    obtain ⟨v,ev,hs,_⟩:=hrl
    cases ev
    obtain ⟨p,cap,rfl⟩:=hs.slice
    exact ⟨_,_,_,rfl⟩
   clear hrl
   rw [← hr] at hcall
   have HC:=Lib.hid hcall
   have HR2:=Lib.hid hr
   clear hcall hr hra e2 e3 hbel
   cases r with
   | true=>
     go_wp2_with (first
      |(go_at_call 54;(with_reducible refine HC.out.mono ?_);rintro e w3 ⟨rfl,hb3⟩))
     have HB2:Hid (Below w.heap.size w w3):=Lib.hid (HB.out.trans (hb3.mono HB.out.size))
     clear hb3
     go_wp2_with fail
     go_roundg (gk - 1)
     case measure=>omega
     case rel=>
      refine ⟨j+1,by omega,by go_num,HB2,Lib.hid fun i h hi=>?_⟩
      by_cases e:i=j
      ·subst e;exact HR2.out.symm
      ·exact HA.out i h (by omega)
   | false=>
     go_wp2_with (first
      |(go_at_call 54;(with_reducible refine HC.out.mono ?_);rintro e w3 ⟨rfl,hb3⟩))
     have HB2:Hid (Below w.heap.size w w3):=Lib.hid (HB.out.trans (hb3.mono HB.out.size))
     clear hb3
     go_wp2_with fail
     go_ret
     refine ⟨?_,HB2.out⟩
     have e:l.all q=false:=List.all_eq_false.2 ⟨l[j],List.getElem_mem hj1,by rw [← HR2.out];decide⟩
     rw [HN.out.trans e]
     try rfl
  ·have e:l.all q=true:=List.all_eq_true.2 fun x hx=>by
    obtain ⟨i,hi,rfl⟩:=List.getElem_of_mem hx
    exact HA.out i hi (by have:=HL.out;omega)
   have HQ:=Lib.hid e
   clear e
   go_wp2_with fail
   go_ret
   refine ⟨?_,HB.out⟩
   rw [HN.out.trans HQ.out]
   try rfl
end Go.Proofs.YteclpnfckjfibaaGreatDoor

/- RT -/
namespace Go.Proofs.YteclpnfckjfibaaGreatDoor
open Go.RowKit
theorem zcl {P:Program} {op:Oper} {a:Act} {w:World} {K:Act→World→Prop} {Q:Exit→Act→World→Prop} (x y:Operand) (g:Nat) (t ty:TypeId) (old:Array Value) (cs:List Value) (k:Nat) (hg:w.heap[g]?=some (.cells old t (0,0))) (hk:cs.length=k)
 (ho:op.op=.store ty x y) (hx:a.eval x=.pointer (some ⟨g,0,none⟩)) (hy:a.eval y=.agg cs.toArray) (hi:(P.info? ty).map (·.size)=some k) (hold:old.size=k) (h1:∀ u∈cs,u.oneCell'=true)
 (h:∀ w',Only g w w'→w'.heap[g]?=some (.cells cs.toArray t (0,0))→K (a.put op.dst undef) w'):op.wp P a w K Q:=by
 unfold Oper.wp execOp
 simp only [ho,hx,hy,Instr.storeAt,Instr.sureAddr,Sem.run_bind,Sem.run_pure,Result.andThen_ok,run_storeVar_row (P:=P) w g t ty old cs.toArray hg (by rw [hi];simp [hk]) (by simp [hk,hold]) (all_oneCell_toArray h1)]
 exact h _ (Only.setRow w _) (zdd hg)
theorem zbv {V R:Value} (hV:V.oneCell'=true) (hR:R.oneCell'=true):∀ u∈[V,R],u.oneCell'=true:=by
 intro u hu
 simp only [List.mem_cons,List.mem_nil_iff,or_false] at hu
 rcases hu with rfl | rfl
 ·exact hV
 ·exact hR
set_option maxHeartbeats 1600000 in
set_option maxRecDepth 20000 in
theorem z1f (r:List Val) (u:Value) (W:World) (h:rowE.rel W (Old W) [u] r):Calls Tryz.prog 104 #[u] W (zbs rowE r W):=by
 obtain ⟨v,e,hs,hc,hl⟩:=h
 cases e
 have hm:=z3q id r u W hs hl (fun x _ W' c _ hr=>zq4 x W' c hr)
 rw [List.map_id] at hm
 obtain ⟨p,cap,rfl⟩:=hs.slice
 have HM:=Lib.hid hm
 clear hm hs hc
 go_enter Tryz.func104,Tryz.ntmps104
 go_wp2_with (first
  |(go_at_call 162;(with_reducible refine HM.out.mono ?_);rintro e w1 ⟨V,xs,rfl,hown,hrow,hb⟩))
 go_ret
 exact ⟨V,[V],rfl,by obtain ⟨p1,c1,rfl⟩:=zat hown;rfl,⟨V,rfl,za1.slice hown hrow,zb0 hown,hl⟩,hb⟩
theorem zkw (ts:List ByteArray) (V:Value) (W:World) (h:zai zaz W (Old W) V ts) (hl:ts.length≤2097152):Calls Tryz.prog 71 #[V] W (za1 zaz 9 W ts):=by
 have hm:=map110 id ts V W h hl (fun x _ W' c _ hr=>(zsw x W' (by have:=hr.2;omega)).mono (by
  rintro e w' ⟨rfl,hb⟩
  exact ⟨.string x,[.string x],rfl,rfl,⟨rfl,hr.2⟩,hb⟩))
 rw [List.map_id] at hm
 obtain ⟨p,cap,rfl⟩:=h.slice
 have HM:=Lib.hid hm
 clear hm h
 go_enter Tryz.func71,Tryz.ntmps71
 go_wp2_with (first
  |(go_at_call 110;(with_reducible refine HM.out.mono ?_);rintro e w1 ⟨V,xs,rfl,hown,hrow,hb⟩))
 go_ret
 exact ⟨V,xs,rfl,hown,hrow,hb⟩
theorem zq6 (rs:List (List Val)) (V:Value) (W:World) (h:zai rowE W (Old W) V rs) (hl:rs.length≤2097152):Calls Tryz.prog 103 #[V,.func (.func 104) #[] #[]] W (za1 rowE 43 W rs):=by
 have hm:=map103 id rs V W h hl (fun x _ W' u _ hr=>z1f x u W' hr)
 rwa [List.map_id] at hm
theorem zag:(Tryz.prog.info? 25).map (·.size)=some 2:=by kernel_rfl
set_option maxHeartbeats 3200000 in
set_option maxRecDepth 20000 in
theorem zo4 (t:TabL) (V R:Value) (W:World) (h:tabE.rel W (Old W) [V,R] t):Calls Tryz.prog 65 #[.agg #[V,R]] W (zbs tabE t W):=by
 obtain ⟨V',R',e,hv,hr,hcv,hcr,hlv,hlr⟩:=h
 cases e
 obtain ⟨W1,hW1⟩:∃ W1,W1=(W.alloc (.cells #[V,R] 25)).alloc (.cells #[.slice none 0 0,.slice none 0 0] 25):=⟨_,rfl⟩
 have bw:Below W.heap.size W W1:=by rw [hW1];exact zcr _ _ _
 have u1:W1.heap[W.heap.size]?=some (.cells #[V,R] 25):=by rw [hW1];exact zaq _ (zaf _ _ rfl)
 have u2:W1.heap[W.heap.size+1]?=some (.cells #[.slice none 0 0,.slice none 0 0] 25):=by rw [hW1];exact zaf _ _ (by simp)
 have HV:Hid (∀ W',Below W.heap.size W W'→Calls Tryz.prog 71 #[V] W' (za1 zaz 9 W' t.vars)):=Lib.hid fun W' hb=>zkw t.vars V W' (hv.stays (zae hb)) hlv
 have HR:Hid (∀ W',Below W.heap.size W W'→Calls Tryz.prog 103 #[R,.func (.func 104) #[] #[]] W' (za1 rowE 43 W' t.rows)):=Lib.hid fun W' hb=>zq6 t.rows R W' (hr.stays (zae hb)) hlr
 obtain ⟨pv,kv,rfl⟩:=hv.slice
 obtain ⟨pr,kr,rfl⟩:=hr.slice
 have HW:=Lib.hid hW1
 clear hW1 hv hr hcv hcr
 go_enter Tryz.func65,Tryz.ntmps65
 go_upto_region 1 with fail
 rw [← HW.out]
 refine wp_region_held_drew (S:=fun W'=>W'.heap[W.heap.size]?=some (.cells #[.slice pv t.vars.length kv,.slice pr t.rows.length kr] 25)) (by kernel_rfl) u1 (fun hHeld=>?_)
 clear hHeld
 replace bw:=bw.drew
 replace u1:W1.drew.heap[W.heap.size]?=some (.cells #[.slice pv t.vars.length kv,.slice pr t.rows.length kr] 25):=u1
 replace u2:W1.drew.heap[W.heap.size+1]?=some (.cells #[.slice none 0 0,.slice none 0 0] 25):=u2
 have HS2:Hid (W1.drew.heap.size=W.heap.size+2):=Lib.hid (by rw [HW.out];show ((W.alloc _).alloc _).heap.size=_;simp)
 refine tg (i:=0) (.pointer (some ⟨W.heap.size,0,none⟩)) rfl (u1) ?_
 refine tg (i:=3) (.pointer (some ⟨W.heap.size,1,none⟩)) rfl (u1) ?_
 refine tk (i:=1) (v:=.slice pv t.vars.length kv) rfl (Or.inl ⟨by rfl,fun W' h=>by have c0:=zad h 0 rfl;go_simp⟩) (u1) ?_
 refine tk (i:=4) (v:=.slice pr t.rows.length kr) rfl (Or.inl ⟨by rfl,fun W' h=>by have c0:=zad h 1 rfl;go_simp⟩) (u1) ?_
 refine tr 2 rfl (fun K hK=>?_)
 rw [if_pos (by rfl)]
 go_simp
 refine (HV.out _ bw).mono ?_
 rintro e0 w3 ⟨V1,xs1,rfl,ho1,hr1,hb3⟩
 obtain ⟨p1,k1,rfl⟩:=zat ho1
 replace u1:=(hb3.block _ (zaa u1)).trans u1
 replace u2:=(hb3.block _ (zaa u2)).trans u2
 have HA:=Lib.hid (And.intro (za1.slice ho1 hr1) (And.intro (zb0 ho1) bw))
 have HS3:=Lib.hid hb3.size
 replace bw:=zab bw hb3 bw.size
 clear ho1 hr1 hb3
 refine hK.out _ _ (u1) (fun _=>?_)
 clear hK K
 try simp only [putS]
 refine tr 5 rfl (fun K hK=>?_)
 rw [if_pos (by rfl)]
 go_simp
 refine (HR.out _ bw).mono ?_
 rintro e0 w4 ⟨V2,xs2,rfl,ho2,hr2,hb4⟩
 obtain ⟨p2,k2,rfl⟩:=zat ho2
 replace u1:=(hb4.block _ (zaa u1)).trans u1
 replace u2:=(hb4.block _ (zaa u2)).trans u2
 have HB:=Lib.hid (And.intro (za1.slice ho2 hr2) (And.intro (zb0 ho2) (And.intro bw hb4)))
 replace bw:=zab bw hb4 bw.size
 clear ho2 hr2 hb4
 refine hK.out _ _ (u1) (fun _=>?_)
 clear hK K
 try simp only [putS]
 refine tg (i:=6) (.agg #[.slice p1 t.vars.length k1,.slice p2 t.rows.length k2]) rfl (u1) ?_
 refine tr 7 rfl (fun K hK=>?_)
 try rw [if_pos (by rfl)]
 refine zcl (.tmp 2) (.tmp 9) (W.heap.size+1) 25 25 _ [.slice p1 t.vars.length k1,.slice p2 t.rows.length k2] 2 u2 rfl rfl rfl rfl zag rfl (zbv rfl rfl) ?_
 intro w5 ho5 u5
 replace u1:=(ho5.block _ (zaa u1) (by omega)).trans u1
 refine hK.out _ _ (u1) (fun _=>?_)
 clear hK K
 try simp only [putS]
 refine wpAnyH_done (by kernel_rfl) ?_ _
 go_wp2_with fail
 have b5:=zam bw ho5 (Nat.le_succ _) bw.size
 have hz3:=HA.out.2.2.size
 have hz4:=HB.out.2.2.1.size
 have hz5:=HB.out.2.2.2.size
 have hu2:=zaa u2
 refine bodyPost_ret (results_cell_row (p:=2) (ty:=25) Tryz.results65 _ _ (W.heap.size+1) 25 _ (0,0) _ rfl u5 Tryz.underlying25 rfl zag) rfl ⟨_,[.slice p1 t.vars.length k1,.slice p2 t.rows.length k2],rfl,rfl,⟨_,_,rfl,HA.out.1.stays (fun g hg=>?_),HB.out.1.stays (fun g hg=>?_),HA.out.2.1,HB.out.2.1,hlv,hlr⟩,b5⟩
 ·have h1:=hg.1
  have h2:=hg.2
  have hne:g≠W.heap.size+1:=by have:=HA.out.2.2.size;have:=zaa u2;have:=HS2.out;omega
  exact ⟨⟨by omega,by have:=ho5.size;omega⟩,(ho5.block g (by omega) hne).trans (HB.out.2.2.2.block g h2)⟩
 ·have h1:=hg.1
  have h2:=hg.2
  have hne:g≠W.heap.size+1:=by have:=HS2.out;have:=HS3.out;omega
  exact ⟨⟨by omega,by have:=ho5.size;omega⟩,ho5.block g (by omega) hne⟩
end Go.Proofs.YteclpnfckjfibaaGreatDoor

/- RC -/
namespace Go.Proofs.YteclpnfckjfibaaGreatDoor
open Go.RowKit
def zci (vs:List ByteArray):Bool:=decide (vs.map bl).Nodup
def zeb (vs:List ByteArray):Bool:=(decide (vs.length≤64) && vs.all zcc) && zci vs
def rowP (n:Nat) (r:List Val):Bool:=decide (r.length=n) && r.all (mayP · 0)
def tabP (t:TabL):Bool:=zeb t.vars && t.rows.all (rowP t.vars.length)
theorem zi4 (ls:List ByteArray) (i:Nat) (hi:i < ls.length):zci (ls.take (i+1))=(zci (ls.take i) && !memB ls[i] (ls.take i)):=by
 unfold zci
 rw [List.take_succ_eq_append_getElem hi,List.map_append,Bool.eq_iff_iff]
 simp only [Bool.and_eq_true,decide_eq_true_eq,List.nodup_append,List.map_cons,List.map_nil,List.mem_singleton,Bool.not_eq_true']
 constructor
 ·rintro ⟨h1,_,h2⟩
  refine ⟨h1,?_⟩
  rw [Bool.eq_false_iff]
  intro h
  exact h2 _ (List.mem_map.2 ⟨_,(zkv _ _).1 h,rfl⟩) _ rfl rfl
 ·rintro ⟨h1,h2⟩
  refine ⟨h1,by simp,fun a ha b hb e=>?_⟩
  subst hb e
  obtain ⟨t,ht,e2⟩:=List.mem_map.1 ha
  have:=(zkv ls[i] (ls.take i)).2 (by rw [← zuk e2];exact ht)
  rw [h2] at this
  cases this
theorem zmd {ls:List ByteArray} {i:Nat} (hi:i < ls.length) (h:memB ls[i] (ls.take i)=true):zci ls=false:=by
 have h1:zci (ls.take (i+1))=false:=by rw [zi4 ls i hi,h];simp
 rw [Bool.eq_false_iff] at h1 ⊢
 intro q
 refine h1 ?_
 unfold zci at q ⊢
 rw [decide_eq_true_eq] at q ⊢
 rw [List.map_take]
 exact q.sublist (List.take_sublist _ _)
theorem RowE.take {α:Type} {E:Elem α} {w:World} {P:Nat→Prop}:(l:List α)→(xs:List Value)→(i:Nat)→i≤l.length→RowE E w P xs l→RowE E w P (xs.take (i*E.k)) (l.take i)
 | l,xs,0,_,_=>by simp;exact RowE.nil
 | [],xs,i+1,h,_=>absurd h (by simp)
 | a::l,xs,i+1,h,r=>by
   unfold RowE at r
   obtain ⟨c,ys,rfl,hc,hr⟩:=r
   have hk:=E.len hc
   show RowE E w P _ (a::l.take i)
   unfold RowE
   refine ⟨c,ys.take (i*E.k),?_,hc,RowE.take l ys i (by simpa using h) hr⟩
   rw [List.take_append,hk,List.take_of_length_le (by rw [hk,Nat.add_mul];omega)]
   congr 2
   rw [Nat.add_mul]
   omega
theorem zai.take {α:Type} {E:Elem α} {w:World} {P:Nat→Prop} {p:Option Addr} {n cap:Nat} {l:List α} (h:zai E w P (.slice p n cap) l) (i:Nat) (hi:i≤l.length):zai E w P (.slice p i cap) (l.take i):=by
 obtain ⟨p',cap',e,h⟩:=h
 cases e
 refine ⟨p,cap,by rw [List.length_take];congr 1;omega,fun hne=>?_⟩
 obtain ⟨g,off,xs,rfl,hg,hr,he⟩:=h (by intro q;subst q;simp at hne)
 refine ⟨g,off,xs.take (i*E.k),rfl,hg,fun j u hu=>?_,he.take l xs i hi⟩
 rw [List.getElem?_take] at hu
 split at hu
 ·exact hr j u hu
 ·cases hu
theorem zx4 (s:ByteArray):mayP (.mk 9 false 0 s ⟨#[]⟩ []) 0=zcc s:=by
 unfold mayP zb2
 simp [zca]
 intro _
 rfl
set_option maxHeartbeats 1600000 in
set_option maxRecDepth 20000 in
theorem zvx (s:ByteArray) (w:World) (hG:Gd w) (hs:s.size≤2097152):Calls Tryz.prog 101 #[.string s] w fun e w'=>e=.returned (.bool (zcc s))∧Low w.heap.size w w':=by
 have hc:=zo2 (.mk 9 false 0 s ⟨#[]⟩ []) w [.int .i64 9,.bool false,.int .i64 0,.string s,.string ⟨#[]⟩,.slice none 0 0] (Old w) ⟨_,rfl,⟨hs,by decide,by decide,by decide,by decide⟩,by unfold zbe;exact ⟨_,_,rfl⟩⟩ hG
 rw [zx4] at hc
 have HC:=Lib.hid hc
 clear hc hG
 go_enter Tryz.func101,Tryz.ntmps101
 go_wp2_with (first
  |(go_at_call 56;(with_reducible refine HC.out.mono ?_);rintro e w1 ⟨rfl,hb⟩))
 go_ret
 exact ⟨rfl,hb⟩
set_option maxHeartbeats 3200000 in
set_option maxRecDepth 20000 in
theorem zsz (V:Value) (ts:List ByteArray) (P:Nat→Prop) (W:World) (h:zai zaz W P V ts) (hcap:capK V) (hn:ts.length≤2097152):Calls Tryz.prog 102 #[V] W fun e w'=>e=.returned (.bool (zci ts))∧W=w':=by
 obtain ⟨p,cap,rfl⟩:=h.slice
 have hcp:=hcap.1 p _ cap rfl
 obtain ⟨n,hl⟩:∃ n,n=ts.length:=⟨_,rfl⟩
 obtain ⟨r,hr⟩:∃ r,r=zci ts:=⟨_,rfl⟩
 rw [← hr,← hl]
 rw [← hl] at hn hcp
 have HC:=Lib.hid h
 have HL:=Lib.hid hl
 have HR:=Lib.hid hr
 clear h hl hr hcap
 go_enter Tryz.func102,Tryz.ntmps102
 go_wp2_with fail
 go_loopg [7] n (fun gg s7 wr=>∃ j:Nat,j+gg=n∧s7=.int .i64 j∧Hid (zci (ts.take j)=true)∧wr=W)
 case atStart=>exact ⟨0,by omega,rfl,Lib.hid (by simp [zci]),rfl⟩
 case round=>
  obtain ⟨j,hjg,rfl,HA,rfl⟩:=hrel
  by_cases hj:(j:Int) < n
  ·have hj1:j < ts.length:=by have:=HL.out;omega
   obtain ⟨g,off,cap',c,e0,hg,hrl,hra⟩:=HC.out.at_ j hj1
   injection e0 with e1 e2 e3
   subst e1
   obtain ⟨y,hy⟩:∃ y,y=ts[j]:=⟨_,rfl⟩
   obtain ⟨rfl,hwf⟩:=hrl
   have cj:wr.cell? ⟨g,off+j,none⟩=some (.string y):=by
    have:=hra 0 _ rfl
    rw [hy]
    simpa [zaz] using this
   have hpre:=zo3 _ (ts.take j) y P wr (HC.out.take j (by omega)) (by rw [List.length_take];omega)
   obtain ⟨m,hm⟩:∃ m,m=memB y (ts.take j):=⟨_,rfl⟩
   rw [← hm] at hpre
   have HP:=Lib.hid hpre
   have hm2:memB ts[j] (ts.take j)=m:=by rw [hm,hy]
   have HM:=Lib.hid hm2
   have hjc:j≤cap:=by omega
   have hjc2:(j:Int)≤cap:=by omega
   clear hra hy hg hwf e2 e3 hpre hm hm2
   cases m with
   | true=>
     have HZ:Hid (r=false):=Lib.hid (by rw [HR.out];exact zmd hj1 HM.out)
     go_wp2_with (first
      |(go_at_call 120;(with_reducible refine HP.out.mono ?_);rintro e w1 ⟨rfl,rfl⟩))
     go_ret
     exact ⟨by rw [HZ.out];rfl,rfl⟩
   | false=>
     have HZ:Hid (zci (ts.take (j+1))=true):=Lib.hid (by rw [zi4 ts j hj1,HM.out,HA.out];rfl)
     go_wp2_with (first
      |(go_at_call 120;(with_reducible refine HP.out.mono ?_);rintro e w1 ⟨rfl,rfl⟩))
     go_roundg (gk - 1)
     case measure=>omega
     case rel=>exact ⟨j+1,by omega,by go_num,HZ,rfl⟩
  ·have HZ:Hid (r=true):=Lib.hid (by
    have h:=HA.out
    rw [List.take_of_length_le (by have:=HL.out;omega)] at h
    rw [HR.out,h])
   go_wp2_with fail
   go_ret
   exact ⟨by rw [HZ.out];rfl,rfl⟩
set_option maxHeartbeats 3200000 in
set_option maxRecDepth 20000 in
theorem zq7 (V:Value) (ts:List ByteArray) (W:World) (hG:Gd W) (h:zai zaz W (Old W) V ts) (hcap:capK V) (hn:ts.length≤2097152):Calls Tryz.prog 57 #[V] W fun e w'=>e=.returned (.bool (zeb ts))∧Below W.heap.size W w':=by
 have h1:=zq5 zcc ts V W h hn (fun x _ W' c hb hr=>(zvx x W' (hG.below hb) hr.2).mono (by rintro e w' ⟨rfl,hb⟩;exact ⟨rfl,hb.is⟩))
 have h2:∀ W',Below W.heap.size W W'→Calls Tryz.prog 102 #[V] W' fun e w'=>e=.returned (.bool (zci ts))∧W'=w':=fun W' hb=>zsz V ts (Old W') W' (h.stays (zae hb)) hcap hn
 obtain ⟨p,cap,rfl⟩:=h.slice
 obtain ⟨a1,ha1⟩:∃ a,a=ts.all zcc:=⟨_,rfl⟩
 obtain ⟨a2,ha2⟩:∃ a,a=zci ts:=⟨_,rfl⟩
 obtain ⟨n,hl⟩:∃ n,n=ts.length:=⟨_,rfl⟩
 have e:zeb ts=((decide (n≤64) && a1) && a2):=by rw [ha1,ha2,hl];rfl
 rw [e]
 rw [← ha1] at h1
 simp only [← ha2] at h2
 rw [← hl] at h1 h2 ⊢
 have H1:=Lib.hid h1
 have H2:=Lib.hid h2
 clear h1 h2 h hcap hG e ha1 ha2 hl
 by_cases q:n≤64
 ·have q1:decide ((n:Int)≤64)=true:=decide_eq_true (by omega)
  rw [decide_eq_true q,Bool.true_and]
  cases a1 with
  | true=>
    rw [Bool.true_and]
    go_enter Tryz.func57,Tryz.ntmps57
    go_wp2_with (first
     |(go_at_call 100;(with_reducible refine H1.out.mono ?_);rintro e w1 ⟨rfl,hb1⟩)
     |(go_at_call 102;(with_reducible refine (H2.out _ hb1).mono ?_);rintro e w2 ⟨rfl,rfl⟩))
    go_ret
    exact ⟨rfl,hb1⟩
  | false=>
    rw [Bool.false_and]
    go_enter Tryz.func57,Tryz.ntmps57
    go_wp2_with (first
     |(go_at_call 100;(with_reducible refine H1.out.mono ?_);rintro e w1 ⟨rfl,hb1⟩))
    go_ret
    exact ⟨rfl,hb1⟩
 ·have q1:decide ((n:Int)≤64)=false:=decide_eq_false (by omega)
  rw [decide_eq_false q,Bool.false_and,Bool.false_and]
  go_enter Tryz.func57,Tryz.ntmps57
  go_wp2_with fail
  go_ret
  exact ⟨rfl,Below.refl _ _⟩
end Go.Proofs.YteclpnfckjfibaaGreatDoor

/- RD -/
namespace Go.Proofs.YteclpnfckjfibaaGreatDoor
open Go.RowKit
set_option maxHeartbeats 3200000 in
set_option maxRecDepth 20000 in
theorem zx5 (r:List Val) (u R:Value) (ts:List ByteArray) (p:Option Addr) (cap g:Nat) (W:World) (hG:Gd W) (hg:W.heap[g]?=some (.cells #[.slice p ts.length cap,R] 25)) (h:rowE.rel W (Old W) [u] r):Calls Tryz.prog 54 #[u,.pointer (some ⟨g,0,none⟩)] W fun e w'=>e=.returned (.bool (rowP ts.length r))∧Below W.heap.size W w':=by
 obtain ⟨v,e,hs,hc,hl⟩:=h
 cases e
 have h1:=zvv (mayP · 0) r u W hs hl (fun x _ W' c hb hr=>(zo2 x W' c (Old W') hr (hG.below hb)).mono (by rintro e w' ⟨rfl,hb⟩;exact ⟨rfl,hb.is⟩))
 obtain ⟨p1,c1,rfl⟩:=hs.slice
 obtain ⟨n,hn⟩:∃ n,n=ts.length:=⟨_,rfl⟩
 obtain ⟨m,hm⟩:∃ m,m=r.length:=⟨_,rfl⟩
 obtain ⟨a1,ha1⟩:∃ a,a=r.all (mayP · 0):=⟨_,rfl⟩
 have e:rowP ts.length r=(decide (m=n) && a1):=by rw [ha1,hm,hn];rfl
 rw [e]
 rw [← ha1,← hm] at h1
 rw [← hn] at hg
 rw [← hm] at hl ⊢
 have c0:=zad hg 0 rfl
 have H1:=Lib.hid h1
 clear h1 hs hc hG hg e ha1 hm hn
 by_cases q:m=n
 ·subst q
  rw [decide_eq_true rfl,Bool.true_and]
  cases a1 with
  | true=>
    go_enter Tryz.func54,Tryz.ntmps54
    go_wp2_with (first
     |(go_at_call 55;(with_reducible refine H1.out.mono ?_);rintro e w1 ⟨rfl,hb1⟩))
    go_ret
    exact ⟨rfl,hb1⟩
  | false=>
    go_enter Tryz.func54,Tryz.ntmps54
    go_wp2_with (first
     |(go_at_call 55;(with_reducible refine H1.out.mono ?_);rintro e w1 ⟨rfl,hb1⟩))
    go_ret
    exact ⟨rfl,hb1⟩
 ·have q1:((m:Int) == n)=false:=by rw [beq_eq_false_iff_ne];omega
  rw [decide_eq_false q,Bool.false_and]
  go_enter Tryz.func54,Tryz.ntmps54
  go_wp2_with fail
  go_ret
  exact ⟨rfl,Below.refl _ _⟩
set_option maxHeartbeats 3200000 in
set_option maxRecDepth 20000 in
theorem zct (t:TabL) (V R:Value) (W:World) (hG:Gd W) (h:tabE.rel W (Old W) [V,R] t):Calls Tryz.prog 14 #[.agg #[V,R]] W fun e w'=>e=.returned (.bool (tabP t))∧Below W.heap.size W w':=by
 obtain ⟨V',R',e,hv,hr,hcv,hcr,hlv,hlr⟩:=h
 cases e
 obtain ⟨W1,hW1⟩:∃ W1,W1=W.alloc (.cells #[V,R] 25):=⟨_,rfl⟩
 have bw:Below W.heap.size W W1:=by rw [hW1];exact zav _ _
 have u1:W1.heap[W.heap.size]?=some (.cells #[V,R] 25):=by rw [hW1];exact zaf _ _ rfl
 have h1:=zq7 V t.vars W1 (hG.below bw) (hv.stays (zae bw)) hcv hlv
 have h2:∀ W',Below W1.heap.size W1 W'→Calls Tryz.prog 58 #[R,.func (.func 54) #[] #[.pointer (some ⟨W.heap.size,0,none⟩)]] W' fun e w'=>e=.returned (.bool (t.rows.all (rowP t.vars.length)))∧Below W'.heap.size W' w':=fun W' hb=>by
  have bW':=zab bw hb bw.size
  refine zvw _ (rowP t.vars.length) t.rows R W' (hr.stays (zae bW')) hlr (fun x _ W2 u hb2 hx=>?_)
  obtain ⟨p,cap,e⟩:=hv.slice
  have hg2:=(hb2.block _ (zaa ((hb.block _ (zaa u1)).trans u1))).trans ((hb.block _ (zaa u1)).trans u1)
  rw [e] at hg2
  exact zx5 x u R t.vars p cap W.heap.size W2 ((hG.below bW').below hb2) hg2 hx
 obtain ⟨pv,kv,rfl⟩:=hv.slice
 obtain ⟨pr,kr,rfl⟩:=hr.slice
 obtain ⟨a1,ha1⟩:∃ a,a=zeb t.vars:=⟨_,rfl⟩
 obtain ⟨a2,ha2⟩:∃ a,a=t.rows.all (rowP t.vars.length):=⟨_,rfl⟩
 have e:tabP t=(a1 && a2):=by rw [ha1,ha2];rfl
 rw [e]
 rw [← ha1] at h1
 simp only [← ha2] at h2
 have c0:=zad u1 0 rfl
 have H1:=Lib.hid h1
 have H2:=Lib.hid h2
 have HW:=Lib.hid hW1
 have HU:=Lib.hid u1
 clear h1 h2 hv hr hcv hcr hG e ha1 ha2 hW1 u1
 cases a1 with
 | true=>
   rw [Bool.true_and]
   cases a2 with
   | true=>
     go_enter Tryz.func14,Tryz.ntmps14
     go_upto_region 1 with fail
     rw [← HW.out]
     go_wp2_with (first
      |(go_at_call 57;(with_reducible refine H1.out.mono ?_);rintro e w1 ⟨rfl,hb1⟩;have c1:=zad ((hb1.block _ (zaa HU.out)).trans HU.out) 1 rfl)
      |(go_at_call 58;(with_reducible refine (H2.out _ hb1).mono ?_);rintro e w2 ⟨rfl,hb2⟩))
     go_ret
     exact ⟨rfl,zab (zab bw hb1 bw.size) hb2 (zab bw hb1 bw.size).size⟩
   | false=>
     go_enter Tryz.func14,Tryz.ntmps14
     go_upto_region 1 with fail
     rw [← HW.out]
     go_wp2_with (first
      |(go_at_call 57;(with_reducible refine H1.out.mono ?_);rintro e w1 ⟨rfl,hb1⟩;have c1:=zad ((hb1.block _ (zaa HU.out)).trans HU.out) 1 rfl)
      |(go_at_call 58;(with_reducible refine (H2.out _ hb1).mono ?_);rintro e w2 ⟨rfl,hb2⟩))
     go_ret
     exact ⟨rfl,zab (zab bw hb1 bw.size) hb2 (zab bw hb1 bw.size).size⟩
 | false=>
   rw [Bool.false_and]
   go_enter Tryz.func14,Tryz.ntmps14
   go_upto_region 1 with fail
   rw [← HW.out]
   go_wp2_with (first
    |(go_at_call 57;(with_reducible refine H1.out.mono ?_);rintro e w1 ⟨rfl,hb1⟩))
   go_ret
   exact ⟨rfl,zab bw hb1 bw.size⟩
end Go.Proofs.YteclpnfckjfibaaGreatDoor

/- RH -/
namespace Go.Proofs.YteclpnfckjfibaaGreatDoor
open Go.RowKit
theorem zbj {W W':World} {p:Addr} {v:Value} (h:W.cell? p=some v) (b:Below W.heap.size W W'):W'.cell? p=some v:=(b.cell (p:=p) (World.block_lt_of_cell? W _ h)).trans h
theorem zbf {w w':World} {base size n:Nat} {e:TypeId} {v:Value} {xs:List Value} (h:w.ownsRow base e size v n xs) (k:∀ g,v.ownBlock=some g→w'.heap[g]?=w.heap[g]?):w'.ownsRow base e size v n xs:=by
 obtain ⟨h0,h⟩:=h
 refine ⟨h0,?_⟩
 rcases h with h | ⟨g,cap,cur,rfl,h1,h2,h3⟩
 ·exact .inl h
 ·exact .inr ⟨g,cap,cur,rfl,h1,(k g rfl).trans h2,h3⟩
theorem zc2 {w w':World} {base size n:Nat} {e:TypeId} {v:Value} {xs:List Value} {r:Option Nat} (h:w.ownsRow base e size v n xs) (g:w.grownBy w' r) (hr:∀ b,v.ownBlock=some b→r≠some b):w'.ownsRow base e size v n xs:=
 zbf h fun b e=>g.block b (h.lt b e).2 (fun q=>hr b e q.symm)
theorem zbx {P:Program} {o:Oper} {a:Act} {w:World} {K:Act→World→Prop} {Q:Exit→Act→World→Prop} (s x:Operand) (t:TypeId) (ho:o.op=.call { callee:=.builtin .append,args:=#[s,x],argTypes:=#[t,t] })
 (base:Nat) (e:TypeId) (i:TypeInfo) (z:Value) (size bytes:Nat) (ht:P.underlying t=some (.slice e)) (hi:P.info? e=some i) (hz:i.zero=some z) (hsize:i.size=size) (hby:i.bytes=bytes) (hzs:z.cells.size=size) (hsz:0 < size)
 (v:Value) (n:Nat) (xs:List Value) (hs:a.eval s=v) (hown:w.ownsRow base e size v n xs) (ad:Addr) (m c:Nat) (news:List Value) (hx:a.eval x=.slice (some ad) m c) (hl:news.length=m*size) (hnews:∀ j u,news[j]?=some u→w.cell? (ad.add j)=some u) (h1:∀ u∈news,u.oneCell'=true)
 (h63:n+m≤maxLen) (hbytes:(n+m)*bytes≤140737488355328) (hbase:base≤w.heap.size)
 (h:∀ v' w',w'.ownsRow base e size v' (n+m) (xs++news)→w.grownBy w' v.ownBlock→(v'=.slice none 0 0↔v=.slice none 0 0∧m=0)→(v'.ownBlock=v.ownBlock∨v'.ownBlock=some w.heap.size)→K (a.put o.dst v') w'):o.wp P a w K Q:=by
 obtain ⟨v',w',hr,h2,h3,h4,h5⟩:=run_append_own_at (P:=P) w base t o.type e i z size bytes ht hi hz hsize hby hzs hsz v n xs hown ad m c news hl hnews h1 h63 hbytes hbase
 unfold Oper.wp execOp
 simp only [ho,resolve,invoke,builtin,Sem.run_bind,Sem.run_pure,Result.andThen_ok,List.map_toArray,List.map_cons,List.map_nil,hs,hx,hr]
 exact h v' w' h2 h3 h4 h5
theorem zx6 {n:Int} (h1:-9223372036854775808≤n) (h2:n≤9223372036854775807):(Lit.int .i64 n).wf=true:=by
 unfold Lit.wf
 simp only [Bool.and_eq_true,decide_eq_true_eq]
 have e1:IntKind.i64.min=-9223372036854775808:=by decide
 have e2:IntKind.i64.max=9223372036854775807:=by decide
 rw [e1,e2]
 exact ⟨h1,h2⟩
structure Kept (F:Nat→Prop) (w w':World):Prop where
 os:w'.os=w.os
 tape:w'.tape=w.tape
 output:w'.output=w.output
 size:w.heap.size≤w'.heap.size
 block:∀ i,i < w.heap.size→¬ F i→w'.heap[i]?=w.heap[i]?
theorem Kept.refl (F:Nat→Prop) (w:World):Kept F w w:=⟨rfl,rfl,rfl,Nat.le_refl _,fun _ _ _=>rfl⟩
theorem Kept.below {F:Nat→Prop} {a b c:World} (h:Kept F a b) (k:Below b.heap.size b c):Kept F a c:=
 ⟨k.os.trans h.os,k.tape.trans h.tape,k.output.trans h.output,Nat.le_trans h.size k.size,fun i hi hf=>(k.block i (Nat.lt_of_lt_of_le hi h.size)).trans (h.block i hi hf)⟩
theorem Kept.grown {F:Nat→Prop} {a b c:World} {r:Option Nat} (h:Kept F a b) (k:b.grownBy c r) (hr:∀ i,r=some i→i < a.heap.size→F i):Kept F a c:=
 ⟨k.os.trans h.os,k.tape.trans h.tape,k.output.trans h.output,Nat.le_trans h.size k.size,fun i hi hf=>(k.block i (Nat.lt_of_lt_of_le hi h.size) (fun e=>hf (hr i e.symm hi))).trans (h.block i hi hf)⟩
theorem Kept.set {F:Nat→Prop} {a b:World} (h:Kept F a b) {p:Addr} (hp:F p.block) (u:Value):Kept F a (b.setCell p u):=
 ⟨h.os,h.tape,h.output,by simpa using h.size,fun i hi hf=>(Below.heap_setCell _ _ _ _ (fun (e:i=p.block)=>hf (by rw [e];exact hp))).trans (h.block i hi hf)⟩
theorem Kept.trans {F:Nat→Prop} {a b c:World} (h:Kept F a b) (k:Kept F b c):Kept F a c:=
 ⟨k.os.trans h.os,k.tape.trans h.tape,k.output.trans h.output,Nat.le_trans h.size k.size,fun i hi hf=>(k.block i (Nat.lt_of_lt_of_le hi h.size) hf).trans (h.block i hi hf)⟩
theorem Kept.low {F:Nat→Prop} {a b:World} {B:Nat} (h:Kept F a b) (hB:B≤a.heap.size) (hF:∀ i,F i→B≤i):Below B a b:=
 ⟨h.os,h.tape,h.output,h.size,fun i hi=>h.block i (by omega) (fun q=>by have:=hF i q;omega)⟩
theorem Kept.alloc {F:Nat→Prop} {a b:World} (h:Kept F a b) (o:Obj):Kept F a (b.alloc o):=h.below (zav _ _)
theorem Kept.drew {F:Nat→Prop} {a b:World} (h:Kept F a b):Kept F a b.drew:=⟨h.os,h.tape,h.output,h.size,h.block⟩
theorem Kept.only {b:Nat} {w w':World} (h:Only b w w'):Kept (fun i=>i=b) w w':=⟨h.os,h.tape,h.output,h.size,fun i hi e=>h.block i hi e⟩
theorem zay {P:Program} {ops:Array Oper} {rest:List Oper} {o:Oper} {a:Act} {w:World} {Q:Exit→Act→World→Prop} (hw:Region.wanted o (yielded ops a.tmps)=true) (y:Operand) (g:Nat) (t ty:TypeId) (cs:List Value) (k:Nat) (d:TypeDesc) (hg:w.heap[g]?=some (.cells cs.toArray t (0,0))) (hk:cs.length=k)
 (hu:P.underlying ty=some d) (hd:(match d with | .struct _ | .array _ _=>true | _=>false)=true) (hi:(P.info? ty).map (·.size)=some k) (ho:o.op=.load ty y) (hx:a.eval y=.pointer (some ⟨g,0,none⟩))
 (h:wpList P ops Q rest (a.put o.dst (.agg cs.toArray)) w):wpList P ops Q (o::rest) a w:=
 by
  unfold wpList
  rw [if_pos hw]
  refine .inl ?_
  unfold Oper.wp execOp
  simp only [ho,hx,Instr.loadAt,Instr.sureAddr,Sem.run_bind,Sem.run_pure,Result.andThen_ok,run_loadVar_row (P:=P) w g t ty cs.toArray (0,0) d hg hu hd (by rw [hi];simp [hk])]
  exact h
theorem zbg {P:Program} {ops:Array Oper} {rest:List Oper} {o:Oper} {a:Act} {w:World} {Q:Exit→Act→World→Prop} (hw:Region.wanted o (yielded ops a.tmps)=true) (y:Operand) (g off:Nat) (ty:TypeId) (cs:List Value) (k:Nat) (d:TypeDesc) (hr:w.rangeAt g off cs) (hk:cs.length=k)
 (hu:P.underlying ty=some d) (hd:d.isRow=true) (hi:(P.info? ty).map (·.size)=some k) (ho:o.op=.load ty y) (hx:a.eval y=.pointer (some ⟨g,off,none⟩))
 (h:wpList P ops Q rest (a.put o.dst (.agg cs.toArray)) w):wpList P ops Q (o::rest) a w:=
 by
  unfold wpList
  rw [if_pos hw]
  refine .inl ?_
  unfold Oper.wp execOp
  simp only [ho,hx,Instr.loadAt,Instr.sureAddr,Sem.run_bind,Sem.run_pure,Result.andThen_ok,run_loadVar_mid (P:=P) w g off ty cs d hr hu hd (by rw [hi,hk])]
  exact h
end Go.Proofs.YteclpnfckjfibaaGreatDoor

/- RL -/
namespace Go
section
variable {P:Program} {ops:Array Oper} {Q:Exit→Act→World→Prop} {md:Region.Mode} {S:World→Prop} {T:Nat→Bool}
def zfy (T:Nat→Bool) (listed:Array Bool):Bool:=(List.range listed.size).all fun t=>!(T t && listed.getD t false)
theorem zlu {listed:Array Bool} {j:Nat} (h:zfy T listed=true) (hj:T j=false):zfy T (listed.setIfInBounds j true)=true:=by
 unfold zfy at h ⊢
 rw [List.all_eq_true] at h ⊢
 intro t ht
 rw [List.mem_range,Array.size_setIfInBounds] at ht
 have h1:=h t (List.mem_range.2 ht)
 by_cases e:j=t
 ·subst e
  rw [hj]
  rfl
 ·rw [getD_set_ne false e]
  exact h1
def zeo (P:Program) (md:Region.Mode) (ops:Array Oper) (Q:Exit→Act→World→Prop) (S:World→Prop) (T:Nat→Bool):Nat→Array Bool→Act→World→Prop
 | 0,listed,a,w=>Region.ready md ops listed=[]∧Q .normal a w
 | fuel+1,listed,a,w=>
   (Region.ready md ops listed=[]→Q .normal a w)∧
   ∀ i∈Region.ready md ops listed,wpOp P ops Q i (fun a' w'=>(zfy T (listed.setIfInBounds i true)=true→S w')∧zeo P md ops Q S T fuel (listed.setIfInBounds i true) a' w') a w
theorem zfr:∀ (fuel:Nat) (listed:Array Bool) (a:Act) (w:World),zeo P md ops Q S T fuel listed a w→wpAny P md ops Q fuel listed a w
 | 0,_,_,_,h=>h
 | fuel+1,_,_,_,h=>⟨h.1,fun i hi=>wpOp_mono (fun a' w' h'=>zfr fuel _ a' w' h'.2) (h.2 i hi)⟩
def zx7 (md:Region.Mode) (ops:Array Oper) (T:Nat→Bool) (i:Nat):Bool:=
 (List.range ops.size).all fun j=>!(T j) || j == i || ((ops[j]?.map fun o=>o.after.any fun e=>Region.binds md e && e.on == i).getD false)
theorem zs0 {i:Nat} (h:zx7 md ops T i=true):∀ (j:Nat) (oj:Oper),ops[j]?=some oj→T j=true→j≠i→∃ e∈oj.after,Region.binds md e=true∧e.on=i:=by
 intro j oj hj hT hne
 have hlt:j < ops.size:=(Array.getElem?_eq_some_iff.1 hj).1
 unfold zx7 at h
 rw [List.all_eq_true] at h
 have h1:=h j (List.mem_range.2 hlt)
 rw [hT,hj] at h1
 have h2:(j == i)=false:=by simpa using hne
 rw [h2] at h1
 simp only [Bool.not_true,Bool.false_or,Option.map_some,Option.getD_some,Array.any_eq_true] at h1
 obtain ⟨k,hk,h3⟩:=h1
 rw [Bool.and_eq_true,beq_iff_eq] at h3
 exact ⟨_,Array.getElem_mem hk,h3.1,h3.2⟩
theorem zme {i:Nat} {oi:Oper} {v:Value} (S':World→Prop) (hi:ops[i]?=some oi) (hsel:∀ (j:Nat) (o:Oper) cs b,ops[j]?=some o→o.op≠.select cs b)
 (hQ:∀ c a w,Q (.panic c) (a.put oi.dst v) w→Q (.panic c) a w) (hd:((∀ w,S w→S' w)∧T i=false∧∀ (j:Nat) (oj:Oper),ops[j]?=some oj→T j=true→j≠i→∃ e∈oj.after,Region.binds md e=true∧e.on=i)∨∀ w,S' w):
 ∀ (fuel:Nat) (listed:Array Bool) (a:Act) (w:World),
  (∀ j oj,ops[j]?=some oj→j≠i→listed.getD j true=false→(∀ e∈oj.after,Region.binds md e=true→e.on≠i)→oi.apart ops oj=true)→
  i∈Region.ready md ops listed→YieldsIf P ops S' oi v a→S' w→(zfy T (listed.setIfInBounds i true)=true→S w)→(zfy T listed=true∨∀ w,S' w)→(T i=false)→
  zeo P md ops Q S T fuel (listed.setIfInBounds i true) (a.put oi.dst v) w→zeo P md ops Q S T (fuel+1) listed a w:=by
 intro fuel
 induction fuel with
 | zero=>
   intro listed a w _ hr hy hS hS2 _ _ H
   refine ⟨fun h=>(by rw [h] at hr;cases hr),fun j hj=>?_⟩
   by_cases hji:j=i
   ·subst hji;exact hy.wpOp hi hS ⟨hS2,H⟩
   ·have:=ready_mono hj hji
    rw [H.1] at this
    cases this
 | succ fuel ih=>
   intro listed a w hfree hr hy hS hS2 hno hTi H
   refine ⟨fun h=>(by rw [h] at hr;cases hr),fun j hj=>?_⟩
   by_cases hji:j=i
   ·subst hji;exact hy.wpOp hi hS ⟨hS2,H⟩
   ·have h1:=H.2 j (ready_mono hj hji)
    obtain ⟨hjun,oj,hoj,hall⟩:=mem_ready.1 hj
    have hnot:∀ e∈oj.after,Region.binds md e=true→e.on≠i:=fun e he hb heq=>by
     have h1:=hall e he hb
     have h0:=(mem_ready.1 hr).1
     rw [heq] at h1
     rcases Nat.lt_or_ge i listed.size with h' | h'
     ·simp [h'] at h0 h1;rw [h0] at h1;cases h1
     ·simp [Array.getElem?_eq_none h'] at h1
    have hcomm:(listed.setIfInBounds i true).setIfInBounds j true=(listed.setIfInBounds j true).setIfInBounds i true:=Array.setIfInBounds_comm _ _ (fun e=>hji e.symm)
    have h2:=wpOp_putIf hoj (hfree j oj hoj hji hjun hnot) (fun cs b=>hsel i oi cs b hi) (fun cs b=>hsel j oj cs b hoj) hQ hy h1
    have hfree':∀ k ok,ops[k]?=some ok→k≠i→(listed.setIfInBounds j true).getD k true=false→
     (∀ e∈ok.after,Region.binds md e=true→e.on≠i)→oi.apart ops ok=true:=fun k ok hk hki hun hno=>by
     refine hfree k ok hk hki ?_ hno
     by_cases hjk:j=k
     ·subst hjk;exact hjun
     ·rw [getD_set_ne true hjk] at hun;exact hun
    have hno2:zfy T (listed.setIfInBounds j true)=true∨∀ w,S' w:=by
     rcases hd with ⟨_,_,hT⟩ | hd
     ·rcases hno with hno | hno
      ·refine .inl (zlu hno ?_)
       cases q:T j with
       | false=>rfl
       | true=>
         obtain ⟨e,he,hb,hon⟩:=hT j oj hoj q hji
         exact absurd hon (hnot e he hb)
      ·exact .inr hno
     ·exact .inr hd
    have hback:∀ w',(zfy T ((listed.setIfInBounds i true).setIfInBounds j true)=true→S w')→S' w':=fun w' hw=>by
     rcases hno2 with h | h
     ·rcases hd with ⟨hSS,_⟩ | hd
      ·exact hSS w' (hw (by rw [hcomm];exact zlu h hTi))
      ·exact hd w'
     ·exact h w'
    refine wpOp_mono (fun a' w' h3=>⟨fun q=>h3.2.1 (by rw [hcomm];exact zlu q hTi),ih (listed.setIfInBounds j true) a' w' hfree' (ready_mono hr (Ne.symm hji)) h3.1 (hback w' h3.2.1) (fun q=>h3.2.1 (by rw [hcomm];exact q)) hno2 hTi ?_⟩) h2
    rw [← hcomm]
    exact h3.2.2
theorem za9 {i:Nat} {oi:Oper} {v:Value} {fuel:Nat} {listed:Array Bool} {a:Act} {w:World} (hi:ops[i]?=some oi)
 (hs:Region.noSelect ops=true) (hf:Region.free md ops listed i=true) (hr:(Region.ready md ops listed).contains i=true) (hTi:T i=false) (hT:zx7 md ops T i=true) (hno:zfy T listed=true)
 (hQ:∀ c a w,Q (.panic c) (a.put oi.dst v) w→Q (.panic c) a w) (hy:YieldsIf P ops S oi v a) (hS:S w)
 (h:zeo P md ops Q S T fuel (listed.setIfInBounds i true) (a.put oi.dst v) w):zeo P md ops Q S T (fuel+1) listed a w:=
 zme S hi (Region.noSelect_spec hs) hQ (.inl ⟨fun _ h=>h,hTi,zs0 hT⟩) fuel listed a w (Region.free_spec hi hf) (by simpa using hr) hy hS (fun _=>hS) (.inl hno) hTi h
theorem zb6 {i:Nat} {oi:Oper} {v:Value} {fuel:Nat} {listed:Array Bool} {a:Act} {w:World} (hi:ops[i]?=some oi)
 (hs:Region.noSelect ops=true) (hf:Region.free md ops listed i=true) (hr:(Region.ready md ops listed).contains i=true) (hTi:T i=false)
 (hQ:∀ c a w,Q (.panic c) (a.put oi.dst v) w→Q (.panic c) a w) (hy:YieldsIf P ops (fun _=>True) oi v a) (hS:zfy T (listed.setIfInBounds i true)=true→S w)
 (h:zeo P md ops Q S T fuel (listed.setIfInBounds i true) (a.put oi.dst v) w):zeo P md ops Q S T (fuel+1) listed a w:=
 zme (fun _=>True) hi (Region.noSelect_spec hs) hQ (.inr fun _=>trivial) fuel listed a w (Region.free_spec hi hf) (by simpa using hr) hy trivial hS (.inr fun _=>trivial) hTi h
theorem zd0 {listed:Array Bool} {a:Act} {w:World} (hr:Region.ready md ops listed=[]) (h:Q .normal a w):
 ∀ fuel,zeo P md ops Q S T fuel listed a w
 | 0=>⟨hr,h⟩
 | _+1=>⟨fun _=>h,by rw [hr];simp⟩
def zan (P:Program) (md:Region.Mode) (ops:Array Oper) (Q:Exit→Act→World→Prop) (S:World→Prop) (T:Nat→Bool) (fuel:Nat) (listed:Array Bool) (a:Act) (w:World) (rs:List Nat):Prop:=
 ∀ i∈rs,wpOp P ops Q i (fun a' w'=>(zfy T (listed.setIfInBounds i true)=true→S w')∧zeo P md ops Q S T fuel (listed.setIfInBounds i true) a' w') a w
theorem zan.nil {fuel:Nat} {listed:Array Bool} {a:Act} {w:World}:zan P md ops Q S T fuel listed a w []:=fun _ h=>by cases h
theorem zan.cons {fuel:Nat} {listed:Array Bool} {a:Act} {w:World} {i:Nat} {o:Oper} {rs:List Nat} (ho:ops[i]?=some o)
 (h:∀ K':Act→World→Prop,Shut (∀ a w,S w→(S w→zeo P md ops Q S T fuel (listed.setIfInBounds i true) a w)→K' a w)→if Region.wanted o (yielded ops a.tmps)=true then Oper.wp P o a w K' Q else K' (a.put o.dst undef) w)
 (hs:zan P md ops Q S T fuel listed a w rs):zan P md ops Q S T fuel listed a w (i::rs):=fun j hj=>by
 rcases List.mem_cons.1 hj with rfl | hj
 ·exact wpOp_step ho (fun K' hK=>h K' (fun a w hS hW=>hK a w ⟨fun _=>hS,hW hS⟩))
 ·exact hs j hj
theorem zan.late {fuel:Nat} {listed:Array Bool} {a:Act} {w:World} {i:Nat} {o:Oper} {rs:List Nat} (ho:ops[i]?=some o) (hT:zfy T (listed.setIfInBounds i true)=false)
 (h:∀ K':Act→World→Prop,Shut (∀ a w,zeo P md ops Q S T fuel (listed.setIfInBounds i true) a w→K' a w)→if Region.wanted o (yielded ops a.tmps)=true then Oper.wp P o a w K' Q else K' (a.put o.dst undef) w)
 (hs:zan P md ops Q S T fuel listed a w rs):zan P md ops Q S T fuel listed a w (i::rs):=fun j hj=>by
 rcases List.mem_cons.1 hj with rfl | hj
 ·exact wpOp_step ho (fun K' hK=>h K' (fun a w hW=>hK a w ⟨(fun q=>by rw [hT] at q;cases q),hW⟩))
 ·exact hs j hj
theorem zaw {rs:List Nat} {fuel:Nat} {listed:Array Bool} {a:Act} {w:World} (hr:Region.ready md ops listed=rs) (hne:rs≠[])
 (h:zan P md ops Q S T fuel listed a w rs):zeo P md ops Q S T (fuel+1) listed a w:=⟨fun h0=>absurd (hr ▸ h0) hne,hr ▸ h⟩
theorem zew {id:Nat} {a:Act} {w:World} (T:Nat→Bool) (hm:P.follows .mixedOrders=true) (hS:S w.drew)
 (h:S w.drew→zeo P .any ops Q S T ops.size (Array.replicate ops.size false) a w.drew):(Code.region id ops true).wp P Q a w:=
 wp_region_any hm (zfr _ _ _ _ (h hS))
end
end Go
