/- Texts of one kind, one behind the other: each says ahead of itself what it shows. -/
import Derived.Test.YteclpnfckjfibaaGreatDoorDar
import Derived.Test.YteclpnfckjfibaaGreatDoorDaf
import Derived.Test.YteclpnfckjfibaaGreatDoorDal
import Derived.Test.YteclpnfckjfibaaGreatDoorDad
import Derived.Test.YteclpnfckjfibaaGreatDoorDaj
import Derived.Deep.RegionHeld3
import Derived.Deep.RegionWith
import Derived.Lib.ItoaMem
import Derived.Lib.ParseIntB
import Derived.Lib.Strings
import Derived.Lib.ItoaLen
import Derived.Laws.Cover1
import Derived.Test.YteclpnfckjfibaaGreatDoorDaq
import Derived.Shelf.SlSortCmp.Whole1
import Derived.Shelf.SlSortCmp.NoneTotal
/- OD -/
namespace Go.Proofs.YteclpnfckjfibaaGreatDoor
open Go.RowKit
def ztu (lang:Int):Val→Val→Int
 | .mk k b n t x l,.mk k2 b2 n2 t2 x2 l2=>if k=5 then za5 lang l l2 else zc3 k n b t x k2 n2 b2 t2 x2
theorem zpq (lang:Int) (k:Int) (b:Bool) (n:Int) (t x:ByteArray) (l:List Val) (k2:Int) (b2:Bool) (n2:Int) (t2 x2:ByteArray) (l2:List Val):ztu lang (.mk k b n t x l) (.mk k2 b2 n2 t2 x2 l2)=if k=5 then za5 lang l l2 else zc3 k n b t x k2 n2 b2 t2 x2:=rfl
theorem innerT (k n:Int) (b:Bool) (t x:ByteArray) (k2 n2:Int) (b2:Bool) (t2 x2:ByteArray) (h6:¬ k=6) (h7:¬ k=7) (h1:¬ k=1) (h2:¬ k=2) (h3:¬ k=3):zc3 k n b t x k2 n2 b2 t2 x2=lexI (zal t.toList t2.toList) (zal x.toList x2.toList):=by
 unfold zc3
 rw [if_neg (by omega),if_neg h1,if_neg (by omega)]
set_option maxRecDepth 20000 in
set_option maxHeartbeats 12800000 in
theorem z2r (lang k:Int) (b:Bool) (n:Int) (t x:ByteArray) (q:List Val) (p:Option Addr) (cap:Nat) (k2:Int) (b2:Bool) (n2:Int) (t2 x2:ByteArray) (q2:List Val) (p2:Option Addr) (cap2:Nat) (w:World) (hr:zbq lang k=zbq lang k2)
 (hG:Gd w) (hT:Tab w) (hf:Fine n t x q.length) (hf2:Fine n2 t2 x2 q2.length) (hl:Held w (.slice p q.length cap) q) (hl2:Held w (.slice p2 q2.length cap2) q2) (each:∀ u∈q,zop u):
 Calls Tryz.prog 206 #[.int .i64 lang,.agg #[.int .i64 k,.bool b,.int .i64 n,.string t,.string x,.slice p q.length cap],.agg #[.int .i64 k2,.bool b2,.int .i64 n2,.string t2,.string x2,.slice p2 q2.length cap2]] w fun e w'=>e=.returned (.int .i64 (ztu lang (.mk k b n t x q) (.mk k2 b2 n2 t2 x2 q2)))∧Low w.heap.size w w':=by
 obtain ⟨W0,hW0⟩:∃ W0,W0=((w.alloc (.cells #[.int .i64 lang] 3)).alloc (.cells #[.int .i64 k,.bool b,.int .i64 n,.string t,.string x,.slice p q.length cap] 48)).alloc (.cells #[.int .i64 k2,.bool b2,.int .i64 n2,.string t2,.string x2,.slice p2 q2.length cap2] 48):=⟨_,rfl⟩
 have S4:Six W0 (w.heap.size+1) k b n t x p q.length cap:=by rw [hW0];exact (zaj _ (by simp)).alloc _
 have S5:Six W0 (w.heap.size+2) k2 b2 n2 t2 x2 p2 q2.length cap2:=by rw [hW0];exact zaj _ (by simp)
 have b0:Low w.heap.size w W0:=by rw [hW0];exact low3 _ _ _ _
 have c0:W0.cell? ⟨w.heap.size,0,none⟩=some (.int .i64 lang):=by
  rw [hW0]
  have e:(w.alloc (.cells #[.int .i64 lang] 3)).cell? ⟨w.heap.size,0,none⟩=some (.int .i64 lang):=zad (zaf _ _ rfl) _ rfl
  exact ((low2 _ _ _).cell (p:=⟨w.heap.size,0,none⟩) (by simp)).trans e
 have hcf:=fun W (h:Low w.heap.size w W) (hc:W.cell? ⟨w.heap.size,0,none⟩=some (.int .i64 lang))=>zz9 lang w.heap.size q q2 p p2 cap cap2 W (hG.below h.is) (hT.below h.is) hc (Held.below q hl h.is) (Held.below q2 hl2 h.is) hf.hn hf2.hn each
 have hnum:=fun (hk:k=2∨k=3) (hk2:k2=2∨k2=3) W (h:Low w.heap.size w W)=>zz8 k b n t x p q.length cap k2 b2 n2 t2 x2 p2 q2.length cap2 W (hG.below h.is) (hT.below h.is) hf hf2 hk hk2
 have H0:=Lib.hid hW0
 clear hf hf2 hG hT hl hl2 each hW0
 rw [zpq]
 have hcat:=(zik hr).2.2.2
 clear hr
 by_cases h5:k=5
 ·subst h5
  rw [if_pos rfl]
  clear hnum hcat
  generalize za5 lang q q2=r at hcf ⊢
  go_enter Tryz.func206,Tryz.ntmps206
  go_wp2_with (first
   |(rw [← H0.out];(with_reducible refine zac (.tmp 4) (w.heap.size+1) S4 ?_ ?_ ?_ ?_);rfl;rfl;rfl)
   |((with_reducible refine zac (.tmp 4) (w.heap.size+1) S4 ?_ ?_ ?_ ?_);rfl;rfl;rfl)
   |((with_reducible refine zac (.tmp 5) (w.heap.size+2) S5 ?_ ?_ ?_ ?_);rfl;rfl;rfl)
   |(go_at_call 156;(with_reducible refine (zau 5 b n t x _ 174 rfl _).mono ?_);rintro e w' ⟨rfl,hb⟩;replace S4:=S4.below hb.is;replace S5:=S5.below hb.is;replace c0:=(hb.cell (p:=⟨w.heap.size,0,none⟩) (World.block_lt_of_cell? _ _ c0)).trans c0;replace b0:=zak b0 hb b0.size;have f1:=S4.c1;have f2:=S4.c2;have f5:=S4.c5;have g1:=S5.c1;have g2:=S5.c2;have g5:=S5.c5;clear hb)
   |(simp only [zff,Result.andThen_ok])
   |(go_at_call 107;(with_reducible refine (hcf _ b0 c0).mono ?_);rintro e w' ⟨rfl,hb⟩;replace b0:=zak b0 hb b0.size;clear hb))
  go_ret
  exact ⟨rfl,b0⟩
 rw [if_neg h5]
 clear hcf
 by_cases h6:k=6
 ·subst h6
  clear hnum hcat
  rw [show zc3 6 n b t x k2 n2 b2 t2 x2=cmpZ n n2 from rfl]
  go_enter Tryz.func206,Tryz.ntmps206
  go_wp2_with (first
   |(rw [← H0.out];(with_reducible refine zac (.tmp 4) (w.heap.size+1) S4 ?_ ?_ ?_ ?_);rfl;rfl;rfl)
   |((with_reducible refine zac (.tmp 4) (w.heap.size+1) S4 ?_ ?_ ?_ ?_);rfl;rfl;rfl)
   |((with_reducible refine zac (.tmp 5) (w.heap.size+2) S5 ?_ ?_ ?_ ?_);rfl;rfl;rfl)
   |(go_at_call 156;(with_reducible refine (zau 6 b n t x _ 167 rfl _).mono ?_);rintro e w' ⟨rfl,hb⟩;replace S4:=S4.below hb.is;replace S5:=S5.below hb.is;replace c0:=(hb.cell (p:=⟨w.heap.size,0,none⟩) (World.block_lt_of_cell? _ _ c0)).trans c0;replace b0:=zak b0 hb b0.size;have f1:=S4.c1;have f2:=S4.c2;have f5:=S4.c5;have g1:=S5.c1;have g2:=S5.c2;have g5:=S5.c5;clear hb)
   |(simp only [zgs,zgp,zgq,Result.andThen_ok])
   |(go_at_call 229;(with_reducible refine (zp6 n n2 _).mono ?_);rintro e w' ⟨rfl,hb⟩;replace b0:=zak b0 hb b0.size;clear hb))
  go_ret
  exact ⟨rfl,b0⟩
 by_cases h7:k=7
 ·subst h7
  clear hnum hcat
  rw [show zc3 7 n b t x k2 n2 b2 t2 x2=cmpZ n n2 from rfl]
  go_enter Tryz.func206,Tryz.ntmps206
  go_wp2_with (first
   |(rw [← H0.out];(with_reducible refine zac (.tmp 4) (w.heap.size+1) S4 ?_ ?_ ?_ ?_);rfl;rfl;rfl)
   |((with_reducible refine zac (.tmp 4) (w.heap.size+1) S4 ?_ ?_ ?_ ?_);rfl;rfl;rfl)
   |((with_reducible refine zac (.tmp 5) (w.heap.size+2) S5 ?_ ?_ ?_ ?_);rfl;rfl;rfl)
   |(go_at_call 156;(with_reducible refine (zau 7 b n t x _ 168 rfl _).mono ?_);rintro e w' ⟨rfl,hb⟩;replace S4:=S4.below hb.is;replace S5:=S5.below hb.is;replace c0:=(hb.cell (p:=⟨w.heap.size,0,none⟩) (World.block_lt_of_cell? _ _ c0)).trans c0;replace b0:=zak b0 hb b0.size;have f1:=S4.c1;have f2:=S4.c2;have f5:=S4.c5;have g1:=S5.c1;have g2:=S5.c2;have g5:=S5.c5;clear hb)
   |(simp only [zgy,zgv,zgw,Result.andThen_ok])
   |(go_at_call 229;(with_reducible refine (zp6 n n2 _).mono ?_);rintro e w' ⟨rfl,hb⟩;replace b0:=zak b0 hb b0.size;clear hb))
  go_ret
  exact ⟨rfl,b0⟩
 by_cases h1:k=1
 ·subst h1
  clear hnum hcat
  rw [show zc3 1 n b t x k2 n2 b2 t2 x2=zqj b b2 from rfl]
  go_enter Tryz.func206,Tryz.ntmps206
  go_wp2_with (first
   |(rw [← H0.out];(with_reducible refine zac (.tmp 4) (w.heap.size+1) S4 ?_ ?_ ?_ ?_);rfl;rfl;rfl)
   |((with_reducible refine zac (.tmp 4) (w.heap.size+1) S4 ?_ ?_ ?_ ?_);rfl;rfl;rfl)
   |((with_reducible refine zac (.tmp 5) (w.heap.size+2) S5 ?_ ?_ ?_ ?_);rfl;rfl;rfl)
   |(go_at_call 156;(with_reducible refine (zau 1 b n t x _ 165 rfl _).mono ?_);rintro e w' ⟨rfl,hb⟩;replace S4:=S4.below hb.is;replace S5:=S5.below hb.is;replace c0:=(hb.cell (p:=⟨w.heap.size,0,none⟩) (World.block_lt_of_cell? _ _ c0)).trans c0;replace b0:=zak b0 hb b0.size;have f1:=S4.c1;have f2:=S4.c2;have f5:=S4.c5;have g1:=S5.c1;have g2:=S5.c2;have g5:=S5.c5;clear hb)
   |(simp only [zgm,zgj,zgk,zgh,Result.andThen_ok])
   |(go_at_call 230;(with_reducible refine (zse b b2 _).mono ?_);rintro e w' ⟨rfl,rfl⟩))
  go_ret
  exact ⟨rfl,b0⟩
 by_cases h2:k=2
 ·subst h2
  replace hnum:=hnum (.inl rfl) (hcat.1 (.inl rfl))
  clear hcat
  rw [show zc3 2 n b t x k2 n2 b2 t2 x2=lexI (cmpZ (numV 2 n t) (numV k2 n2 t2)) (lexI (cmpZ 2 k2) (if (2:Int)=3 then zal t.toList t2.toList else 0)) from rfl]
  generalize lexI (cmpZ (numV 2 n t) (numV k2 n2 t2)) (lexI (cmpZ 2 k2) (if (2:Int)=3 then zal t.toList t2.toList else 0))=r at hnum ⊢
  go_enter Tryz.func206,Tryz.ntmps206
  go_wp2_with (first
   |(rw [← H0.out];(with_reducible refine zac (.tmp 4) (w.heap.size+1) S4 ?_ ?_ ?_ ?_);rfl;rfl;rfl)
   |((with_reducible refine zac (.tmp 4) (w.heap.size+1) S4 ?_ ?_ ?_ ?_);rfl;rfl;rfl)
   |((with_reducible refine zac (.tmp 5) (w.heap.size+2) S5 ?_ ?_ ?_ ?_);rfl;rfl;rfl)
   |(go_at_call 156;(with_reducible refine (zau 2 b n t x _ 166 rfl _).mono ?_);rintro e w' ⟨rfl,hb⟩;replace S4:=S4.below hb.is;replace S5:=S5.below hb.is;replace c0:=(hb.cell (p:=⟨w.heap.size,0,none⟩) (World.block_lt_of_cell? _ _ c0)).trans c0;replace b0:=zak b0 hb b0.size;have f1:=S4.c1;have f2:=S4.c2;have f5:=S4.c5;have g1:=S5.c1;have g2:=S5.c2;have g5:=S5.c5;clear hb)
   |(simp only [zjt,zjq,zjr,zjo,zjp,zjs,Result.andThen_ok])
   |(go_at_call 231;(with_reducible refine (hnum _ b0).mono ?_);rintro e w' ⟨rfl,hb⟩;replace b0:=zak b0 hb b0.size;clear hb))
  go_ret
  exact ⟨rfl,b0⟩
 by_cases h3:k=3
 ·subst h3
  replace hnum:=hnum (.inr rfl) (hcat.1 (.inr rfl))
  clear hcat
  rw [show zc3 3 n b t x k2 n2 b2 t2 x2=lexI (cmpZ (numV 3 n t) (numV k2 n2 t2)) (lexI (cmpZ 3 k2) (if (3:Int)=3 then zal t.toList t2.toList else 0)) from rfl]
  generalize lexI (cmpZ (numV 3 n t) (numV k2 n2 t2)) (lexI (cmpZ 3 k2) (if (3:Int)=3 then zal t.toList t2.toList else 0))=r at hnum ⊢
  go_enter Tryz.func206,Tryz.ntmps206
  go_wp2_with (first
   |(rw [← H0.out];(with_reducible refine zac (.tmp 4) (w.heap.size+1) S4 ?_ ?_ ?_ ?_);rfl;rfl;rfl)
   |((with_reducible refine zac (.tmp 4) (w.heap.size+1) S4 ?_ ?_ ?_ ?_);rfl;rfl;rfl)
   |((with_reducible refine zac (.tmp 5) (w.heap.size+2) S5 ?_ ?_ ?_ ?_);rfl;rfl;rfl)
   |(go_at_call 156;(with_reducible refine (zau 3 b n t x _ 169 rfl _).mono ?_);rintro e w' ⟨rfl,hb⟩;replace S4:=S4.below hb.is;replace S5:=S5.below hb.is;replace c0:=(hb.cell (p:=⟨w.heap.size,0,none⟩) (World.block_lt_of_cell? _ _ c0)).trans c0;replace b0:=zak b0 hb b0.size;have f1:=S4.c1;have f2:=S4.c2;have f5:=S4.c5;have g1:=S5.c1;have g2:=S5.c2;have g5:=S5.c5;clear hb)
   |(simp only [zg4,zg1,zg2,zgz,zg0,zg3,Result.andThen_ok])
   |(go_at_call 231;(with_reducible refine (hnum _ b0).mono ?_);rintro e w' ⟨rfl,hb⟩;replace b0:=zak b0 hb b0.size;clear hb))
  go_ret
  exact ⟨rfl,b0⟩
 rw [innerT k n b t x k2 n2 b2 t2 x2 h6 h7 h1 h2 h3]
 clear hnum hcat
 by_cases h0:k=0
 ·exact ztq lang k b n t x q p cap k2 b2 n2 t2 x2 q2 p2 cap2 w h0
 by_cases h4:k=4
 ·exact ztr lang k b n t x q p cap k2 b2 n2 t2 x2 q2 p2 cap2 w h4
 by_cases h8:k=8
 ·exact zts lang k b n t x q p cap k2 b2 n2 t2 x2 q2 p2 cap2 w h8
 by_cases h9:k=9
 ·exact ztt lang k b n t x q p cap k2 b2 n2 t2 x2 q2 p2 cap2 w h9
 by_cases h10:k=10
 ·exact zsg lang k b n t x q p cap k2 b2 n2 t2 x2 q2 p2 cap2 w h10
 exact zsh lang k b n t x q p cap k2 b2 n2 t2 x2 q2 p2 cap2 w (by unfold zlq;simp [h0,h1,h2,h3,h4,h5,h6,h7,h8,h9,h10])
end Go.Proofs.YteclpnfckjfibaaGreatDoor

/- OG -/
namespace Go.Proofs.YteclpnfckjfibaaGreatDoor
open Go.RowKit
set_option maxRecDepth 20000 in
set_option maxHeartbeats 6400000 in
theorem z2s (v:Val) (k:Int) (b:Bool) (n:Int) (t x:ByteArray) (q:List Val) (ev:v=.mk k b n t x q) (each:∀ u∈q,zop u):zop v:=by
 subst ev
 intro lang w k1 b1 n1 t1 x1 q1 p cap v2 k2 b2 n2 t2 x2 q2 p2 cap2 e1 e2 hG hT hf hf2 hl hl2
 cases e1
 subst e2
 obtain ⟨W0,hW0⟩:∃ W0,W0=(w.alloc (.cells #[.int .i64 k,.bool b,.int .i64 n,.string t,.string x,.slice p q.length cap] 48)).alloc (.cells #[.int .i64 k2,.bool b2,.int .i64 n2,.string t2,.string x2,.slice p2 q2.length cap2] 48):=⟨_,rfl⟩
 have S4:Six W0 w.heap.size k b n t x p q.length cap:=by rw [hW0];exact (zaj _ rfl).alloc _
 have S5:Six W0 (w.heap.size+1) k2 b2 n2 t2 x2 p2 q2.length cap2:=by rw [hW0];exact zaj _ (by simp)
 have b0:Low w.heap.size w W0:=by rw [hW0];exact low2 _ _ _
 have hwi:=fun (hr:zbq lang k=zbq lang k2) W (h:Low w.heap.size w W)=>z2r lang k b n t x q p cap k2 b2 n2 t2 x2 q2 p2 cap2 W hr (hG.below h.is) (hT.below h.is) hf hf2 (Held.below q hl h.is) (Held.below q2 hl2 h.is) each
 have hr1:=fun W=>z4b lang k b n t x p q.length cap W
 have hr2:=fun W=>z4b lang k2 b2 n2 t2 x2 p2 q2.length cap2 W
 rw [zes,← zpq]
 generalize ztu lang (.mk k b n t x q) (.mk k2 b2 n2 t2 x2 q2)=r at hwi ⊢
 generalize zbq lang k=ra at hwi hr1 ⊢
 generalize zbq lang k2=rb at hwi hr2 ⊢
 have H0:=Lib.hid hW0
 clear hW0 hl hl2 hf hf2 hG hT each
 obtain ⟨z,hz⟩:∃ z,z=lexI (cmpZ ra rb) r:=⟨_,rfl⟩
 rw [← hz]
 go_enter Tryz.func165,Tryz.ntmps165
 go_upto_region 2 with fail
 rw [← H0.out]
 refine wp_region_held_drew (S:=fun w'=>Six w' w.heap.size k b n t x p q.length cap∧Six w' (w.heap.size+1) k2 b2 n2 t2 x2 p2 q2.length cap2∧Low w.heap.size w w') (by kernel_rfl) ⟨S4,S5,b0.drew⟩ (fun hHeld=>?_)
 refine tg (i:=0) (.int .i64 lang) rfl hHeld ?_
 refine tk (i:=1) rfl (zp7 (by rfl) (.tmp 4) rfl w.heap.size rfl (fun _ h=>h.1)) hHeld ?_
 refine tg (i:=3) (.int .i64 lang) rfl hHeld ?_
 refine tk (i:=4) rfl (zp7 (by rfl) (.tmp 5) rfl (w.heap.size+1) rfl (fun _ h=>h.2.1)) hHeld ?_
 obtain ⟨u1,u2,u3⟩:=hHeld
 refine tr 2 rfl (fun K hK=>?_)
 rw [if_pos (by rfl)]
 go_simp
 refine (hr1 _).mono ?_
 rintro e w3 ⟨rfl,hb⟩
 refine hK.out _ _ ⟨u1.below hb.is,u2.below hb.is,zak u3 hb u3.size⟩ (fun hHeld=>?_)
 clear hK K u1 u2 u3 hb
 try simp only [putS]
 obtain ⟨u1,u2,u3⟩:=hHeld
 refine tr 5 rfl (fun K hK=>?_)
 rw [if_pos (by rfl)]
 go_simp
 refine (hr2 _).mono ?_
 rintro e w3 ⟨rfl,hb⟩
 refine hK.out _ _ ⟨u1.below hb.is,u2.below hb.is,zak u3 hb u3.size⟩ (fun hHeld=>?_)
 clear hK K u1 u2 u3 hb
 try simp only [putS]
 refine tg (i:=6) (.int .i64 ra) rfl hHeld ?_
 refine tg (i:=7) (.int .i64 rb) rfl hHeld ?_
 refine wpAnyH_done (by kernel_rfl) ?_ _
 obtain ⟨u1,u2,u3⟩:=hHeld
 have H1:=Lib.hid hz
 clear hz
 by_cases h1:ra < rb
 ·obtain rfl:z=-1:=by rw [H1.out];unfold cmpZ;rw [if_pos h1];rfl
  clear H1 hwi
  go_wp2_with fail
  go_ret
  exact ⟨rfl,u3⟩
 ·by_cases h2:rb < ra
  ·obtain rfl:z=1:=by rw [H1.out];unfold cmpZ;rw [if_neg h1,if_pos h2];rfl
   clear H1 hwi
   go_wp2_with fail
   go_ret
   exact ⟨rfl,u3⟩
  ·obtain rfl:ra=rb:=by omega
   obtain rfl:z=r:=by rw [H1.out,zk1,zdu]
   replace hwi:=hwi rfl
   clear H1
   go_wp2_with (first
    |((with_reducible refine zac (.tmp 4) w.heap.size u1 ?_ ?_ ?_ ?_);rfl;rfl;rfl)
    |((with_reducible refine zac (.tmp 5) (w.heap.size+1) u2 ?_ ?_ ?_ ?_);rfl;rfl;rfl)
    |(go_at_call 206;(with_reducible refine (hwi _ u3).mono ?_);rintro e w3 ⟨rfl,hb⟩;replace u3:=zak u3 hb u3.size;clear hb))
   go_ret
   exact ⟨rfl,u3⟩
mutual
theorem z0a:(v:Val)→zop v
 | .mk k b n t x q=>z2s _ k b n t x q rfl (z0b q)
theorem z0b:(q:List Val)→∀ u∈q,zop u
 | [],_,h=>absurd h (by simp)
 | v::r,u,h=>by
   rcases List.mem_cons.1 h with h | h
   ·rw [h];exact z0a v
   ·exact z0b r u h
end
end Go.Proofs.YteclpnfckjfibaaGreatDoor

/- CF -/
namespace Go.Proofs.YteclpnfckjfibaaGreatDoor
open Go.RowKit
set_option maxHeartbeats 1600000 in
theorem z0c {v:Val} (h:zop v) (lang:Int) (W:World) (k:Int) (b:Bool) (n:Int) (t x:ByteArray) (q:List Val) (p:Option Addr) (cap:Nat) (v2:Val) (k2:Int) (b2:Bool) (n2:Int) (t2 x2:ByteArray) (q2:List Val) (p2:Option Addr) (cap2:Nat)
 (e1:v=.mk k b n t x q) (e2:v2=.mk k2 b2 n2 t2 x2 q2) (hG:Gd W) (hT:Tab W) (hf:Fine n t x q.length) (hf2:Fine n2 t2 x2 q2.length) (hl:Held W (.slice p q.length cap) q) (hl2:Held W (.slice p2 q2.length cap2) q2):
 Calls Tryz.prog 108 #[.int .i64 lang,.agg #[.int .i64 k,.bool b,.int .i64 n,.string t,.string x,.slice p q.length cap],.agg #[.int .i64 k2,.bool b2,.int .i64 n2,.string t2,.string x2,.slice p2 q2.length cap2]] W
  fun e w'=>e=.returned (.int .i64 (zd8 lang v v2))∧Low W.heap.size W w':=by
 obtain ⟨W0,hW0⟩:∃ W0,W0=(W.alloc (.cells #[.int .i64 k,.bool b,.int .i64 n,.string t,.string x,.slice p q.length cap] 48)).alloc (.cells #[.int .i64 k2,.bool b2,.int .i64 n2,.string t2,.string x2,.slice p2 q2.length cap2] 48):=⟨_,rfl⟩
 have S4:Six W0 W.heap.size k b n t x p q.length cap:=by rw [hW0];exact (zaj _ rfl).alloc _
 have S5:Six W0 (W.heap.size+1) k2 b2 n2 t2 x2 p2 q2.length cap2:=by rw [hW0];exact zaj _ (by simp)
 have b0:Low W.heap.size W W0:=by rw [hW0];exact low2 _ _ _
 have hc:=h lang W0 k b n t x q p cap v2 k2 b2 n2 t2 x2 q2 p2 cap2 e1 e2 (hG.below b0.is) (hT.below b0.is) hf hf2 (Held.below q hl b0.is) (Held.below q2 hl2 b0.is)
 have z0:=b0.size
 have H0:=Lib.hid hW0
 clear hl hl2 hf hf2 hG hT hW0 e1 e2 h
 generalize zd8 lang v v2=r at hc ⊢
 go_enter Tryz.func108,Tryz.ntmps108
 go_wp2_with (first
  |(rw [← H0.out];(with_reducible refine zac (.tmp 4) W.heap.size S4 ?_ ?_ ?_ ?_);rfl;rfl;rfl)
  |((with_reducible refine zac (.tmp 4) W.heap.size S4 ?_ ?_ ?_ ?_);rfl;rfl;rfl)
  |((with_reducible refine zac (.tmp 5) (W.heap.size+1) S5 ?_ ?_ ?_ ?_);rfl;rfl;rfl)
  |(go_at_call 165;(with_reducible refine hc.mono ?_);rintro e w3 ⟨rfl,hb3⟩;replace b0:=zak b0 hb3 z0))
 go_ret
 exact ⟨rfl,b0⟩
set_option maxRecDepth 20000 in
set_option maxHeartbeats 3200000 in
theorem zpr (lang:Int) (l l2:List Val) (g off cap:Nat) (P2:Option Addr) (g2 off2 cap2:Nat) (w:World) (hG:Gd w) (hT:Tab w) (hl:zbp w g off l) (hl2:zbp w g2 off2 l2)
 (hP2:0 < l2.length→P2=some ⟨g2,off2,none⟩) (hn:l.length≤2097152) (hn2:l2.length≤2097152) (each:∀ v∈l,zop v):
 Calls Tryz.prog 107 #[.slice (some ⟨g,off,none⟩) l.length cap,.slice P2 l2.length cap2,.func (.func 108) #[.int .i64 lang] #[]] w fun e w'=>e=.returned (.int .i64 (za5 lang l l2))∧Low w.heap.size w w':=by
 have HH:=Lib.hid hl
 have HH2:=Lib.hid hl2
 have HE:=Lib.hid each
 have HP:=Lib.hid hP2
 clear hl hl2 each hP2
 go_enter Tryz.func107,Tryz.ntmps107
 go_wp2_with fail
 go_loopw [13] (fun i wr=>∃ j:Nat,j≤l.length∧i=.int .i64 j∧Low w.heap.size w wr∧Hid (za5 lang l l2=za5 lang (l.drop j) (l2.drop j))) (fun i _=>l.length - (intOf i).toNat)
 case atStart=>exact ⟨0,Nat.zero_le _,rfl,Low.refl _ _,Lib.hid (by rw [List.drop_zero,List.drop_zero])⟩
 case round=>
  obtain ⟨j,hj,rfl,hb,HA⟩:=hrel
  by_cases hlt:j < l.length
  ·obtain ⟨k,b,n,t,x,q,p,cp,o1⟩:=((zbp.at_ l off HH.out j hlt).below _ hb.is).opens
   have hs:w.heap.size≤wr.heap.size:=hb.size
   by_cases hlt2:j < l2.length
   ·obtain rfl:=HP.out (by omega)
    obtain ⟨k2,b2,n2,t2,x2,q2,p2,cp2,o2⟩:=((zbp.at_ l2 off2 HH2.out j hlt2).below _ hb.is).opens
    obtain ⟨c1,hc1⟩:∃ c1,c1=Obj.cells #[.int .i64 k,.bool b,.int .i64 n,.string t,.string x,.slice p q.length cp] 48:=⟨_,rfl⟩
    obtain ⟨c2,hc2⟩:∃ c2,c2=Obj.cells #[.int .i64 k2,.bool b2,.int .i64 n2,.string t2,.string x2,.slice p2 q2.length cp2] 48:=⟨_,rfl⟩
    have bb:=low2 wr c1 c2
    have b0:Low w.heap.size w ((wr.alloc c1).alloc c2):=(hb.alloc hs _).alloc (by simp;omega) _
    have hc:=z0c (HE.out l[j] (List.getElem_mem hlt)) lang ((wr.alloc c1).alloc c2) k b n t x q p cp l2[j] k2 b2 n2 t2 x2 q2 p2 cp2 o1.e o2.e (hG.below b0.is) (hT.below b0.is) o1.hf o2.hf (Held.below q o1.hl bb.is) (Held.below q2 o2.hl bb.is)
    obtain ⟨r,hr⟩:∃ r,r=zd8 lang l[j] l2[j]:=⟨_,rfl⟩
    rw [← hr] at hc
    have hA:=HA.out
    rw [zpn lang l l2 j hlt hlt2,← hr] at hA
    have l0:Six ((wr.alloc c1).alloc c2) wr.heap.size k b n t x p q.length cp:=by rw [hc1];exact (zaj _ rfl).alloc _
    have l1:Six ((wr.alloc c1).alloc c2) (wr.heap.size+1) k2 b2 n2 t2 x2 p2 q2.length cp2:=by rw [hc2];exact zaj _ (by simp)
    have z0:w.heap.size≤((wr.alloc c1).alloc c2).heap.size:=b0.size
    have O1:=Lib.hid o1
    have O2:=Lib.hid (o2.below (low1 wr c1).is)
    clear o1 o2 bb hr HA
    by_cases hr0:r=0
    ·subst hr0
     rw [zdu] at hA
     have HA:=Lib.hid hA
     clear hA
     subst hc1 hc2
     go_wp2_with (first
      |((with_reducible refine zax (.tmp 16) g (off+j*6) k b n t x (.slice p q.length cp) O1.out.c0 O1.out.c1 O1.out.c2 O1.out.c3 O1.out.c4 O1.out.c5 ?_ ?_ ?_ ?_);rfl;rfl;rfl)
      |((with_reducible refine zax (.tmp 24) g2 (off2+j*6) k2 b2 n2 t2 x2 (.slice p2 q2.length cp2) O2.out.c0 O2.out.c1 O2.out.c2 O2.out.c3 O2.out.c4 O2.out.c5 ?_ ?_ ?_ ?_);rfl;rfl;rfl)
      |((with_reducible refine zac (.tmp 8) wr.heap.size l0 ?_ ?_ ?_ ?_);rfl;rfl;rfl)
      |((with_reducible refine zac (.tmp 9) (wr.heap.size+1) l1 ?_ ?_ ?_ ?_);rfl;rfl;rfl)
      |(go_at_call 108;(with_reducible refine hc.mono ?_);rintro e w3 ⟨rfl,hb3⟩;have b3:=zak b0 hb3 z0))
     go_roundw
     case rel=>exact ⟨j+1,by omega,by go_num,b3,HA⟩
     case measure=>simp [intOf];omega
    ·have e:lexI r (za5 lang (l.drop (j+1)) (l2.drop (j+1)))=r:=by unfold lexI;rw [if_neg hr0]
     rw [e] at hA
     have HA:=Lib.hid hA
     have e2:(r != 0)=true:=by simpa using hr0
     clear hA e
     subst hc1 hc2
     go_wp2_with (first
      |((with_reducible refine zax (.tmp 16) g (off+j*6) k b n t x (.slice p q.length cp) O1.out.c0 O1.out.c1 O1.out.c2 O1.out.c3 O1.out.c4 O1.out.c5 ?_ ?_ ?_ ?_);rfl;rfl;rfl)
      |((with_reducible refine zax (.tmp 24) g2 (off2+j*6) k2 b2 n2 t2 x2 (.slice p2 q2.length cp2) O2.out.c0 O2.out.c1 O2.out.c2 O2.out.c3 O2.out.c4 O2.out.c5 ?_ ?_ ?_ ?_);rfl;rfl;rfl)
      |((with_reducible refine zac (.tmp 8) wr.heap.size l0 ?_ ?_ ?_ ?_);rfl;rfl;rfl)
      |((with_reducible refine zac (.tmp 9) (wr.heap.size+1) l1 ?_ ?_ ?_ ?_);rfl;rfl;rfl)
      |(go_at_call 108;(with_reducible refine hc.mono ?_);rintro e w3 ⟨rfl,hb3⟩;have b3:=zak b0 hb3 z0))
     go_ret
     exact ⟨by rw [HA.out];rfl,b3⟩
   ·have hA:=HA.out
    rw [zpo lang l l2 j hlt (by omega)] at hA
    have HA2:=Lib.hid hA
    have O1:=Lib.hid o1
    have b0:Low w.heap.size w (wr.alloc (.cells #[.int .i64 k,.bool b,.int .i64 n,.string t,.string x,.slice p q.length cp] 48)):=hb.alloc hs _
    clear hA HA o1
    go_wp2_with (first
     |((with_reducible refine zax (.tmp 16) g (off+j*6) k b n t x (.slice p q.length cp) O1.out.c0 O1.out.c1 O1.out.c2 O1.out.c3 O1.out.c4 O1.out.c5 ?_ ?_ ?_ ?_);rfl;rfl;rfl))
    go_ret
    exact ⟨by rw [HA2.out];rfl,b0⟩
  ·obtain rfl:j=l.length:=by omega
   have hA:=HA.out
   by_cases hs:l.length < l2.length
   ·rw [zog lang l l2 hs] at hA
    have HA2:=Lib.hid hA
    clear hA HA
    go_wp2_with fail
    go_ret
    exact ⟨by rw [HA2.out];rfl,hb⟩
   ·rw [zsf lang l l2 (by omega)] at hA
    have HA2:=Lib.hid hA
    clear hA HA
    go_wp2_with fail
    go_ret
    exact ⟨by rw [HA2.out];rfl,hb⟩
theorem ziq {w:World} {P:Nat→Prop} {g:Nat}:{xs:List Value}→(l:List Val)→(off:Nat)→RowE valE w P xs l→w.rangeAt g off xs→zbp w g off l
 | _,[],off,_,_=>by unfold zbp;trivial
 | _,v::r,off,h,hr=>by
   unfold RowE at h
   obtain ⟨c,ys,rfl,hc,hy⟩:=h
   obtain ⟨k,b,n,t,x,q⟩:=v
   obtain ⟨L,rfl,hf,hq⟩:=hc
   unfold zbp za7
   have hd:∀ (j:Nat) u,([Value.int .i64 k,.bool b,.int .i64 n,.string t,.string x,L]++ys)[j]?=some u→w.cell? ⟨g,off+j,none⟩=some u:=fun j u hu=>hr j u hu
   refine ⟨⟨hd 0 _ rfl,hd 1 _ rfl,hd 2 _ rfl,hd 3 _ rfl,hd 4 _ rfl,hf,L,hd 5 _ rfl,zbe.held q hq⟩,ziq r (off+6) hy fun j u hu=>?_⟩
   have:=hr (j+6) u (by simpa using hu)
   rw [show off+6+j=off+(j+6) by omega]
   exact this
theorem z2t (lang:Int) (l l2:List Val) (V V2:Value) (P P2:Nat→Prop) (w:World) (hG:Gd w) (hT:Tab w) (h:zai valE w P V l) (h2:zai valE w P2 V2 l2) (hn:l.length≤2097152) (hn2:l2.length≤2097152):
 Calls Tryz.prog 107 #[V,V2,.func (.func 108) #[.int .i64 lang] #[]] w fun e w'=>e=.returned (.int .i64 (za5 lang l l2))∧Low w.heap.size w w':=by
 obtain ⟨p,cap,rfl,h⟩:=h
 obtain ⟨p2,cap2,rfl,h2⟩:=h2
 by_cases e:l=[]
 ·subst e
  exact zpp lang p p2 l2 cap cap2 _ w
 ·obtain ⟨g,off,xs,rfl,_,hr,he⟩:=h e
  by_cases e2:l2=[]
  ·subst e2
   exact zpr lang l [] g off cap p2 0 0 cap2 w hG hT (ziq l off he hr) (by unfold zbp;trivial) (fun h=>absurd h (by simp)) hn (by simp) (fun v _=>z0a v)
  ·obtain ⟨g2,off2,xs2,rfl,_,hr2,he2⟩:=h2 e2
   exact zpr lang l l2 g off cap _ g2 off2 cap2 w hG hT (ziq l off he hr) (ziq l2 off2 he2 hr2) (fun _=>rfl) hn hn2 (fun v _=>z0a v)
set_option maxHeartbeats 1600000 in
theorem zsi (lang:Int) (l l2:List Val) (V V2:Value) (P P2:Nat→Prop) (w:World) (hG:Gd w) (hT:Tab w) (h:zai valE w P V l) (h2:zai valE w P2 V2 l2) (hn:l.length≤2097152) (hn2:l2.length≤2097152):
 Calls Tryz.prog 67 #[.int .i64 lang,V,V2] w fun e w'=>e=.returned (.int .i64 (za5 lang l l2))∧Low w.heap.size w w':=by
 have HC:=Lib.hid (z2t lang l l2 V V2 P P2 w hG hT h h2 hn hn2)
 obtain ⟨p,cap,rfl,h⟩:=h
 obtain ⟨p2,cap2,rfl,h2⟩:=h2
 generalize za5 lang l l2=r at*
 clear h h2
 go_enter Tryz.func67,Tryz.ntmps67
 go_wp2_with (first |(go_at_call 107;(with_reducible refine HC.out.mono ?_);rintro e w1 ⟨rfl,hb⟩))
 go_ret
 exact ⟨rfl,hb⟩
set_option maxHeartbeats 1600000 in
theorem z0d (lang:Int) (l l2:List Val) (V V2:Value) (P P2:Nat→Prop) (w:World) (hG:Gd w) (hT:Tab w) (h:zai valE w P V l) (h2:zai valE w P2 V2 l2) (hn:l.length≤2097152) (hn2:l2.length≤2097152):
 Calls Tryz.prog 32 #[.int .i64 lang,V,V2] w fun e w'=>e=.returned (.int .i64 (za5 lang l l2))∧Low w.heap.size w w':=by
 have HC:=Lib.hid (zsi lang l l2 V V2 P P2 w hG hT h h2 hn hn2)
 obtain ⟨p,cap,rfl,h⟩:=h
 obtain ⟨p2,cap2,rfl,h2⟩:=h2
 generalize za5 lang l l2=r at*
 clear h h2
 go_enter Tryz.func32,Tryz.ntmps32
 go_wp2_with (first |(go_at_call 67;(with_reducible refine HC.out.mono ?_);rintro e w1 ⟨rfl,hb⟩))
 go_ret
 exact ⟨rfl,hb⟩
end Go.Proofs.YteclpnfckjfibaaGreatDoor

/- CG -/
namespace Go.Proofs.YteclpnfckjfibaaGreatDoor
open Go.RowKit
set_option maxHeartbeats 1600000 in
theorem cmp106 (lang:Int) (l l2:List Val) (V V2:Value) (P P2:Nat→Prop) (gf gl:Nat) (w:World) (hf:w.heap[gf]?=some (.cells #[.func (.func 67) #[] #[]] 73)) (hl:w.heap[gl]?=some (.cells #[.int .i64 lang] 72)) (hG:Gd w) (hT:Tab w) (h:zai valE w P V l) (h2:zai valE w P2 V2 l2) (hn:l.length≤2097152) (hn2:l2.length≤2097152):
 Calls Tryz.prog 106 #[V,V2,.pointer (some ⟨gf,0,none⟩),.pointer (some ⟨gl,0,none⟩)] w fun e w'=>e=.returned (.int .i64 (za5 lang l l2))∧Low w.heap.size w w':=by
 have HC:=Lib.hid (zsi lang l l2 V V2 P P2 w hG hT h h2 hn hn2)
 obtain ⟨p,cap,rfl,h⟩:=h
 obtain ⟨p2,cap2,rfl,h2⟩:=h2
 have c1:=zad hf 0 rfl
 have c2:=zad hl 0 rfl
 generalize za5 lang l l2=r at*
 clear h h2 hf hl
 go_enter Tryz.func106,Tryz.ntmps106
 go_wp2_with (first |(go_at_call 67;(with_reducible refine HC.out.mono ?_);rintro e w1 ⟨rfl,hb⟩))
 go_ret
 exact ⟨rfl,hb⟩
end Go.Proofs.YteclpnfckjfibaaGreatDoor

/- DNa -/
namespace Go.Proofs.YteclpnfckjfibaaGreatDoor
open Go.RowKit
end Go.Proofs.YteclpnfckjfibaaGreatDoor

/- DNd -/
namespace Go.Proofs.YteclpnfckjfibaaGreatDoor
open Go.RowKit
end Go.Proofs.YteclpnfckjfibaaGreatDoor

/- DDW3 -/
namespace Go.Proofs.YteclpnfckjfibaaGreatDoor
open Go.RowKit
structure TwoS (w:World) (g7 g9:Nat) (N1:Bool) (u:Value) (s1:Int) (d1:List Nat) (N2:Bool) (v:Value) (s2:Int) (d2:List Nat) (w':World):Prop where
 r7:Rec w' g7 N1 u s1
 r9:Rec w' g9 N2 v s2
 r4:∃ n z k,Rec w' w.heap.size n z k
 r5:∃ n z k,Rec w' (w.heap.size+1) n z k
 i1:Ints w' u d1
 i2:Ints w' v d2
 bel:Below w.heap.size w w'
 n7:w.heap.size+2≤g7
 n9:w.heap.size+2≤g9
theorem TwoS.below {w w' w2:World} {g7 g9:Nat} {N1 N2:Bool} {u v:Value} {s1 s2:Int} {d1 d2:List Nat} (h:TwoS w g7 g9 N1 u s1 d1 N2 v s2 d2 w') (k:Below w'.heap.size w' w2):TwoS w g7 g9 N1 u s1 d1 N2 v s2 d2 w2:=by
 obtain ⟨n4,z4,k4,r4⟩:=h.r4
 obtain ⟨n5,z5,k5,r5⟩:=h.r5
 exact ⟨h.r7.below k,h.r9.below k,⟨_,_,_,r4.below k⟩,⟨_,_,_,r5.below k⟩,h.i1.below k,h.i2.below k,zab h.bel k (Nat.le_of_lt r4.lt),h.n7,h.n9⟩
def zu3 (s:ByteArray) (N:Bool) (sc:Int) (ds:List Nat) (o:Bool):Prop:=
 ∀ W,Calls Tryz.prog 219 #[.string s] W fun e w'=>∃ u,e=.returned (.tuple #[.agg #[.bool N,u,.int .i64 sc],.bool o])∧Ints w' u ds∧Below W.heap.size W w'
theorem zu3.at {s:ByteArray} {N:Bool} {sc:Int} {ds:List Nat} {o:Bool} (h:zu3 s N sc ds o) (W:World):Calls Tryz.prog 219 #[.string s] W fun e w'=>∃ u,e=.returned (.tuple #[.agg #[.bool N,u,.int .i64 sc],.bool o])∧Ints w' u ds∧Below W.heap.size W w':=h W
def zsj (s:ByteArray) (c:Bool):Prop:=∀ W,Calls Tryz.prog 154 #[.string s] W fun e w'=>e=.returned (.bool c)∧Below W.heap.size W w'
theorem zsj.at {s:ByteArray} {c:Bool} (h:zsj s c) (W:World):Calls Tryz.prog 154 #[.string s] W fun e w'=>e=.returned (.bool c)∧Below W.heap.size W w':=h W
end Go.Proofs.YteclpnfckjfibaaGreatDoor

/- DDV1 -/
namespace Go.Proofs.YteclpnfckjfibaaGreatDoor
structure Row (i x:Nat) (bs':List Nat) (D0:Nat) (len:Nat) (ds:List Nat) (k c:Nat):Prop where
 small:zec ds
 len:ds.length=len
 car:c≤9
 val:zcy ds+c*10 ^ (i+k)=D0+x*vT k (dig bs')*10 ^ i
theorem Row.all {i x len k:Nat} {xs bs' ds:List Nat} (h:Row i x bs' (vT i (dig xs)*zcy bs') len ds k 0) (hx:x=dig xs i) (hk:bs'.length≤k):zcy ds=vT (i+1) (dig xs)*zcy bs':=by
 have v:=h.val
 rw [zh5 bs' hk,Nat.zero_mul,Nat.add_zero] at v
 rw [v]
 show _=(vT i (dig xs)+dig xs i*10 ^ i)*zcy bs'
 rw [Nat.add_mul,hx,Nat.mul_right_comm]
end Go.Proofs.YteclpnfckjfibaaGreatDoor

/- DDV2 -/
namespace Go.Proofs.YteclpnfckjfibaaGreatDoor
structure Dec (l:List UInt8) (n:Bool) (ds:List Nat) (sc:Nat):Prop where
 sign:n=zef l
 small:zec ds
 amt:zcy ds*10 ^ (54 - sc)=damt l
 sc:sc≤20
 len:ds.length≤60
theorem Dec.val {l:List UInt8} {n:Bool} {ds:List Nat} {sc:Nat} (h:Dec l n ds sc):nval n ds sc=dval l:=by
 unfold nval dval;rw [h.amt,h.sign]
theorem Dec.zero {l:List UInt8} {n:Bool} {ds:List Nat} {sc:Nat} (h:Dec l n ds sc):zcy ds=0↔damt l=0:=by
 have:=h.amt
 constructor
 ·intro e;rw [← this,e,Nat.zero_mul]
 ·intro e
  rw [e,Nat.mul_eq_zero] at this
  rcases this with k | k
  ·exact k
  ·exact absurd k (Nat.pos_iff_ne_zero.1 (Nat.pow_pos (by decide)))
end Go.Proofs.YteclpnfckjfibaaGreatDoor

/- DDW4 -/
namespace Go.Proofs.YteclpnfckjfibaaGreatDoor
open Go.RowKit
structure PlusS (w:World) (N1:Bool) (u:Value) (s1:Int) (N2:Bool) (v:Value) (s2:Int) (x:Value) (dx:List Nat) (y:Value) (dy:List Nat) (w':World):Prop where
 r2:Rec w' w.heap.size N1 u s1
 r3:Rec w' (w.heap.size+1) N2 v s2
 r4:∃ n z k,Rec w' (w.heap.size+2) n z k
 i1:Ints w' x dx
 i2:Ints w' y dy
 bel:Below w.heap.size w w'
theorem PlusS.below {w w' w2:World} {N1 N2:Bool} {u v x y:Value} {s1 s2:Int} {dx dy:List Nat} (h:PlusS w N1 u s1 N2 v s2 x dx y dy w') (k:Below w'.heap.size w' w2):PlusS w N1 u s1 N2 v s2 x dx y dy w2:=
 ⟨h.r2.below k,h.r3.below k,(have ⟨n,z,q,r⟩:=h.r4;⟨n,z,q,r.below k⟩),h.i1.below k,h.i2.below k,zab h.bel k (Nat.le_of_lt h.r2.lt)⟩
end Go.Proofs.YteclpnfckjfibaaGreatDoor

/- DDW5 -/
namespace Go.Proofs.YteclpnfckjfibaaGreatDoor
open Go.RowKit
end Go.Proofs.YteclpnfckjfibaaGreatDoor

/- DDW6 -/
namespace Go.Proofs.YteclpnfckjfibaaGreatDoor
open Go.RowKit
def TwoAs (s t:ByteArray) (N1:Bool) (s1:Int) (d1:List Nat) (N2:Bool) (s2:Int) (d2:List Nat) (r:Bool):Prop:=
 ∀ w,Calls Tryz.prog 213 #[.string s,.string t] w fun e w'=>∃ u v,e=.returned (.tuple #[.agg #[.bool N1,u,.int .i64 s1],.agg #[.bool N2,v,.int .i64 s2],.bool r])∧Ints w' u d1∧Ints w' v d2∧Below w.heap.size w w'
theorem TwoAs.at {s t:ByteArray} {N1 N2 r:Bool} {s1 s2:Int} {d1 d2:List Nat} (h:TwoAs s t N1 s1 d1 N2 s2 d2 r) (w:World):Calls Tryz.prog 213 #[.string s,.string t] w fun e w'=>∃ u v,e=.returned (.tuple #[.agg #[.bool N1,u,.int .i64 s1],.agg #[.bool N2,v,.int .i64 s2],.bool r])∧Ints w' u d1∧Ints w' v d2∧Below w.heap.size w w':=h w
theorem Rec.drew {w:World} {g:Nat} {n:Bool} {v:Value} {sc:Int} (h:Rec w g n v sc):Rec w.drew g n v sc:=h
end Go.Proofs.YteclpnfckjfibaaGreatDoor

/- DDW7 -/
namespace Go.Proofs.YteclpnfckjfibaaGreatDoor
open Go.RowKit
end Go.Proofs.YteclpnfckjfibaaGreatDoor

/- DDV3 -/
namespace Go.Proofs.YteclpnfckjfibaaGreatDoor
structure Whole (l:List UInt8) (neg:Bool) (x:List UInt8):Prop where
 eq:l=(if neg then [45] else [])++x++[46,48]
 all:x.all za8=true
 ne:x≠[]
 len:x.length≤40
 lead:2≤x.length→x.headD 0≠48
end Go.Proofs.YteclpnfckjfibaaGreatDoor

/- DDY6 -/
namespace Go.Proofs.YteclpnfckjfibaaGreatDoor
open Go.RowKit
end Go.Proofs.YteclpnfckjfibaaGreatDoor

/- DNb -/
namespace Go.Proofs.YteclpnfckjfibaaGreatDoor
open Go.RowKit
end Go.Proofs.YteclpnfckjfibaaGreatDoor

/- DNe -/
namespace Go.Proofs.YteclpnfckjfibaaGreatDoor
open Go.RowKit
end Go.Proofs.YteclpnfckjfibaaGreatDoor

/- EQU -/
namespace Go.Proofs.YteclpnfckjfibaaGreatDoor
open Go.RowKit
end Go.Proofs.YteclpnfckjfibaaGreatDoor

/- EQV -/
namespace Go.Proofs.YteclpnfckjfibaaGreatDoor
open Go.RowKit
end Go.Proofs.YteclpnfckjfibaaGreatDoor

/- PSO -/
namespace Go.Proofs.YteclpnfckjfibaaGreatDoor
open Go.RowKit
def posR (lang:Int) (x:List Val) (out:List (List Val)):Nat→Nat
 | 0=>0
 | k+1=>if 0 < za5 lang (out.getD k []) x then posR lang x out k else k+1
def insR (lang:Int) (out:List (List Val)) (x:List Val):List (List Val):=out.take (posR lang x out out.length)++x::out.drop (posR lang x out out.length)
def zlk (lang:Int) (l:List (List Val)):List (List Val):=l.foldl (insR lang) []
theorem z0e (lang:Int) (x:List Val) (out:List (List Val)):(k:Nat)→posR lang x out k≤k
 | 0=>Nat.le_refl _
 | k+1=>by
   unfold posR
   split
   ·exact Nat.le_trans (z0e lang x out k) (by omega)
   ·exact Nat.le_refl _
theorem zps (lang:Int) (x:List Val) (out:List (List Val)):(k:Nat)→∀ j,posR lang x out k≤j→j < k→0 < za5 lang (out.getD j []) x
 | 0,j,_,h=>absurd h (by omega)
 | k+1,j,h,hj=>by
   unfold posR at h
   split at h
   ·rename_i q
    by_cases e:j=k
    ·subst e
     exact q
    ·exact zps lang x out k j h (by omega)
   ·omega
theorem z0f (lang:Int) (x:List Val) (out:List (List Val)):(k:Nat)→∀ j,posR lang x out k=j+1→za5 lang (out.getD j []) x≤0
 | 0,j,h=>by simp [posR] at h
 | k+1,j,h=>by
   unfold posR at h
   split at h
   ·exact z0f lang x out k j h
   ·rename_i q
    have:k=j:=by omega
    subst this
    omega
theorem z0g (lang:Int) (out:List (List Val)) (x:List Val):(insR lang out x).Perm (x::out):=by
 unfold insR
 refine List.perm_middle.trans ?_
 rw [List.take_append_drop]
theorem zdj (lang:Int):(l out:List (List Val))→(l.foldl (insR lang) out).Perm (out++l)
 | [],out=>by simp
 | x::r,out=>by
   rw [List.foldl_cons]
   refine (zdj lang r (insR lang out x)).trans ?_
   refine ((z0g lang out x).append_right r).trans ?_
   exact (List.perm_middle (a:=x) (l₁:=out) (l₂:=r)).symm
theorem zll {lang:Int} {x y z:List Val} (h1:za5 lang x y≤0) (h2:za5 lang y z≤0):za5 lang x z≤0:=by
 exact (zh8 lang x y z).le h1 h2
theorem ztv {lang:Int} {out:List (List Val)} {x:List Val} (h:out.Pairwise fun a b=>za5 lang a b≤0):(insR lang out x).Pairwise fun a b=>za5 lang a b≤0:=by
 obtain ⟨p,hp⟩:∃ p,p=posR lang x out out.length:=⟨_,rfl⟩
 have hle:p≤out.length:=by rw [hp];exact z0e _ _ _ _
 have habove:∀ j (hj:j < out.length),p≤j→za5 lang x out[j]≤0:=fun j hj h1=>by
  have:=zps lang x out out.length j (hp ▸ h1) hj
  rw [List.getD_eq_getElem?_getD,List.getElem?_eq_getElem hj] at this
  have e:=zdv lang out[j] x
  have t:0 < za5 lang out[j] x:=this
  omega
 have hbelow:∀ a∈out.take p,za5 lang a x≤0:=fun a ha=>by
  obtain ⟨i,hi,rfl⟩:=List.getElem_of_mem ha
  rw [List.length_take] at hi
  have hi2:i < p:=by omega
  obtain ⟨q,rfl⟩:∃ q,p=q+1:=⟨p - 1,by omega⟩
  have hq:q < out.length:=by omega
  have hl:=z0f lang x out out.length q hp.symm
  rw [List.getD_eq_getElem?_getD,List.getElem?_eq_getElem hq] at hl
  have hl2:za5 lang out[q] x≤0:=hl
  rw [List.getElem_take]
  by_cases e:i=q
  ·subst e
   exact hl2
  ·exact zll (List.pairwise_iff_getElem.1 h i q (by omega) hq (by omega)) hl2
 unfold insR
 rw [← hp,List.pairwise_append]
 refine ⟨h.sublist (List.take_sublist _ _),List.pairwise_cons.2 ⟨fun b hb=>?_,h.sublist (List.drop_sublist _ _)⟩,fun a ha b hb=>?_⟩
 ·obtain ⟨i,hi,rfl⟩:=List.getElem_of_mem hb
  rw [List.length_drop] at hi
  rw [List.getElem_drop]
  exact habove _ (by omega) (by omega)
 ·rcases List.mem_cons.1 hb with rfl | hb
  ·exact hbelow a ha
  ·obtain ⟨i,hi,rfl⟩:=List.getElem_of_mem hb
   rw [List.length_drop] at hi
   rw [List.getElem_drop]
   exact zll (hbelow a ha) (habove _ (by omega) (by omega))
theorem zd9 (lang:Int):(l out:List (List Val))→(out.Pairwise fun a b=>za5 lang a b≤0)→((l.foldl (insR lang) out).Pairwise fun a b=>za5 lang a b≤0)
 | [],_,h=>h
 | x::r,out,h=>by
   rw [List.foldl_cons]
   exact zd9 lang r _ (ztv h)
theorem zmn {lang:Int} {x y:List Val} (hx:∀ v∈x,mayP v 0=true) (hy:∀ v∈y,mayP v 0=true) (h1:za5 lang x y≤0) (h2:za5 lang y x≤0):x=y:=by
 have e:=zdv lang x y
 have h0:za5 lang x y=0:=by omega
 obtain ⟨h3,h4⟩:=zn2 lang x y 0 0 (zk7 x hx) (zk7 y hy) h0
 exact zi8 x y h3 h4
theorem z0h {lang:Int} {a b:List (List Val)} (ha:∀ r∈a,∀ v∈r,mayP v 0=true) (hb:∀ r∈b,∀ v∈r,mayP v 0=true):zlk lang a=zlk lang b↔a.Perm b:=by
 have pa:(zlk lang a).Perm a:=zdj lang a []
 have pb:(zlk lang b).Perm b:=zdj lang b []
 constructor
 ·intro h
  exact pa.symm.trans (h ▸ pb)
 ·intro h
  refine List.Perm.eq_of_pairwise (le:=fun x y=>za5 lang x y≤0) (fun x y hx hy h1 h2=>?_) (zd9 lang a [] List.Pairwise.nil) (zd9 lang b [] List.Pairwise.nil) (pa.trans (h.trans pb.symm))
  exact zmn (ha x (pa.mem_iff.1 hx)) (hb y (pb.mem_iff.1 hy)) h1 h2
end Go.Proofs.YteclpnfckjfibaaGreatDoor

/- PCN -/
namespace Go.Proofs.YteclpnfckjfibaaGreatDoor
open Go.RowKit
def za2 (lang:Int) (t:TabL):TabL:=if tabP t=true then ⟨t.vars,zlk lang t.rows⟩ else ⟨[],[]⟩
theorem zev {lang:Int} {t:TabL} (h:tabP t=true):za2 lang t=⟨t.vars,zlk lang t.rows⟩:=by
 unfold za2
 rw [if_pos h]
theorem zoi {lang:Int} {l:List (List Val)} {r:List Val}:r∈zlk lang l↔r∈l:=(zdj lang l []).mem_iff
theorem zoj {lang:Int} {t:TabL} (h:tabP t=true):tabP (za2 lang t)=true:=by
 rw [zev h]
 exact zzu h fun r hr=>zoi.1 hr
theorem z0i {lang:Int} {t:TabL} (h:tabP t=true):(za2 lang t).rows.length=t.rows.length:=by
 rw [zev h]
 exact (zdj lang t.rows []).length_eq
theorem zsk {lang:Int} {t:TabL} (h:tabP t=true):∀ r∈(za2 lang t).rows,r∈t.rows:=fun r hr=>by
 rw [zev h] at hr
 exact zoi.1 hr
theorem ztw {lang:Int} {l m:List (List Val)} (hl:∀ r∈l,∀ v∈r,mayP v 0=true) (hp:m.Perm l) (hs:m.Pairwise fun a b=>za5 lang a b≤0):m=zlk lang l:=by
 have pl:(zlk lang l).Perm l:=zdj lang l []
 exact List.Perm.eq_of_pairwise (le:=fun x y=>za5 lang x y≤0) (fun x y hx hy h1 h2=>zmn (hl x (hp.mem_iff.1 hx)) (hl y (pl.mem_iff.1 hy)) h1 h2) hs (zd9 lang l [] List.Pairwise.nil) (hp.trans pl.symm)
theorem ztx {lang:Int} {t:TabL} (h:tabP t=true):za2 lang (za2 lang t)=za2 lang t:=by
 rw [zev (zoj h),zev h]
 have hm:=(zbk h).2
 have:=(z0h (lang:=lang) (a:=zlk lang t.rows) (b:=t.rows) (fun r hr=>hm r (zoi.1 hr)) hm).2 (zdj lang t.rows [])
 show TabL.mk t.vars (zlk lang (zlk lang t.rows))=_
 rw [this]
theorem zwt {lang:Int} {t:TabL} (h:tabP t=true):zlb (za2 lang t) t=true:=by
 refine zph (zoj h) h ?_ ?_
 ·rw [zev h]
 ·rw [zev h]
  exact zdj lang t.rows []
theorem zwu {lang:Int} {t:TabL} (h:tabP t=true) (i j:Nat) (hi:i < (za2 lang t).rows.length) (hj:j < (za2 lang t).rows.length) (hij:i < j):za5 lang (za2 lang t).rows[i] (za2 lang t).rows[j]≤0:=by
 have hs:(za2 lang t).rows.Pairwise fun a b=>za5 lang a b≤0:=by
  rw [zev h]
  exact zd9 lang t.rows [] List.Pairwise.nil
 exact List.pairwise_iff_getElem.1 hs i j hi hj hij
theorem zpt (l:List (List Val)):(n:Nat)→n≤l.length→((zch newQ l n).map zao).Nodup∧∀ r∈zch newQ l n,r∈l.take n
 | 0,_=>⟨List.nodup_nil,fun r hr=>by simp [zch] at hr⟩
 | n+1,h=>by
   obtain ⟨h1,h2⟩:=zpt l n (by omega)
   have hn:n < l.length:=by omega
   have ht:l.take (n+1)=l.take n++[l[n]]:=List.take_succ_eq_append_getElem hn
   have e:l.getD n []=l[n]:=by rw [List.getD_eq_getElem?_getD,List.getElem?_eq_getElem hn];rfl
   unfold zch
   rw [e]
   split
   ·rename_i q
    refine ⟨?_,fun r hr=>?_⟩
    ·rw [List.map_append,List.nodup_append]
     refine ⟨h1,by simp,fun x hx y hy hxy=>?_⟩
     obtain rfl:y=zao l[n]:=by simpa using hy
     obtain ⟨r,hr,rfl⟩:=List.mem_map.1 hx
     unfold newQ at q
     rw [Bool.not_eq_true',List.any_eq_false] at q
     exact q r (h2 r hr) (by simpa using hxy)
    ·rw [ht]
     rcases List.mem_append.1 hr with hr | hr
     ·exact List.mem_append_left _ (h2 r hr)
     ·exact List.mem_append_right _ hr
   ·refine ⟨h1,fun r hr=>?_⟩
    rw [ht]
    exact List.mem_append_left _ (h2 r hr)
theorem zlm {k:List (List Val)} (h:(k.map zao).Nodup):(n:Nat)→n≤k.length→zch newQ k n=k.take n
 | 0,_=>by simp [zch]
 | n+1,hn=>by
   have hk:n < k.length:=by omega
   have e:k.getD n []=k[n]:=by rw [List.getD_eq_getElem?_getD,List.getElem?_eq_getElem hk];rfl
   unfold zch
   rw [e,zlm h n (by omega),if_pos,List.take_succ_eq_append_getElem hk]
   unfold newQ
   rw [Bool.not_eq_true',List.any_eq_false]
   intro y hy hq
   obtain ⟨i,hi,rfl⟩:=List.getElem_of_mem hy
   rw [List.length_take] at hi
   rw [List.getElem_take] at hq
   have hq2:zao (k[i]'(by omega))=zao k[n]:=by simpa using hq
   have hne:=List.pairwise_iff_getElem.1 h i n (by rw [List.length_map];omega) (by rw [List.length_map];exact hk) (by omega)
   exact hne (by rw [List.getElem_map,List.getElem_map];exact hq2)
theorem zwv {t:TabL} (h:tabP t=true):zc7 (zc7 t)=zc7 t:=by
 have hd:tabP (⟨t.vars,zch newQ t.rows t.rows.length⟩:TabL)=true:=by rw [← zl5 h];exact zuw h
 rw [zl5 h,zl5 hd]
 show TabL.mk t.vars (zch newQ (zch newQ t.rows t.rows.length) (zch newQ t.rows t.rows.length).length)=_
 rw [zlm (zpt t.rows t.rows.length (Nat.le_refl _)).1 _ (Nat.le_refl _),List.take_length]
theorem zty {vs:List ByteArray} (h:vs.Nodup) {i:Nat} (hi:i < vs.length):(i,i)∈za4 vs vs:=by
 unfold za4
 rw [List.mem_filterMap]
 refine ⟨(vs[i],i),List.mk_mem_zipIdx_iff_getElem?.2 (List.getElem?_eq_getElem hi),?_⟩
 rw [zl4 h i hi]
 rfl
theorem ztz {vs:List ByteArray} (h:vs.Nodup) {p:Nat × Nat} (hp:p∈za4 vs vs):p.1=p.2:=by
 unfold za4 at hp
 rw [List.mem_filterMap] at hp
 obtain ⟨⟨x,j⟩,hx,he⟩:=hp
 have hj:=List.mk_mem_zipIdx_iff_getElem?.1 hx
 obtain ⟨hlt,rfl⟩:=List.getElem?_eq_some_iff.1 hj
 rw [zl4 h j hlt] at he
 have e:(j,j)=p:=by simpa using he
 rw [← e]
theorem z2u {vs:List ByteArray} (h:vs.Nodup) (r:List Val):fitB (za4 vs vs) r r=true:=by
 unfold fitB
 rw [List.all_eq_true]
 intro p hp
 unfold fit1
 rw [ztz h hp,zzz]
 simp
theorem zww {a:TabL} (h:tabP a=true):∀ r∈(zcd a a).rows,∀ v∈r,isB v=false:=by
 intro r hr v hv
 have hnd:a.vars.Nodup:=(zip (zcn h)).2.2
 rw [zlc h h] at hr
 obtain ⟨hm,hk⟩:=List.mem_filter.1 hr
 cases hb:isB v with
 | false=>rfl
 | true=>
   obtain ⟨i,hi,rfl⟩:=List.getElem_of_mem hv
   have hl:=(zbk h).1 r hm
   have ht:zeh (za4 a.vars a.vars) r a.rows=true:=by
    unfold zeh
    rw [List.any_eq_true]
    refine ⟨r,hm,?_⟩
    rw [z2u hnd,Bool.true_and]
    unfold zmq
    rw [List.any_eq_true]
    refine ⟨(i,i),zty hnd (by omega),?_⟩
    unfold zra
    rw [zh4 hi,hb]
    rfl
   rw [ht] at hk
   simp at hk
theorem zwx {a o:TabL} (ha:tabP a=true) (ho:tabP o=true) (hd:∀ v∈a.vars,v ∉ o.vars):zcd a o=a:=by
 have hs:za4 a.vars o.vars=[]:=by
  unfold za4
  rw [List.filterMap_eq_nil_iff]
  intro p hp
  obtain ⟨x,j⟩:=p
  obtain ⟨hlt,rfl⟩:=List.getElem?_eq_some_iff.1 (List.mk_mem_zipIdx_iff_getElem?.1 hp)
  have hn:zbl a.vars[j] o.vars=none:=zfq.2 fun x hx e=>hd _ (List.getElem_mem hlt) (e ▸ hx)
  show (zbl a.vars[j] o.vars).map _=none
  rw [hn]
  rfl
 rw [zlc ha ho,hs]
 have:a.rows.filter (fun r=>!zeh [] r o.rows)=a.rows:=by
  rw [List.filter_eq_self]
  intro r _
  have:zeh [] r o.rows=false:=by
   unfold zeh
   rw [List.any_eq_false]
   intro x _
   simp [zmq]
  rw [this]
  rfl
 rw [this]
structure z4c (lang:Int) (a b:TabL):Prop where
 n1:(zb9 a b).rows.length≤2097152
 hu:(zb9 a b).rows.length=a.rows.length+b.rows.length
 va:∀ r∈a.rows,13*wAll r≤700000000
 vc:∀ r∈(za2 lang a).rows,13*wAll r≤700000000
 hs:zlb (za2 lang a) a=true
 hc:za2 lang (za2 lang a)=za2 lang a
 nc:(za2 lang a).rows.length=a.rows.length
 rc:∀ r∈(za2 lang a).rows,r.length≤2097152
 so:∀ i j (hi:i < (za2 lang a).rows.length) (hj:j < (za2 lang a).rows.length),i < j→za5 lang (za2 lang a).rows[i] (za2 lang a).rows[j]≤0
 vd:∀ r∈(zc7 a).rows,13*wAll r≤700000000
 hd:zc7 (zc7 a)=zc7 a
 ld:(zc7 a).rows.length≤a.rows.length
 wm:WtOk a a
 hm:∀ r∈(zcd a a).rows,∀ v∈r,isB v=false
 rm:∀ r∈(zcd a a).rows,r.length≤64
 lm:(zcd a a).rows.length≤a.rows.length
 n2:(zb9 a a).rows.length≤2097152
 v2:∀ r∈(zb9 a a).rows,13*wAll r≤700000000
 hp:zin (zb9 a a) a.vars=zb9 a a
 hr:zlb (zb9 a a) (zb9 a a)=true
 fr:∀ vs,zeb vs=true→vs.length=b.vars.length→(∀ v∈a.vars,v ∉ vs)→WtOk a ⟨vs,b.rows⟩∧zlb (zcd a ⟨vs,b.rows⟩) a=true∧(∀ r∈(zcd a ⟨vs,b.rows⟩).rows,13*wAll r≤700000000)
theorem bags_ok (lang:Int) {a b:TabL} (ha:tabP a=true) (hb:tabP b=true) (hl:a.vars.length+b.vars.length≤64) (la:zdz a.rows) (lb:zdz b.rows) (na:a.rows.length≤60) (nb:b.rows.length≤60):z4c lang a b:=by
 have hav:=zcn ha
 have euu:zb9 a a=⟨a.vars,a.rows++a.rows⟩:=zwg (V:=a.vars) ha ha
 have tuu:tabP (zb9 a a)=true:=by rw [euu];exact tab_app (V:=a.vars) ha ha
 have luu:zdz (zb9 a a).rows:=by rw [euu];exact zzw la la
 have hv64:=(zip hav).1
 have hlen:=(zbk ha).1
 refine ⟨?_,zsa ha hb hl,zfi ha la,zfi (zoj ha) (zr1 la (zsk ha)),zwt ha,ztx ha,z0i ha,?_,zwu ha,zfi (zuw ha) ?_,zwv ha,?_,z2i ha ha la la,zww ha,?_,?_,?_,zfi tuu luu,?_,zpi tuu,?_⟩
 ·rw [zsa ha hb hl]
  omega
 ·intro r hr
  have:=hlen r (zsk ha r hr)
  omega
 ·rw [zl5 ha]
  exact zr1 la (zm0 newQ a.rows _ (Nat.le_refl _))
 ·rw [zl5 ha]
  exact zio _ _ _
 ·intro r hr
  rw [zlc ha ha] at hr
  have:=hlen r (List.mem_filter.1 hr).1
  omega
 ·rw [zlc ha ha]
  exact List.length_filter_le _ _
 ·rw [euu]
  show (a.rows++a.rows).length≤_
  rw [List.length_append]
  omega
 ·have:(zb9 a a).vars=a.vars:=by rw [euu]
  rw [← this]
  exact zr0 tuu
 ·intro vs hvs hn hd
  have hbr:=zbk hb
  have ho:tabP (⟨vs,b.rows⟩:TabL)=true:=zrx hvs (fun r hr=>by show r.length=vs.length;rw [hn];exact hbr.1 r hr) hbr.2
  have e:=zwx ha ho hd
  refine ⟨z2i ha ho la lb,?_,?_⟩
  ·rw [e]
   exact zpi ha
  ·rw [e]
   exact zfi ha la
end Go.Proofs.YteclpnfckjfibaaGreatDoor

/- SRT -/
namespace Go.Proofs
open Go.Shelf
def Tryz.sortW_ren:Go.Shelf.Ren:=⟨fun | 6=>105 | 15=>164 | 14=>163 | 28=>203 | 29=>204 | 20=>195 | 21=>196 | 22=>197 | 23=>198 | 24=>199 | 25=>200 | 26=>201 | 27=>202 | 46=>223 | 47=>224 | 48=>225 | 49=>226 | 50=>227 | 57=>255 | n=>n,fun | 22=>23 | 24=>43 | 25=>74 | 3=>3 | 39=>179 | 0=>0 | 53=>211 | 55=>213 | 4=>4 | 46=>204 | 45=>203 | 50=>208 | 5=>5 | 9=>9 | 66=>238 | 70=>242 | 76=>260 | 77=>261 | n=>n,fun | n=>n⟩
theorem Tryz.sortW:Go.Proofs.SlLaysF.n6 Tryz.prog Tryz.sortW_ren:={
 mixed:=by kernel_rfl
 f6:=⟨Tryz.f105.name,by decide,Tryz.func105.trans (congrArg some (by kernel_rfl))⟩
 f14:=⟨Tryz.f163.name,by decide,Tryz.func163.trans (congrArg some (by kernel_rfl))⟩
 f15:=Tryz.func164.trans (congrArg some (by kernel_rfl))
 f20:=⟨Tryz.f195.name,by decide,Tryz.func195.trans (congrArg some (by kernel_rfl))⟩
 f21:=⟨Tryz.f196.name,by decide,Tryz.func196.trans (congrArg some (by kernel_rfl))⟩
 f22:=⟨Tryz.f197.name,by decide,Tryz.func197.trans (congrArg some (by kernel_rfl))⟩
 f23:=⟨Tryz.f198.name,by decide,Tryz.func198.trans (congrArg some (by kernel_rfl))⟩
 f24:=⟨Tryz.f199.name,by decide,Tryz.func199.trans (congrArg some (by kernel_rfl))⟩
 f25:=⟨Tryz.f200.name,by decide,Tryz.func200.trans (congrArg some (by kernel_rfl))⟩
 f26:=⟨Tryz.f201.name,by decide,Tryz.func201.trans (congrArg some (by kernel_rfl))⟩
 f27:=⟨Tryz.f202.name,by decide,Tryz.func202.trans (congrArg some (by kernel_rfl))⟩
 f28:=Tryz.func203.trans (congrArg some (by kernel_rfl))
 f29:=Tryz.func204.trans (congrArg some (by kernel_rfl))
 f46:=⟨Tryz.f223.name,by decide,Tryz.func223.trans (congrArg some (by kernel_rfl))⟩
 f47:=Tryz.func224.trans (congrArg some (by kernel_rfl))
 f48:=Tryz.func225.trans (congrArg some (by kernel_rfl))
 f49:=⟨Tryz.f226.name,by decide,Tryz.func226.trans (congrArg some (by kernel_rfl))⟩
 f50:=⟨Tryz.f227.name,by decide,Tryz.func227.trans (congrArg some (by kernel_rfl))⟩
 f57:=⟨Tryz.f255.name,by decide,Tryz.func255.trans (congrArg some (by kernel_rfl))⟩
 t0:=Tryz.underlying0
 a0:=Tryz.isAgg0
 z0:=Tryz.sizeOf0
 v0:=Tryz.zeroValue0
 t3:=Tryz.underlying3
 a3:=Tryz.isAgg3
 z3:=Tryz.sizeOf3
 v3:=Tryz.zeroValue3
 t4:=Tryz.underlying4
 a4:=Tryz.isAgg4
 z4:=Tryz.sizeOf4
 v4:=Tryz.zeroValue4
 t5:=Tryz.underlying5
 a5:=Tryz.isAgg5
 z5:=Tryz.sizeOf5
 v5:=Tryz.zeroValue5
 t9:=Tryz.underlying9
 a9:=Tryz.isAgg9
 z9:=Tryz.sizeOf9
 v9:=Tryz.zeroValue9
 t22:=Tryz.underlying23
 a22:=Tryz.isAgg23
 z22:=Tryz.sizeOf23
 v22:=Tryz.zeroValue23
 a24:=Tryz.isAgg43
 z24:=Tryz.sizeOf43
 t25:=Tryz.underlying74
 a25:=Tryz.isAgg74
 z25:=Tryz.sizeOf74
 v25:=Tryz.zeroValue74
 t39:=Tryz.underlying179
 a39:=Tryz.isAgg179
 z39:=Tryz.sizeOf179
 v39:=Tryz.zeroValue179
 t45:=Tryz.underlying203
 a45:=Tryz.isAgg203
 z45:=Tryz.sizeOf203
 v45:=Tryz.zeroValue203
 t46:=Tryz.underlying204
 a46:=Tryz.isAgg204
 z46:=Tryz.sizeOf204
 v46:=Tryz.zeroValue204
 t50:=Tryz.underlying208
 a50:=Tryz.isAgg208
 z50:=Tryz.sizeOf208
 v50:=Tryz.zeroValue208
 t53:=Tryz.underlying211
 a53:=Tryz.isAgg211
 z53:=Tryz.sizeOf211
 v53:=Tryz.zeroValue211
 t55:=Tryz.underlying213
 a55:=Tryz.isAgg213
 z55:=Tryz.sizeOf213
 v55:=Tryz.zeroValue213
 t66:=Tryz.underlying238
 a66:=Tryz.isAgg238
 z66:=Tryz.sizeOf238
 v66:=Tryz.zeroValue238
 t70:=Tryz.underlying242
 a70:=Tryz.isAgg242
 z70:=Tryz.sizeOf242
 v70:=Tryz.zeroValue242
 t76:=Tryz.underlying260
 a76:=Tryz.isAgg260
 z76:=Tryz.sizeOf260
 v76:=Tryz.zeroValue260
 t77:=Tryz.underlying261
 a77:=Tryz.isAgg261
 z77:=Tryz.sizeOf261
 v77:=Tryz.zeroValue261 }
namespace YteclpnfckjfibaaGreatDoor
open Go.RowKit
theorem zl9 {α:Type} [Inhabited α] (enc:α→Value) (w:World) (blk off m:Nat) (dk:Array α) (os:Array Obj) (i:Nat) (hi:i < w.heap.size) (hne:i≠blk):(sortWorld enc w blk off m dk os).heap[i]?=w.heap[i]?:=by
 show ((w.heap.modify blk _)++os)[i]?=_
 rw [Array.getElem?_append_left (by rw [Array.size_modify];exact hi),Array.getElem?_modify,if_neg (by omega)]
theorem z0j {α:Type} [Inhabited α] (enc:α→Value) (w:World) (blk off m:Nat) (dk:Array α) (os:Array Obj):w.heap.size≤(sortWorld enc w blk off m dk os).heap.size:=by
 show w.heap.size≤((w.heap.modify blk _)++os).size
 rw [Array.size_append,Array.size_modify]
 exact Nat.le_add_right _ _
theorem zpu {α:Type} [Inhabited α] (enc:α→Value) (w:World) (blk off m:Nat) (dk:Array α) (os:Array Obj):w.grownBy (sortWorld enc w blk off m dk os) (some blk):=
 ⟨rfl,rfl,rfl,z0j enc w blk off m dk os,fun i hi hne=>zl9 enc w blk off m dk os i hi (fun e=>hne (by rw [e]))⟩
theorem z2v {α:Type} [Inhabited α] {w:World} {base g cap m n:Nat} {e:TypeId} {cur:Array Value} {os:Array Obj} (enc:α→Value) (d:Array α) (hd:d.size=n) (hbase:base≤g) (hb:w.heap[g]?=some (.cells cur e (0,0))) (h1:n≤cap) (h2:cap≤maxLen) (h3:cur.size=cap*1):
 (sortWorld enc w g 0 m d os).ownsRow base e 1 (.slice (some ⟨g,0,none⟩) n cap) n (d.toList.map enc):=by
 have hg:g < w.heap.size:=zaa hb
 refine ⟨by simp [hd],.inr ⟨g,cap,Go.Sort.putCells enc 0 d cur,rfl,hbase,?_,h1,h2,by simp [Go.Sort.putCells,h3],?_⟩⟩
 ·show (Go.Sort.grow (Go.Sort.putRow enc (Go.Sort.ahead w m) g 0 d) os).heap[g]?=_
  rw [Go.Sort.heap_grow_old _ _ (by simpa using hg)]
  simp [Go.Sort.putRow,Go.Sort.mapBlock,Go.Sort.ahead,Array.getElem?_modify,hb,Go.Sort.onCells]
 ·apply List.ext_getElem?
  intro j
  by_cases hj:j < n*1
  ·have hj2:j < d.size:=by omega
   rw [List.getElem?_take_of_lt hj,Array.getElem?_toList]
   simp [Go.Sort.putCells,show j < cur.size by omega,hj2]
  ·rw [List.getElem?_take_eq_none (by omega),List.getElem?_eq_none (by simp;omega)]
section
variable {w:World} {P:Nat→Prop}
abbrev RC (w:World) (P:Nat→Prop):={ x:Value × List Val // rowE.rel w P [x.1] x.2 }
def RC.enc (x:RC w P):Value:=x.1.1
def RC.cf (lang:Int) (x y:RC w P):Int:=za5 lang x.1.2 y.1.2
theorem RC.one:OneCell (RC.enc (w:=w) (P:=P)):=fun x=>rowE.one x.2 _ (by simp [RC.enc])
theorem swoR (lang:Int):Go.Sort.SWO (ltOf (RC.cf (w:=w) (P:=P) lang)) where
 irrefl x:=decide_eq_false (by
  have h:=zdv lang x.1.2 x.1.2
  show ¬ za5 lang x.1.2 x.1.2 < 0
  omega)
 trans x y z h1 h2:=decide_eq_true (by
  have g1:za5 lang x.1.2 y.1.2 < 0:=of_decide_eq_true h1
  have g2:za5 lang y.1.2 z.1.2 < 0:=of_decide_eq_true h2
  exact (zh8 lang x.1.2 y.1.2 z.1.2).lt g1 (Int.le_of_lt g2))
 ntrans x y z h1 h2:=decide_eq_false (by
  have g1:¬ za5 lang x.1.2 y.1.2 < 0:=of_decide_eq_false h1
  have g2:¬ za5 lang y.1.2 z.1.2 < 0:=of_decide_eq_false h2
  have h:=(zh8 lang z.1.2 y.1.2 x.1.2).le
  have e1:=zdv lang x.1.2 y.1.2
  have e2:=zdv lang y.1.2 z.1.2
  have e3:=zdv lang x.1.2 z.1.2
  show ¬ za5 lang x.1.2 z.1.2 < 0
  omega)
theorem RC.of_row:{xs:List Value}→(l:List (List Val))→RowE rowE w P xs l→∃ d:List (RC w P),xs=d.map RC.enc∧d.map (fun x=>x.1.2)=l
 | _,[],h=>by
   unfold RowE at h
   subst h
   exact ⟨[],rfl,rfl⟩
 | _,a::l,h=>by
   unfold RowE at h
   obtain ⟨c,ys,rfl,hc,hr⟩:=h
   obtain ⟨d,rfl,rfl⟩:=RC.of_row l hr
   obtain ⟨v,rfl,hv⟩:=id hc
   exact ⟨⟨(v,a),hc⟩::d,rfl,rfl⟩
theorem RC.row:(d:List (RC w P))→RowE rowE w P (d.map RC.enc) (d.map (fun x=>x.1.2))
 | []=>RowE.nil
 | x::d=>RowE.append [x.1.2] _ (RowE.single x.2) (RC.row d)
end
theorem zwy (lang:Int) (V:Value) (rs:List (List Val)) (xs:List Value) (base gf gl:Nat) (P:Nat→Prop) (W0 w:World) (hG:Gd W0) (hT:Tab W0) (b0:Below W0.heap.size W0 w) (hbase:W0.heap.size≤base) (h:w.ownsRow base 43 1 V rs.length xs) (hr:RowE rowE w P xs rs)
 (hP:∀ g,P g→g < w.heap.size∧V.ownBlock≠some g) (hf:w.heap[gf]?=some (.cells #[.func (.func 67) #[] #[]] 73)) (hl:w.heap[gl]?=some (.cells #[.int .i64 lang] 72)) (hVf:V.ownBlock≠some gf) (hVl:V.ownBlock≠some gl) (hn:rs.length≤2097152):
 Calls Tryz.prog 105 #[V,.func (.func 106) #[] #[.pointer (some ⟨gf,0,none⟩),.pointer (some ⟨gl,0,none⟩)]] w fun e w'=>e=.returned (.tuple #[])∧∃ xs' rs',rs'.Perm rs∧rs'.Pairwise (fun a b=>za5 lang a b≤0)∧w'.ownsRow base 43 1 V rs.length xs'∧RowE rowE w' P xs' rs'∧w.grownBy w' V.ownBlock:=by
 have empty:∀ (p:Option Addr) (cap:Nat),Calls Tryz.prog 105 #[.slice p 0 cap,.func (.func 106) #[] #[.pointer (some ⟨gf,0,none⟩),.pointer (some ⟨gl,0,none⟩)]] w fun e w'=>e=.returned (.tuple #[])∧w'=w:=fun p cap=>AnyF.slices_SortFunc_none { Tryz.sortW with } p cap _ w
 by_cases h0:rs=[]
 ·subst h0
  obtain ⟨p,cap,rfl⟩:=zat h
  refine (empty p cap).mono ?_
  rintro e w' ⟨rfl,rfl⟩
  exact ⟨rfl,xs,[],List.Perm.refl _,List.Pairwise.nil,h,hr,zls _ _⟩
 ·rcases h.2 with ⟨rfl,hz⟩ | ⟨g,cap,cur,rfl,hb,hg,h1,h2,h3,h4⟩
  ·exact absurd (List.length_eq_zero_iff.1 hz) h0
  ·have hgw:g < w.heap.size:=zaa hg
   have hPg:∀ i,P i→i < w.heap.size∧i≠g:=fun i hi=>⟨(hP i hi).1,fun e=>(hP i hi).2 (by rw [e];rfl)⟩
   have hfg:gf≠g:=fun e=>hVf (by rw [e];rfl)
   have hlg:gl≠g:=fun e=>hVl (by rw [e];rfl)
   obtain ⟨d,rfl,hd⟩:=RC.of_row rs hr
   have hdl:d.length=rs.length:=by rw [← hd,List.length_map]
   obtain ⟨x0,d0,rfl⟩:∃ x0 d0,d=x0::d0:=by
    cases d with
    | nil=>exact absurd (by rw [← hd];rfl) h0
    | cons x d=>exact ⟨x,d,rfl⟩
   have _inst:Inhabited (RC w P):=⟨x0⟩
   obtain ⟨d,hdd⟩:∃ d,d=x0::d0:=⟨_,rfl⟩
   rw [← hdd] at h h4 hd hdl hr
   clear hdd
   have hH:Go.Sort.Holds (RC.enc (w:=w) (P:=P)) w g 0 d.toArray:=by
    intro t ht
    have ht2:t < d.length:=by simpa using ht
    refine ⟨?_,h.frozenAt _⟩
    rw [Nat.zero_add,h.cellAt t (by omega)]
    simp [ht2]
   have cmp:CmpLays1 Tryz.prog 106 #[.pointer (some ⟨gf,0,none⟩),.pointer (some ⟨gl,0,none⟩)] (RC.enc (w:=w) (P:=P)) (RC.cf lang) g 0 d.toArray.size w:=fun m os dk hs x y=>by
    have sw:=zl9 (RC.enc (w:=w) (P:=P)) w g 0 m dk os
    have bs:Below W0.heap.size W0 (sortWorld (RC.enc (w:=w) (P:=P)) w g 0 m dk os):=b0.grown (zpu _ w g 0 m dk os) b0.size (fun i e=>by cases e;omega)
    obtain ⟨v1,e1,hs1,_,hn1⟩:=x.2
    obtain ⟨v2,e2,hs2,_,hn2⟩:=y.2
    have hs1':zai valE w P x.1.1 x.1.2:=by
     have:x.1.1=v1:=by simpa using e1
     rw [this]
     exact hs1
    have hs2':zai valE w P y.1.1 y.1.2:=by
     have:y.1.1=v2:=by simpa using e2
     rw [this]
     exact hs2
    refine (cmp106 lang x.1.2 y.1.2 x.1.1 y.1.1 P P gf gl _ ((sw gf (zaa hf) hfg).trans hf) ((sw gl (zaa hl) hlg).trans hl) (hG.below bs) (hT.below bs) (hs1'.stays fun i hi=>⟨hi,sw i (hPg i hi).1 (hPg i hi).2⟩) (hs2'.stays fun i hi=>⟨hi,sw i (hPg i hi).1 (hPg i hi).2⟩) hn1 hn2).mono ?_
    rintro e w' ⟨he,hb⟩
    exact ⟨he,hb.grows⟩
   have eg:∀ args w,(callFunc 106 args).run Tryz.prog w=.ok (.enter 106 args) w:=enters_of Tryz.func106 (by kernel_rfl) rfl
   have c:=Any.slices_SortFunc Tryz.sortW RC.enc RC.one (RC.cf lang) (swoR lang) 106 #[.pointer (some ⟨gf,0,none⟩),.pointer (some ⟨gl,0,none⟩)] g 0 cap d.toArray w eg cmp hH hgw (by simp;omega)
   simp only [List.size_toArray,hdl] at c
   refine c.mono ?_
   rintro e w' ⟨rfl,d',n,os,hp,hs,rfl⟩
   have hd's:d'.size=d.length:=by simpa using hp.1
   have hperm:d'.toList.Perm d:=by
    have:=hp.2.2
    rw [← hdl] at this
    have e1:d'.extract 0 d.length=d':=by rw [← hd's];exact Array.extract_size
    have e2:d.toArray.extract 0 d.length=d.toArray:=by simp
    rw [e1,e2] at this
    exact this
   refine ⟨rfl,_,d'.toList.map (fun x=>x.1.2),?_,?_,z2v (m:=n) (os:=os) RC.enc d' (hd's.trans hdl) hb hg h1 h2 h3,(RC.row d'.toList).stays (fun i hi=>⟨hi,zl9 _ w g 0 n d' os i (hPg i hi).1 (hPg i hi).2⟩) _,zpu _ w g 0 n d' os⟩
   ·rw [← hd]
    exact hperm.map _
   ·rw [List.pairwise_map,List.pairwise_iff_getElem]
    intro i j hi hj hij
    have hj':j < rs.length:=by rw [← hdl,← hd's];simpa using hj
    have:=of_decide_eq_false (hs i j (Nat.zero_le _) hij hj')
    rw [getElem!_pos d' i (by simpa using hi),getElem!_pos d' j (by simpa using hj)] at this
    have e3:=zdv lang (d'[i]'(by simpa using hi)).1.2 (d'[j]'(by simpa using hj)).1.2
    have this2:¬ za5 lang (d'[j]'(by simpa using hj)).1.2 (d'[i]'(by simpa using hi)).1.2 < 0:=this
    simp only [Array.getElem_toList]
    omega
end YteclpnfckjfibaaGreatDoor
end Go.Proofs

/- OTS -/
namespace Go.Proofs.YteclpnfckjfibaaGreatDoor
open Go.RowKit
def z4d (t:TabL) (W:World) (e:Ending) (w':World):Prop:=
 ∃ V R xs B,e=.returned (.agg #[V,R])∧Below W.heap.size W w'∧W.heap.size≤B∧zai zaz w' (fun g=>W.heap.size≤g∧g < B∧g < w'.heap.size) V t.vars∧capK V∧w'.ownsRow B 43 1 R t.rows.length xs∧RowE rowE w' (fun g=>B≤g∧g < w'.heap.size∧R.ownBlock≠some g) xs t.rows∧capK R
set_option maxHeartbeats 3200000 in
set_option maxRecDepth 20000 in
theorem zt0 (t:TabL) (V R:Value) (W:World) (h:tabE.rel W (Old W) [V,R] t):Calls Tryz.prog 65 #[.agg #[V,R]] W (z4d t W):=by
 obtain ⟨V',R',e,hv,hr,hcv,hcr,hlv,hlr⟩:=h
 cases e
 obtain ⟨W1,hW1⟩:∃ W1,W1=(W.alloc (.cells #[V,R] 25)).alloc (.cells #[.slice none 0 0,.slice none 0 0] 25):=⟨_,rfl⟩
 have bw:Below W.heap.size W W1:=by rw [hW1];exact zcr _ _ _
 have u1:W1.heap[W.heap.size]?=some (.cells #[V,R] 25):=by rw [hW1];exact zaq _ (zaf _ _ rfl)
 have u2:W1.heap[W.heap.size+1]?=some (.cells #[.slice none 0 0,.slice none 0 0] 25):=by rw [hW1];exact zaf _ _ (by simp)
 have HV:Hid (∀ W',Below W.heap.size W W'→Calls Tryz.prog 71 #[V] W' (za1 zaz 9 W' t.vars)):=Lib.hid fun W' hb=>zkw t.vars V W' (hv.stays (zae hb)) hlv
 have HR:Hid (∀ W',Below W.heap.size W W'→Calls Tryz.prog 103 #[R,.func (.func 104) #[] #[]] W' (za1 rowE 43 W' t.rows)):=Lib.hid fun W' hb=>zq6 t.rows R W' (hr.stays (zae hb)) hlr
 obtain ⟨pv,kv,rfl⟩:=hv.slice
 obtain ⟨pr,kr,rfl⟩:=hr.slice
 have HW:=Lib.hid hW1
 clear hW1 hv hr hcv hcr
 go_enter Tryz.func65,Tryz.ntmps65
 go_upto_region 1 with fail
 rw [← HW.out]
 refine wp_region_held_drew (S:=fun W'=>W'.heap[W.heap.size]?=some (.cells #[.slice pv t.vars.length kv,.slice pr t.rows.length kr] 25)) (by kernel_rfl) u1 (fun hHeld=>?_)
 clear hHeld
 replace bw:=bw.drew
 replace u1:W1.drew.heap[W.heap.size]?=some (.cells #[.slice pv t.vars.length kv,.slice pr t.rows.length kr] 25):=u1
 replace u2:W1.drew.heap[W.heap.size+1]?=some (.cells #[.slice none 0 0,.slice none 0 0] 25):=u2
 have HS2:Hid (W1.drew.heap.size=W.heap.size+2):=Lib.hid (by rw [HW.out];show ((W.alloc _).alloc _).heap.size=_;simp)
 refine tg (i:=0) (.pointer (some ⟨W.heap.size,0,none⟩)) rfl (u1) ?_
 refine tg (i:=3) (.pointer (some ⟨W.heap.size,1,none⟩)) rfl (u1) ?_
 refine tk (i:=1) (v:=.slice pv t.vars.length kv) rfl (Or.inl ⟨by rfl,fun W' h=>by have c0:=zad h 0 rfl;go_simp⟩) (u1) ?_
 refine tk (i:=4) (v:=.slice pr t.rows.length kr) rfl (Or.inl ⟨by rfl,fun W' h=>by have c0:=zad h 1 rfl;go_simp⟩) (u1) ?_
 refine tr 2 rfl (fun K hK=>?_)
 rw [if_pos (by rfl)]
 go_simp
 refine (HV.out _ bw).mono ?_
 rintro e0 w3 ⟨V1,xs1,rfl,ho1,hr1,hb3⟩
 obtain ⟨p1,k1,rfl⟩:=zat ho1
 replace u1:=(hb3.block _ (zaa u1)).trans u1
 replace u2:=(hb3.block _ (zaa u2)).trans u2
 have HA:=Lib.hid (And.intro (za1.slice ho1 hr1) (And.intro (zb0 ho1) bw))
 have HS3:=Lib.hid hb3.size
 replace bw:=zab bw hb3 bw.size
 clear ho1 hr1 hb3
 refine hK.out _ _ (u1) (fun _=>?_)
 clear hK K
 try simp only [putS]
 refine tr 5 rfl (fun K hK=>?_)
 rw [if_pos (by rfl)]
 go_simp
 refine (HR.out _ bw).mono ?_
 rintro e0 w4 ⟨V2,xs2,rfl,ho2,hr2,hb4⟩
 obtain ⟨p2,k2,rfl⟩:=zat ho2
 replace u1:=(hb4.block _ (zaa u1)).trans u1
 replace u2:=(hb4.block _ (zaa u2)).trans u2
 have HB:=Lib.hid (And.intro (And.intro ho2 hr2) (And.intro (zb0 ho2) (And.intro bw hb4)))
 replace bw:=zab bw hb4 bw.size
 clear ho2 hr2 hb4
 refine hK.out _ _ (u1) (fun _=>?_)
 clear hK K
 try simp only [putS]
 refine tg (i:=6) (.agg #[.slice p1 t.vars.length k1,.slice p2 t.rows.length k2]) rfl (u1) ?_
 refine tr 7 rfl (fun K hK=>?_)
 try rw [if_pos (by rfl)]
 refine zcl (.tmp 2) (.tmp 9) (W.heap.size+1) 25 25 _ [.slice p1 t.vars.length k1,.slice p2 t.rows.length k2] 2 u2 rfl rfl rfl rfl zag rfl (zbv rfl rfl) ?_
 intro w5 ho5 u5
 replace u1:=(ho5.block _ (zaa u1) (by omega)).trans u1
 refine hK.out _ _ (u1) (fun _=>?_)
 clear hK K
 try simp only [putS]
 refine wpAnyH_done (by kernel_rfl) ?_ _
 go_wp2_with fail
 have b5:=zam bw ho5 (Nat.le_succ _) bw.size
 have hz3:=HA.out.2.2.size
 have hz4:=HB.out.2.2.1.size
 have hz5:=HB.out.2.2.2.size
 have hu2:=zaa u2
 refine bodyPost_ret (results_cell_row (p:=2) (ty:=25) Tryz.results65 _ _ (W.heap.size+1) 25 _ (0,0) _ rfl u5 Tryz.underlying25 rfl zag) rfl ⟨_,_,_,_,rfl,b5,?_,HA.out.1.stays (fun g hg=>?_),HA.out.2.1,zbf HB.out.1.1 (fun g q=>?_),HB.out.1.2.stays (fun g hg=>?_) _,HB.out.2.1⟩
 ·omega
 ·have h1:=hg.1
  have h2:=hg.2
  have hne:g≠W.heap.size+1:=by have:=HS2.out;omega
  exact ⟨⟨by omega,h2,by have:=ho5.size;omega⟩,(ho5.block g (by omega) hne).trans (HB.out.2.2.2.block g h2)⟩
 ·have h1:=HB.out.1.1.lt g q
  have hne:g≠W.heap.size+1:=by have:=HS2.out;have:=HS3.out;omega
  exact ho5.block g h1.2 hne
 ·have h1:=hg.1
  have h2:=hg.2.1
  have hne:g≠W.heap.size+1:=by have:=HS2.out;have:=HS3.out;omega
  exact ⟨⟨by omega,by have:=ho5.size;omega,hg.2.2⟩,ho5.block g (by omega) hne⟩
end Go.Proofs.YteclpnfckjfibaaGreatDoor
