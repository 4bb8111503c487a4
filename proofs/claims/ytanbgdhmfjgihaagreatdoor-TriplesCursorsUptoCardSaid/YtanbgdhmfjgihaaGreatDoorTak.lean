/- Texts of one kind, one behind the other: each says ahead of itself what it shows. -/
import Derived.Test.YtanbgdhmfjgihaaGreatDoorTaj
import Derived.Test.YtanbgdhmfjgihaaGreatDoorTaf
import Derived.Test.YtanbgdhmfjgihaaGreatDoorTab
import Derived.Test.YtanbgdhmfjgihaaGreatDoorTah
import Derived.BigGuardPart
import Derived.Deep.DeepCutAuto
namespace Go.Proofs.YtanbgdhmfjgihaaGreatDoor
open Go.RowKit
set_option maxHeartbeats 12800000
set_option maxRecDepth 20000
def zmw (lang:Int):Val→Val→Int
 | .mk k b n t x l,.mk k2 b2 n2 t2 x2 l2=>if k=5 then zbh lang l l2 else zbu k n b t x k2 n2 b2 t2 x2
theorem ze2 (lang:Int) (k:Int) (b:Bool) (n:Int) (t x:ByteArray) (l:List Val) (k2:Int) (b2:Bool) (n2:Int) (t2 x2:ByteArray) (l2:List Val):zmw lang (.mk k b n t x l) (.mk k2 b2 n2 t2 x2 l2)=if k=5 then zbh lang l l2 else zbu k n b t x k2 n2 b2 t2 x2:=rfl
theorem zx3 (k n:Int) (b:Bool) (t x:ByteArray) (k2 n2:Int) (b2:Bool) (t2 x2:ByteArray) (h6:¬ k=6) (h7:¬ k=7) (h1:¬ k=1) (h2:¬ k=2) (h3:¬ k=3):zbu k n b t x k2 n2 b2 t2 x2=lexI (zai t.toList t2.toList) (zai x.toList x2.toList):=by
 unfold zbu
 rw [if_neg (by omega),if_neg h1,if_neg (by omega)]
theorem zwh (lang k:Int) (b:Bool) (n:Int) (t x:ByteArray) (q:List Val) (p:Option Addr) (cap:Nat) (k2:Int) (b2:Bool) (n2:Int) (t2 x2:ByteArray) (q2:List Val) (p2:Option Addr) (cap2:Nat) (w:World) (hr:zau lang k=zau lang k2)
 (hG:Gd w) (hT:Tab w) (hf:Fine n t x q.length) (hf2:Fine n2 t2 x2 q2.length) (hl:Held w (.slice p q.length cap) q) (hl2:Held w (.slice p2 q2.length cap2) q2) (each:∀ u∈q,zob u):
 Calls Tryz.prog 137 #[.int .i64 lang,.agg #[.int .i64 k,.bool b,.int .i64 n,.string t,.string x,.slice p q.length cap],.agg #[.int .i64 k2,.bool b2,.int .i64 n2,.string t2,.string x2,.slice p2 q2.length cap2]] w fun e w'=>e=.returned (.int .i64 (zmw lang (.mk k b n t x q) (.mk k2 b2 n2 t2 x2 q2)))∧Low w.heap.size w w':=by
 obtain ⟨W0,hW0⟩:∃ W0,W0=((w.alloc (.cells #[.int .i64 lang] 3)).alloc (.cells #[.int .i64 k,.bool b,.int .i64 n,.string t,.string x,.slice p q.length cap] 39)).alloc (.cells #[.int .i64 k2,.bool b2,.int .i64 n2,.string t2,.string x2,.slice p2 q2.length cap2] 39):=⟨_,rfl⟩
 have S4:Six W0 (w.heap.size+1) k b n t x p q.length cap:=by rw [hW0];exact (zaf _ (by simp)).alloc _
 have S5:Six W0 (w.heap.size+2) k2 b2 n2 t2 x2 p2 q2.length cap2:=by rw [hW0];exact zaf _ (by simp)
 have b0:Low w.heap.size w W0:=by rw [hW0];exact low3 _ _ _ _
 have c0:W0.cell? ⟨w.heap.size,0,none⟩=some (.int .i64 lang):=by
  rw [hW0]
  have e:(w.alloc (.cells #[.int .i64 lang] 3)).cell? ⟨w.heap.size,0,none⟩=some (.int .i64 lang):=zab (zah _ _ rfl) _ rfl
  exact ((low2 _ _ _).cell (p:=⟨w.heap.size,0,none⟩) (by simp)).trans e
 have hcf:=fun W (h:Low w.heap.size w W) (hc:W.cell? ⟨w.heap.size,0,none⟩=some (.int .i64 lang))=>zud lang w.heap.size q q2 p p2 cap cap2 W (hG.below h.is) (hT.below h.is) hc (Held.below q hl h.is) (Held.below q2 hl2 h.is) hf.hn hf2.hn each
 have hnum:=fun (hk:k=2∨k=3) (hk2:k2=2∨k2=3) W (h:Low w.heap.size w W)=>zuc k b n t x p q.length cap k2 b2 n2 t2 x2 p2 q2.length cap2 W (hG.below h.is) (hT.below h.is) hf hf2 hk hk2
 have H0:=Lib.hid hW0
 clear hf hf2 hG hT hl hl2 each hW0
 rw [ze2]
 have hcat:=(zdz hr).2.2.2
 clear hr
 by_cases h5:k=5
 ·subst h5
  rw [if_pos rfl]
  clear hnum hcat
  generalize zbh lang q q2=r at hcf ⊢
  go_enter Tryz.func137,Tryz.ntmps137
  go_wp2_with (first
   |(rw [← H0.out];(with_reducible refine zaa (.tmp 4) (w.heap.size+1) S4 ?_ ?_ ?_ ?_);rfl;rfl;rfl)
   |((with_reducible refine zaa (.tmp 4) (w.heap.size+1) S4 ?_ ?_ ?_ ?_);rfl;rfl;rfl)
   |((with_reducible refine zaa (.tmp 5) (w.heap.size+2) S5 ?_ ?_ ?_ ?_);rfl;rfl;rfl)
   |(go_at_call 107;(with_reducible refine (zap 5 b n t x _ 155 rfl _).mono ?_);rintro e w' ⟨rfl,hb⟩;replace S4:=S4.below hb.is;replace S5:=S5.below hb.is;replace c0:=(hb.cell (p:=⟨w.heap.size,0,none⟩) (World.block_lt_of_cell? _ _ c0)).trans c0;replace b0:=zad b0 hb b0.size;have f1:=S4.c1;have f2:=S4.c2;have f5:=S4.c5;have g1:=S5.c1;have g2:=S5.c2;have g5:=S5.c5;clear hb)
   |(simp only [zg4,Result.andThen_ok])
   |(go_at_call 165;(with_reducible refine (hcf _ b0 c0).mono ?_);rintro e w' ⟨rfl,hb⟩;replace b0:=zad b0 hb b0.size;clear hb))
  go_ret
  exact ⟨rfl,b0⟩
 rw [if_neg h5]
 clear hcf
 by_cases h6:k=6
 ·subst h6
  clear hnum hcat
  rw [show zbu 6 n b t x k2 n2 b2 t2 x2=cmpZ n n2 from rfl]
  go_enter Tryz.func137,Tryz.ntmps137
  go_wp2_with (first
   |(rw [← H0.out];(with_reducible refine zaa (.tmp 4) (w.heap.size+1) S4 ?_ ?_ ?_ ?_);rfl;rfl;rfl)
   |((with_reducible refine zaa (.tmp 4) (w.heap.size+1) S4 ?_ ?_ ?_ ?_);rfl;rfl;rfl)
   |((with_reducible refine zaa (.tmp 5) (w.heap.size+2) S5 ?_ ?_ ?_ ?_);rfl;rfl;rfl)
   |(go_at_call 107;(with_reducible refine (zap 6 b n t x _ 148 rfl _).mono ?_);rintro e w' ⟨rfl,hb⟩;replace S4:=S4.below hb.is;replace S5:=S5.below hb.is;replace c0:=(hb.cell (p:=⟨w.heap.size,0,none⟩) (World.block_lt_of_cell? _ _ c0)).trans c0;replace b0:=zad b0 hb b0.size;have f1:=S4.c1;have f2:=S4.c2;have f5:=S4.c5;have g1:=S5.c1;have g2:=S5.c2;have g5:=S5.c5;clear hb)
   |(simp only [zfz,zfw,zfx,Result.andThen_ok])
   |(go_at_call 167;(with_reducible refine (zmv n n2 _).mono ?_);rintro e w' ⟨rfl,hb⟩;replace b0:=zad b0 hb b0.size;clear hb))
  go_ret
  exact ⟨rfl,b0⟩
 by_cases h7:k=7
 ·subst h7
  clear hnum hcat
  rw [show zbu 7 n b t x k2 n2 b2 t2 x2=cmpZ n n2 from rfl]
  go_enter Tryz.func137,Tryz.ntmps137
  go_wp2_with (first
   |(rw [← H0.out];(with_reducible refine zaa (.tmp 4) (w.heap.size+1) S4 ?_ ?_ ?_ ?_);rfl;rfl;rfl)
   |((with_reducible refine zaa (.tmp 4) (w.heap.size+1) S4 ?_ ?_ ?_ ?_);rfl;rfl;rfl)
   |((with_reducible refine zaa (.tmp 5) (w.heap.size+2) S5 ?_ ?_ ?_ ?_);rfl;rfl;rfl)
   |(go_at_call 107;(with_reducible refine (zap 7 b n t x _ 149 rfl _).mono ?_);rintro e w' ⟨rfl,hb⟩;replace S4:=S4.below hb.is;replace S5:=S5.below hb.is;replace c0:=(hb.cell (p:=⟨w.heap.size,0,none⟩) (World.block_lt_of_cell? _ _ c0)).trans c0;replace b0:=zad b0 hb b0.size;have f1:=S4.c1;have f2:=S4.c2;have f5:=S4.c5;have g1:=S5.c1;have g2:=S5.c2;have g5:=S5.c5;clear hb)
   |(simp only [zf5,zf2,zf3,Result.andThen_ok])
   |(go_at_call 167;(with_reducible refine (zmv n n2 _).mono ?_);rintro e w' ⟨rfl,hb⟩;replace b0:=zad b0 hb b0.size;clear hb))
  go_ret
  exact ⟨rfl,b0⟩
 by_cases h1:k=1
 ·subst h1
  clear hnum hcat
  rw [show zbu 1 n b t x k2 n2 b2 t2 x2=zk7 b b2 from rfl]
  go_enter Tryz.func137,Tryz.ntmps137
  go_wp2_with (first
   |(rw [← H0.out];(with_reducible refine zaa (.tmp 4) (w.heap.size+1) S4 ?_ ?_ ?_ ?_);rfl;rfl;rfl)
   |((with_reducible refine zaa (.tmp 4) (w.heap.size+1) S4 ?_ ?_ ?_ ?_);rfl;rfl;rfl)
   |((with_reducible refine zaa (.tmp 5) (w.heap.size+2) S5 ?_ ?_ ?_ ?_);rfl;rfl;rfl)
   |(go_at_call 107;(with_reducible refine (zap 1 b n t x _ 146 rfl _).mono ?_);rintro e w' ⟨rfl,hb⟩;replace S4:=S4.below hb.is;replace S5:=S5.below hb.is;replace c0:=(hb.cell (p:=⟨w.heap.size,0,none⟩) (World.block_lt_of_cell? _ _ c0)).trans c0;replace b0:=zad b0 hb b0.size;have f1:=S4.c1;have f2:=S4.c2;have f5:=S4.c5;have g1:=S5.c1;have g2:=S5.c2;have g5:=S5.c5;clear hb)
   |(simp only [zi0,zix,ziy,ziv,Result.andThen_ok])
   |(go_at_call 168;(with_reducible refine (zoa b b2 _).mono ?_);rintro e w' ⟨rfl,rfl⟩))
  go_ret
  exact ⟨rfl,b0⟩
 by_cases h2:k=2
 ·subst h2
  replace hnum:=hnum (.inl rfl) (hcat.1 (.inl rfl))
  clear hcat
  rw [show zbu 2 n b t x k2 n2 b2 t2 x2=lexI (cmpZ (numV 2 n t) (numV k2 n2 t2)) (lexI (cmpZ 2 k2) (if (2:Int)=3 then zai t.toList t2.toList else 0)) from rfl]
  generalize lexI (cmpZ (numV 2 n t) (numV k2 n2 t2)) (lexI (cmpZ 2 k2) (if (2:Int)=3 then zai t.toList t2.toList else 0))=r at hnum ⊢
  go_enter Tryz.func137,Tryz.ntmps137
  go_wp2_with (first
   |(rw [← H0.out];(with_reducible refine zaa (.tmp 4) (w.heap.size+1) S4 ?_ ?_ ?_ ?_);rfl;rfl;rfl)
   |((with_reducible refine zaa (.tmp 4) (w.heap.size+1) S4 ?_ ?_ ?_ ?_);rfl;rfl;rfl)
   |((with_reducible refine zaa (.tmp 5) (w.heap.size+2) S5 ?_ ?_ ?_ ?_);rfl;rfl;rfl)
   |(go_at_call 107;(with_reducible refine (zap 2 b n t x _ 147 rfl _).mono ?_);rintro e w' ⟨rfl,hb⟩;replace S4:=S4.below hb.is;replace S5:=S5.below hb.is;replace c0:=(hb.cell (p:=⟨w.heap.size,0,none⟩) (World.block_lt_of_cell? _ _ c0)).trans c0;replace b0:=zad b0 hb b0.size;have f1:=S4.c1;have f2:=S4.c2;have f5:=S4.c5;have g1:=S5.c1;have g2:=S5.c2;have g5:=S5.c5;clear hb)
   |(simp only [zi6,zi3,zi4,zi1,zi2,zi5,Result.andThen_ok])
   |(go_at_call 169;(with_reducible refine (hnum _ b0).mono ?_);rintro e w' ⟨rfl,hb⟩;replace b0:=zad b0 hb b0.size;clear hb))
  go_ret
  exact ⟨rfl,b0⟩
 by_cases h3:k=3
 ·subst h3
  replace hnum:=hnum (.inr rfl) (hcat.1 (.inr rfl))
  clear hcat
  rw [show zbu 3 n b t x k2 n2 b2 t2 x2=lexI (cmpZ (numV 3 n t) (numV k2 n2 t2)) (lexI (cmpZ 3 k2) (if (3:Int)=3 then zai t.toList t2.toList else 0)) from rfl]
  generalize lexI (cmpZ (numV 3 n t) (numV k2 n2 t2)) (lexI (cmpZ 3 k2) (if (3:Int)=3 then zai t.toList t2.toList else 0))=r at hnum ⊢
  go_enter Tryz.func137,Tryz.ntmps137
  go_wp2_with (first
   |(rw [← H0.out];(with_reducible refine zaa (.tmp 4) (w.heap.size+1) S4 ?_ ?_ ?_ ?_);rfl;rfl;rfl)
   |((with_reducible refine zaa (.tmp 4) (w.heap.size+1) S4 ?_ ?_ ?_ ?_);rfl;rfl;rfl)
   |((with_reducible refine zaa (.tmp 5) (w.heap.size+2) S5 ?_ ?_ ?_ ?_);rfl;rfl;rfl)
   |(go_at_call 107;(with_reducible refine (zap 3 b n t x _ 150 rfl _).mono ?_);rintro e w' ⟨rfl,hb⟩;replace S4:=S4.below hb.is;replace S5:=S5.below hb.is;replace c0:=(hb.cell (p:=⟨w.heap.size,0,none⟩) (World.block_lt_of_cell? _ _ c0)).trans c0;replace b0:=zad b0 hb b0.size;have f1:=S4.c1;have f2:=S4.c2;have f5:=S4.c5;have g1:=S5.c1;have g2:=S5.c2;have g5:=S5.c5;clear hb)
   |(simp only [zgb,zf8,zf9,zf6,zf7,zga,Result.andThen_ok])
   |(go_at_call 169;(with_reducible refine (hnum _ b0).mono ?_);rintro e w' ⟨rfl,hb⟩;replace b0:=zad b0 hb b0.size;clear hb))
  go_ret
  exact ⟨rfl,b0⟩
 rw [zx3 k n b t x k2 n2 b2 t2 x2 h6 h7 h1 h2 h3]
 clear hnum hcat
 by_cases h0:k=0
 ·exact zpt lang k b n t x q p cap k2 b2 n2 t2 x2 q2 p2 cap2 w h0
 by_cases h4:k=4
 ·exact zpu lang k b n t x q p cap k2 b2 n2 t2 x2 q2 p2 cap2 w h4
 by_cases h8:k=8
 ·exact zpv lang k b n t x q p cap k2 b2 n2 t2 x2 q2 p2 cap2 w h8
 by_cases h9:k=9
 ·exact zpw lang k b n t x q p cap k2 b2 n2 t2 x2 q2 p2 cap2 w h9
 by_cases h10:k=10
 ·exact zod lang k b n t x q p cap k2 b2 n2 t2 x2 q2 p2 cap2 w h10
 exact zoe lang k b n t x q p cap k2 b2 n2 t2 x2 q2 p2 cap2 w (by unfold zk6;simp [h0,h1,h2,h3,h4,h5,h6,h7,h8,h9,h10])
theorem zwi (v:Val) (k:Int) (b:Bool) (n:Int) (t x:ByteArray) (q:List Val) (ev:v=.mk k b n t x q) (each:∀ u∈q,zob u):zob v:=by
 subst ev
 intro lang w k1 b1 n1 t1 x1 q1 p cap v2 k2 b2 n2 t2 x2 q2 p2 cap2 e1 e2 hG hT hf hf2 hl hl2
 cases e1
 subst e2
 obtain ⟨W0,hW0⟩:∃ W0,W0=(w.alloc (.cells #[.int .i64 k,.bool b,.int .i64 n,.string t,.string x,.slice p q.length cap] 39)).alloc (.cells #[.int .i64 k2,.bool b2,.int .i64 n2,.string t2,.string x2,.slice p2 q2.length cap2] 39):=⟨_,rfl⟩
 have S4:Six W0 w.heap.size k b n t x p q.length cap:=by rw [hW0];exact (zaf _ rfl).alloc _
 have S5:Six W0 (w.heap.size+1) k2 b2 n2 t2 x2 p2 q2.length cap2:=by rw [hW0];exact zaf _ (by simp)
 have b0:Low w.heap.size w W0:=by rw [hW0];exact low2 _ _ _
 have hwi:=fun (hr:zau lang k=zau lang k2) W (h:Low w.heap.size w W)=>zwh lang k b n t x q p cap k2 b2 n2 t2 x2 q2 p2 cap2 W hr (hG.below h.is) (hT.below h.is) hf hf2 (Held.below q hl h.is) (Held.below q2 hl2 h.is) each
 have hr1:=fun W=>zx2 lang k b n t x p q.length cap W
 have hr2:=fun W=>zx2 lang k2 b2 n2 t2 x2 p2 q2.length cap2 W
 rw [zcm,← ze2]
 generalize zmw lang (.mk k b n t x q) (.mk k2 b2 n2 t2 x2 q2)=r at hwi ⊢
 generalize zau lang k=ra at hwi hr1 ⊢
 generalize zau lang k2=rb at hwi hr2 ⊢
 have H0:=Lib.hid hW0
 clear hW0 hl hl2 hf hf2 hG hT each
 obtain ⟨z,hz⟩:∃ z,z=lexI (cmpZ ra rb) r:=⟨_,rfl⟩
 rw [← hz]
 go_enter Tryz.func102,Tryz.ntmps102
 go_upto_region 2 with fail
 rw [← H0.out]
 refine wp_region_held_drew (S:=fun w'=>Six w' w.heap.size k b n t x p q.length cap∧Six w' (w.heap.size+1) k2 b2 n2 t2 x2 p2 q2.length cap2∧Low w.heap.size w w') (by kernel_rfl) ⟨S4,S5,b0.drew⟩ (fun hHeld=>?_)
 refine tg (i:=0) (.int .i64 lang) rfl hHeld ?_
 refine tk (i:=1) rfl (zhq (by rfl) (.tmp 4) rfl w.heap.size rfl (fun _ h=>h.1)) hHeld ?_
 refine tg (i:=3) (.int .i64 lang) rfl hHeld ?_
 refine tk (i:=4) rfl (zhq (by rfl) (.tmp 5) rfl (w.heap.size+1) rfl (fun _ h=>h.2.1)) hHeld ?_
 obtain ⟨u1,u2,u3⟩:=hHeld
 refine tr 2 rfl (fun K hK=>?_)
 rw [if_pos (by rfl)]
 go_simp
 refine (hr1 _).mono ?_
 rintro e w3 ⟨rfl,hb⟩
 refine hK.out _ _ ⟨u1.below hb.is,u2.below hb.is,zad u3 hb u3.size⟩ (fun hHeld=>?_)
 clear hK K u1 u2 u3 hb
 try simp only [putS]
 obtain ⟨u1,u2,u3⟩:=hHeld
 refine tr 5 rfl (fun K hK=>?_)
 rw [if_pos (by rfl)]
 go_simp
 refine (hr2 _).mono ?_
 rintro e w3 ⟨rfl,hb⟩
 refine hK.out _ _ ⟨u1.below hb.is,u2.below hb.is,zad u3 hb u3.size⟩ (fun hHeld=>?_)
 clear hK K u1 u2 u3 hb
 try simp only [putS]
 refine tg (i:=6) (.int .i64 ra) rfl hHeld ?_
 refine tg (i:=7) (.int .i64 rb) rfl hHeld ?_
 refine wpAnyH_done (by kernel_rfl) ?_ _
 obtain ⟨u1,u2,u3⟩:=hHeld
 have H1:=Lib.hid hz
 clear hz
 by_cases h1:ra < rb
 ·obtain rfl:z=-1:=by rw [H1.out];unfold cmpZ;rw [if_pos h1];rfl
  clear H1 hwi
  go_wp2_with fail
  go_ret
  exact ⟨rfl,u3⟩
 ·by_cases h2:rb < ra
  ·obtain rfl:z=1:=by rw [H1.out];unfold cmpZ;rw [if_neg h1,if_pos h2];rfl
   clear H1 hwi
   go_wp2_with fail
   go_ret
   exact ⟨rfl,u3⟩
  ·obtain rfl:ra=rb:=by omega
   obtain rfl:z=r:=by rw [H1.out,zdq,zbi]
   replace hwi:=hwi rfl
   clear H1
   go_wp2_with (first
    |((with_reducible refine zaa (.tmp 4) w.heap.size u1 ?_ ?_ ?_ ?_);rfl;rfl;rfl)
    |((with_reducible refine zaa (.tmp 5) (w.heap.size+1) u2 ?_ ?_ ?_ ?_);rfl;rfl;rfl)
    |(go_at_call 137;(with_reducible refine (hwi _ u3).mono ?_);rintro e w3 ⟨rfl,hb⟩;replace u3:=zad u3 hb u3.size;clear hb))
   go_ret
   exact ⟨rfl,u3⟩
mutual
theorem zx4:(v:Val)→zob v
 | .mk k b n t x q=>zwi _ k b n t x q rfl (zue q)
theorem zue:(q:List Val)→∀ u∈q,zob u
 | [],_,h=>absurd h (by simp)
 | v::r,u,h=>by
   rcases List.mem_cons.1 h with h | h
   ·rw [h];exact zx4 v
   ·exact zue r u h
end
def zbc (k:Int):Bool:=k == 8 || k == 9
def zbd (k:Int):Bool:=k == 8
def objP (k:Int):Bool:=k == 8 || k == 9 || k == 10 || k == 4 || k == 1 || k == 2 || k == 3
theorem predAt (k:Int) (b:Bool) (n:Int) (t x:ByteArray) (p:Option Addr) (len cap:Nat) (w:World):
 Calls Tryz.prog 46 #[.agg #[.int .i64 k,.bool b,.int .i64 n,.string t,.string x,.slice p len cap]] w fun e w'=>e=.returned (.bool (zbd k))∧Low w.heap.size w w':=by
 have h0:=(zaf (k:=k) (b:=b) (n:=n) (t:=t) (x:=x) (p:=p) (len:=len) (cap:=cap) w rfl).c0
 go_enter Tryz.func46,Tryz.ntmps46
 go_wp2_with fail
 go_ret
 exact ⟨rfl,low1 _ _⟩
theorem subjAt (k:Int) (b:Bool) (n:Int) (t x:ByteArray) (p:Option Addr) (len cap:Nat) (w:World):
 Calls Tryz.prog 45 #[.agg #[.int .i64 k,.bool b,.int .i64 n,.string t,.string x,.slice p len cap]] w fun e w'=>e=.returned (.bool (zbc k))∧Low w.heap.size w w':=by
 have h0:=(zaf (k:=k) (b:=b) (n:=n) (t:=t) (x:=x) (p:=p) (len:=len) (cap:=cap) w rfl).c0
 by_cases e:k=8
 ·subst e
  go_enter Tryz.func45,Tryz.ntmps45
  go_wp2_with fail
  go_ret
  exact ⟨rfl,low1 _ _⟩
 ·have e8:(k == (8:Int))=false:=by simpa using e
  have hv:zbc k=(k == 9):=by unfold zbc;rw [e8];rfl
  rw [hv]
  clear hv e
  go_enter Tryz.func45,Tryz.ntmps45
  go_wp2_with fail
  go_ret
  exact ⟨rfl,low1 _ _⟩
theorem objAt (k:Int) (b:Bool) (n:Int) (t x:ByteArray) (p:Option Addr) (len cap:Nat) (w:World):
 Calls Tryz.prog 47 #[.agg #[.int .i64 k,.bool b,.int .i64 n,.string t,.string x,.slice p len cap]] w fun e w'=>e=.returned (.bool (objP k))∧Low w.heap.size w w':=by
 have h0:=(zaf (k:=k) (b:=b) (n:=n) (t:=t) (x:=x) (p:=p) (len:=len) (cap:=cap) w rfl).c0
 by_cases e8:k=8
 ·subst e8
  go_enter Tryz.func47,Tryz.ntmps47
  go_wp2_with fail
  go_ret
  exact ⟨rfl,low1 _ _⟩
 by_cases e9:k=9
 ·subst e9
  clear e8
  go_enter Tryz.func47,Tryz.ntmps47
  go_wp2_with fail
  go_ret
  exact ⟨rfl,low1 _ _⟩
 by_cases e10:k=10
 ·subst e10
  clear e8
  clear e9
  go_enter Tryz.func47,Tryz.ntmps47
  go_wp2_with fail
  go_ret
  exact ⟨rfl,low1 _ _⟩
 by_cases e4:k=4
 ·subst e4
  clear e8
  clear e9
  clear e10
  go_enter Tryz.func47,Tryz.ntmps47
  go_wp2_with fail
  go_ret
  exact ⟨rfl,low1 _ _⟩
 by_cases e1:k=1
 ·subst e1
  clear e8
  clear e9
  clear e10
  clear e4
  go_enter Tryz.func47,Tryz.ntmps47
  go_wp2_with fail
  go_ret
  exact ⟨rfl,low1 _ _⟩
 by_cases e2:k=2
 ·subst e2
  clear e8
  clear e9
  clear e10
  clear e4
  clear e1
  go_enter Tryz.func47,Tryz.ntmps47
  go_wp2_with fail
  go_ret
  exact ⟨rfl,low1 _ _⟩
 by_cases e3:k=3
 ·subst e3
  clear e8
  clear e9
  clear e10
  clear e4
  clear e1
  clear e2
  go_enter Tryz.func47,Tryz.ntmps47
  go_wp2_with fail
  go_ret
  exact ⟨rfl,low1 _ _⟩
 have g8:(k == (8:Int))=false:=by simpa using e8
 have g9:(k == (9:Int))=false:=by simpa using e9
 have g10:(k == (10:Int))=false:=by simpa using e10
 have g4:(k == (4:Int))=false:=by simpa using e4
 have g1:(k == (1:Int))=false:=by simpa using e1
 have g2:(k == (2:Int))=false:=by simpa using e2
 have g3:(k == (3:Int))=false:=by simpa using e3
 have hv:objP k=false:=by unfold objP;rw [g8,g9,g10,g4,g1,g2,g3];rfl
 rw [hv]
 clear hv e8 e9 e10 e4 e1 e2 e3
 go_enter Tryz.func47,Tryz.ntmps47
 go_wp2_with fail
 go_ret
 exact ⟨rfl,low1 _ _⟩
theorem zmx (v v2:Val) (W:World) (k:Int) (b:Bool) (n:Int) (t x:ByteArray) (q:List Val) (p:Option Addr) (cap:Nat) (k2:Int) (b2:Bool) (n2:Int) (t2 x2:ByteArray) (q2:List Val) (p2:Option Addr) (cap2:Nat)
 (e:v=.mk k b n t x q) (e2:v2=.mk k2 b2 n2 t2 x2 q2) (hG:Gd W) (hT:Tab W) (hf:Fine n t x q.length) (hf2:Fine n2 t2 x2 q2.length) (hl:Held W (.slice p q.length cap) q) (hl2:Held W (.slice p2 q2.length cap2) q2):
 Calls Tryz.prog 74 #[.agg #[.int .i64 k,.bool b,.int .i64 n,.string t,.string x,.slice p q.length cap],.agg #[.int .i64 k2,.bool b2,.int .i64 n2,.string t2,.string x2,.slice p2 q2.length cap2]] W
  fun e w'=>e=.returned (.int .i64 (zan 1 v v2))∧Low W.heap.size W w':=by
 obtain ⟨W0,hW0⟩:∃ W0,W0=(W.alloc (.cells #[.int .i64 k,.bool b,.int .i64 n,.string t,.string x,.slice p q.length cap] 39)).alloc (.cells #[.int .i64 k2,.bool b2,.int .i64 n2,.string t2,.string x2,.slice p2 q2.length cap2] 39):=⟨_,rfl⟩
 have S4:Six W0 W.heap.size k b n t x p q.length cap:=by rw [hW0];exact (zaf _ rfl).alloc _
 have S5:Six W0 (W.heap.size+1) k2 b2 n2 t2 x2 p2 q2.length cap2:=by rw [hW0];exact zaf _ (by simp)
 have b0:Low W.heap.size W W0:=by rw [hW0];exact low2 _ _ _
 have hc:=zx4 v 1 W0 k b n t x q p cap v2 k2 b2 n2 t2 x2 q2 p2 cap2 e e2 (hG.below b0.is) (hT.below b0.is) hf hf2 (Held.below q hl b0.is) (Held.below q2 hl2 b0.is)
 have HW:=Lib.hid hW0
 clear hW0 hl hl2 hf hf2 hG hT e e2
 generalize zan 1 v v2=r at hc ⊢
 go_enter Tryz.func74,Tryz.ntmps74
 go_wp2_with (first
  |(rw [← HW.out];(with_reducible refine zaa (.tmp 2) W.heap.size S4 ?_ ?_ ?_ ?_);rfl;rfl;rfl)
  |((with_reducible refine zaa (.tmp 3) (W.heap.size+1) S5 ?_ ?_ ?_ ?_);rfl;rfl;rfl)
  |(go_at_call 102;(with_reducible refine hc.mono ?_);rintro e w3 ⟨rfl,hb3⟩;replace b0:=zad b0 hb3 b0.size))
 go_ret
 exact ⟨rfl,b0⟩
theorem zx5 (s:ByteArray) (w:World) (hs:s.size≤maxLen):
 Calls Tryz.prog 113 #[.string s] w fun e w'=>e=.returned (.bool (zb1 s))∧w=w':=by
 unfold maxLen at hs
 by_cases h0:s.size=0
 ·have hv:zb1 s=false:=by
   unfold zb1
   rw [decide_eq_false_iff_not]
   omega
  rw [hv]
  go_enter Tryz.func113,Tryz.ntmps113
  go_wp2_with fail
  go_ret
  exact ⟨rfl,rfl⟩
 ·by_cases hbig:(1048576:Int) < s.size
  ·have hv:zb1 s=false:=by
    unfold zb1
    rw [decide_eq_false_iff_not]
    omega
   have h1:¬ (s.size:Int) < 1:=by omega
   rw [hv]
   go_enter Tryz.func113,Tryz.ntmps113
   go_wp2_with fail
   go_ret
   exact ⟨rfl,rfl⟩
  ·have h1:¬ (s.size:Int) < 1:=by omega
   go_enter Tryz.func113,Tryz.ntmps113
   go_wp2_with fail
   go_loop [3] (fun i=>∃ k:Nat,k≤s.size∧i=.int .i64 k∧∀ j (h:j < s.size),j < k→zfn s[j]=true) (fun i=>s.size - (intOf i).toNat)
   case atStart=>exact ⟨0,Nat.zero_le _,rfl,fun j _ h=>absurd h (by omega)⟩
   case round=>
    obtain ⟨k,hk,rfl,hall⟩:=hrel
    have HA:=Lib.hid hall
    clear hall
    by_cases hlt:k < s.size
    ·by_cases h1:(s[k].toNat:Int)≤32
     ·go_wp2_with fail
      go_ret
      exact ⟨by rw [zhl hlt (by simp [zfn];omega)];rfl,rfl⟩
     ·by_cases h2:(s[k].toNat:Int)=60
      ·go_wp2_with fail
       go_ret
       exact ⟨by rw [zhl hlt (by simp [zfn];omega)];rfl,rfl⟩
      ·by_cases h3:(s[k].toNat:Int)=62
       ·go_wp2_with fail
        go_ret
        exact ⟨by rw [zhl hlt (by simp [zfn];omega)];rfl,rfl⟩
       ·go_wp2_with fail
        go_round
        case rel=>exact ⟨k+1,by omega,by go_num,zed (p:=fun _=>zfn) hlt HA.out (by simp [zfn];omega)⟩
        case measure=>simp [intOf];omega
    ·go_wp2_with fail
     go_ret
     have hv:zb1 s=true:=by
      unfold zb1
      rw [decide_eq_true_eq]
      exact ⟨by omega,by omega,fun j hj=>HA.out j hj (by omega)⟩
     exact ⟨by rw [hv];rfl,rfl⟩
theorem refName (s:ByteArray) (w:World) (hs:s.size≤maxLen):
 Calls Tryz.prog 114 #[.string s] w fun e w'=>e=.returned (.bool (zcu s))∧w=w':=by
 unfold maxLen at hs
 by_cases h0:s.size=0
 ·have hv:zcu s=false:=by
   unfold zcu
   rw [decide_eq_false_iff_not]
   omega
  rw [hv]
  go_enter Tryz.func114,Tryz.ntmps114
  go_wp2_with fail
  go_ret
  exact ⟨rfl,rfl⟩
 have hpos:0 < s.size:=by omega
 have hlow:¬ (s.size:Int) < 1:=by omega
 by_cases hbig:(64:Int) < s.size
 ·have hv:zcu s=false:=by
   unfold zcu
   rw [decide_eq_false_iff_not]
   omega
  rw [hv]
  go_enter Tryz.func114,Tryz.ntmps114
  go_wp2_with fail
  go_ret
  exact ⟨rfl,rfl⟩
 by_cases hd:(48:Int)≤s[0].toNat∧(s[0].toNat:Int)≤57
 ·have hv:zcu s=false:=zfd hpos (by simp [zc7,zcj];omega)
  rw [hv]
  obtain ⟨d1,d2⟩:=hd
  go_enter Tryz.func114,Tryz.ntmps114
  go_wp2_with fail
  go_ret
  exact ⟨rfl,rfl⟩
 have HD:=Lib.hid hd
 have hdd:¬ (48:Int)≤s[0].toNat∨¬ (s[0].toNat:Int)≤57:=by omega
 clear hd
 rcases hdd with hdd | hdd
 all_goals
  go_enter Tryz.func114,Tryz.ntmps114
  go_wp2_with fail
  all_goals
   go_loop [3] (fun i=>∃ k:Nat,k≤s.size∧i=.int .i64 k∧∀ j (h:j < s.size),j < k→zc7 j s[j]=true) (fun i=>s.size - (intOf i).toNat)
   case atStart=>exact ⟨0,Nat.zero_le _,rfl,fun j _ h=>absurd h (by omega)⟩
   case round=>
    clear hdd
    obtain ⟨k,hk,rfl,hall⟩:=hrel
    have HA:=Lib.hid hall
    clear hall
    by_cases hlt:k < s.size
    ·by_cases a1:(97:Int)≤s[k].toNat
     ·by_cases a2:(s[k].toNat:Int)≤122
      ·go_wp2_with fail
       go_round
       case rel=>exact ⟨k+1,by omega,by go_num,zed (p:=zc7) hlt HA.out (by simp [zc7,zcj];omega)⟩
       case measure=>simp [intOf];omega
      ·have a3:(65:Int)≤s[k].toNat:=by omega
       have a4:¬ (s[k].toNat:Int)≤90:=by omega
       have a5:(48:Int)≤s[k].toNat:=by omega
       have a6:¬ (s[k].toNat:Int)≤57:=by omega
       have a7:¬ (s[k].toNat:Int)=95:=by omega
       have e7:((s[k].toNat:Int) == 95)=false:=by simpa using a7
       go_wp2_with fail
       go_ret
       exact ⟨by rw [zfd hlt (by simp [zc7,zcj,zec];omega)];rfl,rfl⟩
     ·by_cases a3:(65:Int)≤s[k].toNat
      ·by_cases a4:(s[k].toNat:Int)≤90
       ·go_wp2_with fail
        go_round
        case rel=>exact ⟨k+1,by omega,by go_num,zed (p:=zc7) hlt HA.out (by simp [zc7,zcj];omega)⟩
        case measure=>simp [intOf];omega
       ·have a5:(48:Int)≤s[k].toNat:=by omega
        have a6:¬ (s[k].toNat:Int)≤57:=by omega
        by_cases a7:(s[k].toNat:Int)=95
        ·have e7:((s[k].toNat:Int) == 95)=true:=by simpa using a7
         go_wp2_with fail
         go_round
         case rel=>exact ⟨k+1,by omega,by go_num,zed (p:=zc7) hlt HA.out (by simp [zc7,zcj];omega)⟩
         case measure=>simp [intOf];omega
        ·have e7:((s[k].toNat:Int) == 95)=false:=by simpa using a7
         go_wp2_with fail
         go_ret
         exact ⟨by rw [zfd hlt (by simp [zc7,zcj,zec];omega)];rfl,rfl⟩
      ·by_cases a5:(48:Int)≤s[k].toNat
       ·by_cases a6:(s[k].toNat:Int)≤57
        ·have hk0:k≠0:=by
          rintro rfl
          exact HD.out ⟨a5,a6⟩
         go_wp2_with fail
         go_round
         case rel=>exact ⟨k+1,by omega,by go_num,zed (p:=zc7) hlt HA.out (by simp [zc7,zec,hk0];omega)⟩
         case measure=>simp [intOf];omega
        ·have a7:¬ (s[k].toNat:Int)=95:=by omega
         have e7:((s[k].toNat:Int) == 95)=false:=by simpa using a7
         go_wp2_with fail
         go_ret
         exact ⟨by rw [zfd hlt (by simp [zc7,zcj,zec];omega)];rfl,rfl⟩
       ·have a7:¬ (s[k].toNat:Int)=95:=by omega
        have e7:((s[k].toNat:Int) == 95)=false:=by simpa using a7
        go_wp2_with fail
        go_ret
        exact ⟨by rw [zfd hlt (by simp [zc7,zcj,zec];omega)];rfl,rfl⟩
    ·go_wp2_with fail
     go_ret
     have hv:zcu s=true:=by
      unfold zcu
      rw [decide_eq_true_eq]
      exact ⟨hpos,by omega,fun j hj=>HA.out j hj (by omega)⟩
     exact ⟨by rw [hv];rfl,rfl⟩
def Strs (w:World) (b off n:Nat) (S:Nat→ByteArray):Prop:=∀ i,i < n→w.cell? ⟨b,off+i,none⟩=some (.string (S i))
theorem Strs.below {w w':World} {b off n:Nat} {S:Nat→ByteArray} (h:Strs w b off n S) (k:Below w.heap.size w w'):Strs w' b off n S:=fun i hi=>
 (k.cell (p:=⟨b,off+i,none⟩) (World.block_lt_of_cell? w _ (h i hi))).trans (h i hi)
structure Inv (w:World) (b off n cap:Nat) (S:Nat→ByteArray) (wr:World):Prop where
 cell:wr.cell? ⟨w.heap.size,0,none⟩=some (.slice (some ⟨b,off,none⟩) n cap)
 lt:w.heap.size < wr.heap.size
 bel:Low w.heap.size w wr
 g:Gd wr
 t:Tab wr
 s:Strs wr b off n S
def vT:Nat→(Nat→Nat)→Nat
 | 0,_=>0
 | n+1,f=>vT n f+f n*10 ^ n
theorem zwj (f:Nat→Nat) (h:∀ j,f j≤9):∀ n,vT n f < 10 ^ n
 | 0=>by simp [vT]
 | n+1=>by
   have:=zwj f h n
   have h2:f n*10 ^ n≤9*10 ^ n:=Nat.mul_le_mul_right _ (h n)
   show vT n f+f n*10 ^ n < 10 ^ (n+1)
   rw [Nat.pow_succ];omega
theorem vT_eq (f g:Nat→Nat):∀ n,(∀ j,j < n→f j=g j)→vT n f=vT n g
 | 0,_=>rfl
 | n+1,h=>by
   show vT n f+f n*10 ^ n=vT n g+g n*10 ^ n
   rw [vT_eq f g n (fun j hj=>h j (by omega)),h n (by omega)]
theorem zx6 (f g:Nat→Nat) (hf:∀ j,f j≤9) (k:Nat) (hk:f k < g k):∀ n,k < n→(∀ j,k < j→j < n→f j=g j)→vT n f < vT n g
 | n+1,h,e=>by
   show vT n f+f n*10 ^ n < vT n g+g n*10 ^ n
   by_cases hn:k=n
   ·subst hn
    have h1:=zwj f hf k
    have h2:(f k+1)*10 ^ k≤g k*10 ^ k:=Nat.mul_le_mul_right _ hk
    rw [Nat.add_mul,Nat.one_mul] at h2
    omega
   ·have:=zx6 f g hf k hk n (by omega) (fun j a b=>e j a (by omega))
    rw [e n (by omega) (by omega)]
    omega
theorem zx7 (f:Nat→Nat) (n:Nat) (h:∀ j,n≤j→f j=0):∀ m,n≤m→vT m f=vT n f
 | 0,hm=>by rw [Nat.le_zero.1 hm]
 | m+1,hm=>by
   by_cases e:n=m+1
   ·rw [e]
   ·show vT m f+f m*10 ^ m=_
    rw [zx7 f n h m (by omega),h m (by omega)];simp
def dig (ds:List Nat) (j:Nat):Nat:=ds.getD j 0
theorem zdi {ds:List Nat} {j:Nat} (h:ds.length≤j):dig ds j=0:=by simp [dig,List.getD,h]
def zav (ds:List Nat):Nat:=vT ds.length (dig ds)
def zbp (ds:List Nat):Prop:=∀ j,dig ds j≤9
theorem zcn (ds:List Nat) {m:Nat} (h:ds.length≤m):vT m (dig ds)=zav ds:=zx7 _ _ (fun _ hj=>zdi hj) m h
def Ints (w:World) (v:Value) (ds:List Nat):Prop:=
 (v=.slice none 0 0∧ds=[])∨∃ b off cap,v=.slice (some ⟨b,off,none⟩) ds.length cap∧(∀ i,i < ds.length→w.cell? ⟨b,off+i,none⟩=some (.int .i64 (dig ds i)))∧∃ cs,w.heap[b]?=some (.cells cs 3 (0,0))
theorem Ints.below {w w':World} {v:Value} {ds:List Nat} (h:Ints w v ds) (k:Below w.heap.size w w'):Ints w' v ds:=by
 rcases h with h | ⟨b,off,cap,e,hc,cs,hk⟩
 ·exact .inl h
 ·exact .inr ⟨b,off,cap,e,fun i hi=>(k.cell (p:=⟨b,off+i,none⟩) (World.block_lt_of_cell? w _ (hc i hi))).trans (hc i hi),cs,(k.block b (zac hk)).trans hk⟩
theorem Ints.only {w w':World} {v:Value} {ds:List Nat} {g:Nat} {cs:Array Value} {t:TypeId} (h:Ints w v ds) (k:Only g w w') (hg:w.heap[g]?=some (.cells cs t (0,0))) (ht:t≠3):Ints w' v ds:=by
 rcases h with h | ⟨b,off,cap,e,hc,cs2,hk⟩
 ·exact .inl h
 ·have hne:b≠g:=fun x=>by
   rw [x,hg] at hk
   injection hk with hk
   injection hk with _ h2 _
   exact ht h2
  have hb:=(k.block b (zac hk) hne)
  exact .inr ⟨b,off,cap,e,fun i hi=>(World.cell?_of_block (w:=w) (a:=⟨b,off+i,none⟩) hb).trans (hc i hi),cs2,hb.trans hk⟩
theorem zl4 (c:Nat) (w:World) (hc:c < 256):Calls Tryz.prog 157 #[.int .u8 c] w fun e w'=>e=.returned (.bool (decide (48≤c∧c≤57)))∧w=w':=by
 by_cases h1:(48:Int)≤c
 ·by_cases h2:(c:Int)≤57
  ·have:decide (48≤c∧c≤57)=true:=by simp;omega
   rw [this]
   go_enter Tryz.func157,Tryz.ntmps157
   go_wp2
   go_ret
   exact ⟨rfl,rfl⟩
  ·have:decide (48≤c∧c≤57)=false:=by simp;omega
   rw [this]
   go_enter Tryz.func157,Tryz.ntmps157
   go_wp2
   go_ret
   exact ⟨by simp,rfl⟩
 ·have:decide (48≤c∧c≤57)=false:=by simp;omega
  rw [this]
  go_enter Tryz.func157,Tryz.ntmps157
  go_wp2
  go_ret
  exact ⟨by simp,rfl⟩
def dgI (ds:List Nat) (i:Int):Nat:=if i < 0 then 0 else dig ds i.toNat
theorem refAt (v:Value) (ds:List Nat) (i:Int) (w:World) (h:Ints w v ds):Calls Tryz.prog 158 #[v,.int .i64 i] w fun e w'=>e=.returned (.int .i64 (dgI ds i))∧w=w':=by
 unfold dgI
 by_cases h0:i < 0
 ·rw [if_pos h0]
  rcases h with ⟨rfl,rfl⟩ | ⟨b,off,cap,rfl,hc,hty⟩
  ·go_enter Tryz.func158,Tryz.ntmps158
   go_wp2
   go_ret
   exact ⟨rfl,rfl⟩
  ·clear hc
   go_enter Tryz.func158,Tryz.ntmps158
   go_wp2
   go_ret
   exact ⟨rfl,rfl⟩
 ·rw [if_neg h0]
  obtain ⟨k,rfl⟩:=Int.eq_ofNat_of_zero_le (Int.not_lt.1 h0)
  rw [show ((k:Int)).toNat=k by omega]
  rcases h with ⟨rfl,rfl⟩ | ⟨b,off,cap,rfl,hc,hty⟩
  ·rw [zdi (by simp)]
   have hk:(k:Int) ≥ 0:=by omega
   go_enter Tryz.func158,Tryz.ntmps158
   go_wp2
   go_ret
   exact ⟨rfl,rfl⟩
  ·by_cases hl:(ds.length:Int)≤k
   ·rw [zdi (by omega)]
    clear hc
    generalize ds.length=n at*
    go_enter Tryz.func158,Tryz.ntmps158
    go_wp2
    go_ret
    exact ⟨rfl,rfl⟩
   ·have c1:=hc k (by omega)
    clear hc
    generalize dig ds k=x at*
    generalize ds.length=n at*
    go_enter Tryz.func158,Tryz.ntmps158
    go_wp2
    go_ret
    exact ⟨rfl,rfl⟩
theorem zsr (ds:List Nat):zav ds=0↔∀ j,j < ds.length→dig ds j=0:=by
 unfold zav
 generalize dig ds=f
 generalize ds.length=n
 induction n with
 | zero=>simp [vT]
 | succ n ih=>
   show vT n f+f n*10 ^ n=0↔_
   have hp:0 < 10 ^ n:=Nat.pow_pos (show 0 < 10 by decide)
   constructor
   ·intro h j hj
    have h1:vT n f=0:=by omega
    have h2:f n*10 ^ n=0:=by omega
    rcases Nat.lt_or_ge j n with h3 | h3
    ·exact ih.1 h1 j h3
    ·obtain rfl:j=n:=by omega
     rcases Nat.mul_eq_zero.1 h2 with h4 | h4
     ·exact h4
     ·omega
   ·intro h
    rw [ih.2 (fun j hj=>h j (by omega)),h n (by omega)];simp
theorem zkp (v:Value) (ds:List Nat) (w:World) (h:Ints w v ds) (hn:ds.length≤9223372036854775807) (d:Bool) (hd:d=decide (zav ds=0)):Calls Tryz.prog 97 #[v] w fun e w'=>e=.returned (.bool d)∧w=w':=by
 rcases h with ⟨rfl,rfl⟩ | ⟨b,off,cap,rfl,hc,hty⟩
 ·obtain rfl:d=true:=by rw [hd];rfl
  clear hd
  go_enter Tryz.func97,Tryz.ntmps97
  go_wp2_with fail
  go_loopg [3] 0 (fun gg s3 wr=>gg=0∧s3=.int .i64 0∧wr=w)
  case atStart=>exact ⟨rfl,rfl,rfl⟩
  case round=>
   obtain ⟨_,rfl,rfl⟩:=hrel
   go_wp2
   go_ret
   exact ⟨rfl,rfl⟩
 ·have hz:=zsr ds
  have HZ:=Lib.hid hz
  have HD:=Lib.hid hd
  clear hz hd
  go_enter Tryz.func97,Tryz.ntmps97
  go_wp2_with fail
  go_loopg [3] ds.length (fun gg s3 wr=>∃ i:Nat,i+gg=ds.length∧s3=.int .i64 i∧wr=w∧Aside (∀ j,j < i→dig ds j=0))
  case atStart=>exact ⟨0,by omega,rfl,rfl,fun j hj=>absurd hj (Nat.not_lt_zero j)⟩
  case round=>
   obtain ⟨i,hi,rfl,rfl,hall⟩:=hrel
   have HA:=Lib.hid hall.out
   clear hall
   by_cases hlt:(i:Int) < ds.length
   ·have c1:=hc i (by omega)
    by_cases hx:dig ds i=0
    ·rw [hx] at c1
     have hall2:∀ j,j < i+1→dig ds j=0:=fun j hj=>by
      rcases Nat.lt_or_ge j i with h3 | h3
      ·exact HA.out j h3
      ·rw [show j=i by omega];exact hx
     have HA2:=Lib.hid hall2
     clear hall2 HA hc hx
     generalize ds.length=n at*
     go_wp2_with fail
     go_roundg (gk - 1)
     case measure=>omega
     case rel=>exact ⟨i+1,by omega,by go_num,rfl,HA2.out⟩
    ·obtain rfl:d=false:=by
      rw [HD.out]
      have:=mt HZ.out.1 (fun h=>hx (h i (by omega)))
      simp [this]
     have hx1:¬ (dig ds i:Int)=0:=by omega
     clear hc HA hx HD HZ
     generalize dig ds i=x at*
     generalize ds.length=n at*
     go_wp2_with fail
     go_ret
     exact ⟨rfl,rfl⟩
   ·obtain rfl:d=true:=by
     rw [HD.out]
     have:=HZ.out.2 (fun j hj=>HA.out j (by omega))
     simp [this]
    clear hc HA HD HZ
    generalize ds.length=n at*
    go_wp2_with fail
    go_ret
    exact ⟨rfl,rfl⟩
def zuf (xs ys:List Nat) (i:Int):Prop:=∀ j:Nat,i < j→dig xs j=dig ys j
theorem dgI_nat (ds:List Nat) (k:Nat):dgI ds k=dig ds k:=by unfold dgI;rw [if_neg (by omega)];congr 1
theorem zwk {xs ys:List Nat} {i:Int} (h:zuf xs ys i) (hi:i < 0):cmpZ (zav xs) (zav ys)=0:=by
 rw [zn4]
 have e:vT (xs.length+ys.length) (dig xs)=vT (xs.length+ys.length) (dig ys):=vT_eq _ _ _ (fun j _=>h j (by omega))
 rw [zcn xs (by omega),zcn ys (by omega)] at e
 rw [e]
theorem zq6 {xs ys:List Nat} {k:Nat} (hx:zbp xs) (h:zuf xs ys k) (hk:dig xs k < dig ys k):cmpZ (zav xs) (zav ys)=-1:=by
 have e:=zx6 (dig xs) (dig ys) hx k hk (xs.length+ys.length+k+1) (by omega) (fun j a _=>h j (by omega))
 rw [zcn xs (by omega),zcn ys (by omega)] at e
 unfold cmpZ;rw [if_pos (by omega)]
theorem zwl {xs ys:List Nat} {k:Nat} (hy:zbp ys) (h:zuf xs ys k) (hk:dig ys k < dig xs k):cmpZ (zav xs) (zav ys)=1:=by
 have:=zq6 (xs:=ys) (ys:=xs) hy (fun j a=>(h j a).symm) hk
 rw [zcb] at this
 omega
theorem zcz (v:Value) (ds:List Nat) (k:Nat) (x:Nat) (w:World) (h:Ints w v ds) (hx:Hid (x=dig ds k)):Calls Tryz.prog 158 #[v,.int .i64 k] w fun e w'=>e=.returned (.int .i64 x)∧w=w':=
 (refAt v ds k w h).mono fun _ _ ⟨h1,h2⟩=>⟨by rw [h1,dgI_nat,hx.out],h2⟩
theorem Ints.form {w:World} {v:Value} {ds:List Nat} (h:Ints w v ds):∃ p cap,v=.slice p ds.length cap:=by
 rcases h with ⟨rfl,rfl⟩ | ⟨b,off,cap,rfl,_,_⟩
 ·exact ⟨_,_,rfl⟩
 ·exact ⟨_,_,rfl⟩
theorem zl5 (u v:Value) (xs ys:List Nat) (w:World) (hu:Ints w u xs) (hv:Ints w v ys) (hx:zbp xs) (hy:zbp ys) (lx:xs.length≤4611686018427387903) (ly:ys.length≤4611686018427387903) (r:Int) (hr:r=cmpZ (zav xs) (zav ys)):
 Calls Tryz.prog 123 #[u,v] w fun e w'=>e=.returned (.int .i64 r)∧w=w':=by
 obtain ⟨p,cap,eu⟩:=hu.form
 obtain ⟨p2,cap2,ev⟩:=hv.form
 have HU:=Lib.hid hu
 have HV:=Lib.hid hv
 have HR:=Lib.hid hr
 have HX:=Lib.hid hx
 have HY:=Lib.hid hy
 clear hu hv hr hx hy
 obtain ⟨n,hn⟩:∃ n,n=xs.length:=⟨_,rfl⟩
 obtain ⟨m,hm⟩:∃ m,m=ys.length:=⟨_,rfl⟩
 rw [← hn] at eu lx
 rw [← hm] at ev ly
 subst eu
 subst ev
 have HN:=Lib.hid (And.intro hn hm)
 clear hn hm
 go_enter Tryz.func123,Tryz.ntmps123
 go_wp2_with fail
 go_loopg [5] (n+m+1) (fun gg s5 wr=>∃ i:Int,i+1=gg∧i≤n+m∧s5=.int .i64 i∧wr=w∧Aside (zuf xs ys i))
 case atStart=>exact ⟨(n:Int)+m,by omega,by omega,by go_num,rfl,fun j hj=>by rw [zdi (by have:=HN.out;omega),zdi (by have:=HN.out;omega)]⟩
 case round=>
  obtain ⟨i,hi,hb,rfl,rfl,hall⟩:=hrel
  have HA:=Lib.hid hall.out
  clear hall
  by_cases h0:i ≥ 0
  ·obtain ⟨k,rfl⟩:=Int.eq_ofNat_of_zero_le h0
   obtain ⟨x,hx⟩:∃ x,x=dig xs k:=⟨_,rfl⟩
   obtain ⟨y,hy⟩:∃ y,y=dig ys k:=⟨_,rfl⟩
   have K1:=Lib.hid hx
   have K2:=Lib.hid hy
   rcases Nat.lt_trichotomy x y with h | h | h
   ·obtain rfl:r=-1:=by rw [HR.out,zq6 HX.out HA.out (by rw [← hx,← hy];exact h)]
    have h1:((x:Int) == (y:Int))=false:=by simp;omega
    have h2:(x:Int) < y:=by omega
    clear hx hy h HA HR
    go_wp2_with (first
     |(go_at_call 158;(with_reducible refine (zcz _ xs k x _ HU.out K1).mono ?_);rintro e w' ⟨rfl,rfl⟩)
     |(go_at_call 158;(with_reducible refine (zcz _ ys k y _ HV.out K2).mono ?_);rintro e w' ⟨rfl,rfl⟩))
    go_ret
    exact ⟨rfl,rfl⟩
   ·have hall2:zuf xs ys ((k:Int) - 1):=fun j hj=>by
     by_cases e:j=k
     ·rw [e,← hx,← hy,h]
     ·exact HA.out j (by omega)
    have HA2:=Lib.hid hall2
    subst h
    clear hx hy hall2 HA
    go_wp2_with (first
     |(go_at_call 158;(with_reducible refine (zcz _ xs k x _ HU.out K1).mono ?_);rintro e w' ⟨rfl,rfl⟩)
     |(go_at_call 158;(with_reducible refine (zcz _ ys k x _ HV.out K2).mono ?_);rintro e w' ⟨rfl,rfl⟩))
    go_roundg (gk - 1)
    case measure=>omega
    case rel=>exact ⟨(k:Int) - 1,by omega,by omega,by go_num,rfl,HA2.out⟩
   ·obtain rfl:r=1:=by rw [HR.out,zwl HY.out HA.out (by rw [← hx,← hy];exact h)]
    have h1:((x:Int) == (y:Int))=false:=by simp;omega
    have h2:¬ (x:Int) < y:=by omega
    clear hx hy h HA HR
    go_wp2_with (first
     |(go_at_call 158;(with_reducible refine (zcz _ xs k x _ HU.out K1).mono ?_);rintro e w' ⟨rfl,rfl⟩)
     |(go_at_call 158;(with_reducible refine (zcz _ ys k y _ HV.out K2).mono ?_);rintro e w' ⟨rfl,rfl⟩))
    go_ret
    exact ⟨rfl,rfl⟩
  ·obtain rfl:r=0:=by rw [HR.out,zwk HA.out (by omega)]
   clear HA HR
   go_wp2_with fail
   go_ret
   exact ⟨rfl,rfl⟩
end Go.Proofs.YtanbgdhmfjgihaaGreatDoor
