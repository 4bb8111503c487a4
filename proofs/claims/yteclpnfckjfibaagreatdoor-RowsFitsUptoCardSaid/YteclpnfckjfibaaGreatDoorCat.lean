/- Texts of one kind, one behind the other: each says ahead of itself what it shows. -/
import Derived.Test.YteclpnfckjfibaaGreatDoorCar
import Derived.Test.YteclpnfckjfibaaGreatDoorCas
import Derived.Laws.Cover1
import Derived.Test.YteclpnfckjfibaaGreatDoorCaf
import Derived.Test.YteclpnfckjfibaaGreatDoorCaq
namespace Go.Proofs.YteclpnfckjfibaaGreatDoor
open Go.RowKit
set_option maxHeartbeats 12800000
set_option maxRecDepth 20000
theorem zsl (lang k:Int) (b:Bool) (n:Int) (t x:ByteArray) (q:List Val) (p:Option Addr) (cap:Nat) (k2:Int) (b2:Bool) (n2:Int) (t2 x2:ByteArray) (q2:List Val) (p2:Option Addr) (cap2:Nat) (w:World) (hk0:zlm k=200):
 Calls Tryz.prog 206 #[.int .i64 lang,.agg #[.int .i64 k,.bool b,.int .i64 n,.string t,.string x,.slice p q.length cap],.agg #[.int .i64 k2,.bool b2,.int .i64 n2,.string t2,.string x2,.slice p2 q2.length cap2]] w fun e w'=>e=.returned (.int .i64 (lexI (zak t.toList t2.toList) (zak x.toList x2.toList)))∧Low w.heap.size w w':=by
 obtain ⟨W0,hW0⟩:∃ W0,W0=((w.alloc (.cells #[.int .i64 lang] 3)).alloc (.cells #[.int .i64 k,.bool b,.int .i64 n,.string t,.string x,.slice p q.length cap] 48)).alloc (.cells #[.int .i64 k2,.bool b2,.int .i64 n2,.string t2,.string x2,.slice p2 q2.length cap2] 48):=⟨_,rfl⟩
 have S4:Six W0 (w.heap.size+1) k b n t x p q.length cap:=by rw [hW0];exact (zaj _ (by simp)).alloc _
 have S5:Six W0 (w.heap.size+2) k2 b2 n2 t2 x2 p2 q2.length cap2:=by rw [hW0];exact zaj _ (by simp)
 have b0:Low w.heap.size w W0:=by rw [hW0];exact low3 _ _ _ _
 have c0:W0.cell? ⟨w.heap.size,0,none⟩=some (.int .i64 lang):=by
  rw [hW0]
  have e:(w.alloc (.cells #[.int .i64 lang] 3)).cell? ⟨w.heap.size,0,none⟩=some (.int .i64 lang):=zad (zaf _ _ rfl) _ rfl
  exact ((low2 _ _ _).cell (p:=⟨w.heap.size,0,none⟩) (by simp)).trans e
 have H0:=Lib.hid hW0
 clear hW0
 have hk:=hk0
 go_enter Tryz.func206,Tryz.ntmps206
 go_wp2_with (first
  |(rw [← H0.out];(with_reducible refine zac (.tmp 4) (w.heap.size+1) S4 ?_ ?_ ?_ ?_);rfl;rfl;rfl)
  |((with_reducible refine zac (.tmp 4) (w.heap.size+1) S4 ?_ ?_ ?_ ?_);rfl;rfl;rfl)
  |((with_reducible refine zac (.tmp 5) (w.heap.size+2) S5 ?_ ?_ ?_ ?_);rfl;rfl;rfl)
  |(go_at_call 156;(with_reducible refine (zat k b n t x _ 200 hk.symm _).mono ?_);rintro e w' ⟨rfl,hb⟩;replace S4:=S4.below hb.is;replace S5:=S5.below hb.is;replace c0:=(hb.cell (p:=⟨w.heap.size,0,none⟩) (World.block_lt_of_cell? _ _ c0)).trans c0;replace b0:=zal b0 hb b0.size;have f1:=S4.c1;have f2:=S4.c2;have f5:=S4.c5;have g1:=S5.c1;have g2:=S5.c2;have g5:=S5.c5;clear hb)
  |(simp only [zkt,zkq,zkr,zko,zkp,zks,Result.andThen_ok]))
 obtain ⟨N,hN⟩:∃ N,N=w'.heap.size:=⟨_,rfl⟩
 refine wp_region_held_drew (S:=fun w'=>Six w' (w.heap.size+1) k b n t x p q.length cap∧Six w' (w.heap.size+2) k2 b2 n2 t2 x2 p2 q2.length cap2∧Low w.heap.size w w'∧Hid (N < w'.heap.size→w'.cell? ⟨N,0,none⟩=some (.int .i64 (zak t.toList t2.toList))∧w'.cell? ⟨N,1,none⟩=some (.int .i64 (zak x.toList x2.toList)))) (by kernel_rfl) ⟨S4,S5,b0.drew,Lib.hid fun h=>absurd h (by rw [hN];exact Nat.lt_irrefl _)⟩ (fun hHeld=>?_)
 refine tg (i:=0) (.pointer (some ⟨w.heap.size+1,3,none⟩)) rfl hHeld ?_
 refine tk (i:=1) (v:=.string t) rfl (Or.inl ⟨by rfl,fun W h=>by have c0:=h.1.c3;go_simp⟩) hHeld ?_
 refine tg (i:=2) (.pointer (some ⟨w.heap.size+2,3,none⟩)) rfl hHeld ?_
 refine tk (i:=3) (v:=.string t2) rfl (Or.inl ⟨by rfl,fun W h=>by have c0:=h.2.1.c3;go_simp⟩) hHeld ?_
 refine tg (i:=5) (.pointer (some ⟨w.heap.size+1,4,none⟩)) rfl hHeld ?_
 refine tk (i:=6) (v:=.string x) rfl (Or.inl ⟨by rfl,fun W h=>by have c0:=h.1.c4;go_simp⟩) hHeld ?_
 refine tg (i:=7) (.pointer (some ⟨w.heap.size+2,4,none⟩)) rfl hHeld ?_
 refine tk (i:=8) (v:=.string x2) rfl (Or.inl ⟨by rfl,fun W h=>by have c0:=h.2.1.c4;go_simp⟩) hHeld ?_
 obtain ⟨u1,u2,u3,u4⟩:=hHeld
 refine tr 4 rfl (fun K hK=>?_)
 rw [if_pos (by rfl)]
 go_simp
 refine (zc2 t t2 _).mono ?_
 rintro e w3 ⟨rfl,rfl⟩
 refine hK.out _ _ ⟨u1,u2,u3,u4⟩ (fun hHeld=>?_)
 clear hK K u1 u2 u3 u4
 try simp only [putS]
 obtain ⟨u1,u2,u3,u4⟩:=hHeld
 refine tr 9 rfl (fun K hK=>?_)
 rw [if_pos (by rfl)]
 go_simp
 refine (zc2 x x2 _).mono ?_
 rintro e w3 ⟨rfl,rfl⟩
 refine hK.out _ _ ⟨u1,u2,u3,u4⟩ (fun hHeld=>?_)
 clear hK K u1 u2 u3 u4
 try simp only [putS]
 obtain ⟨u1,u2,u3,u4⟩:=hHeld
 refine tr 10 rfl (fun K hK=>?_)
 go_simp
 rw [← hN]
 have x4:Six (w'.alloc (Obj.cells #[.int .i64 (zak t.toList t2.toList),.int .i64 (zak x.toList x2.toList)] 3)) (w.heap.size+1) k b n t x p q.length cap:=S4.alloc _
 have x5:Six (w'.alloc (Obj.cells #[.int .i64 (zak t.toList t2.toList),.int .i64 (zak x.toList x2.toList)] 3)) (w.heap.size+2) k2 b2 n2 t2 x2 p2 q2.length cap2:=S5.alloc _
 have xb:Low w.heap.size w (w'.alloc (Obj.cells #[.int .i64 (zak t.toList t2.toList),.int .i64 (zak x.toList x2.toList)] 3)).drew:=(b0.alloc b0.size _).drew
 have y0:(w'.alloc (Obj.cells #[.int .i64 (zak t.toList t2.toList),.int .i64 (zak x.toList x2.toList)] 3)).cell? ⟨N,0,none⟩=some (.int .i64 (zak t.toList t2.toList)):=zad (zaf w' _ hN.symm) 0 rfl
 have y1:(w'.alloc (Obj.cells #[.int .i64 (zak t.toList t2.toList),.int .i64 (zak x.toList x2.toList)] 3)).cell? ⟨N,1,none⟩=some (.int .i64 (zak x.toList x2.toList)):=zad (zaf w' _ hN.symm) 1 rfl
 have ys:N < (w'.alloc (Obj.cells #[.int .i64 (zak t.toList t2.toList),.int .i64 (zak x.toList x2.toList)] 3)).drew.heap.size:=by rw [hN];show w'.heap.size < (w'.alloc _).heap.size;simp
 generalize (w'.alloc (Obj.cells #[.int .i64 (zak t.toList t2.toList),.int .i64 (zak x.toList x2.toList)] 3))=V at x4 x5 xb y0 y1 ys ⊢
 clear u1 u2 u3 u4
 refine hK.out _ _ ⟨x4,x5,xb,Lib.hid fun _=>⟨y0,y1⟩⟩ (fun hHeld=>?_)
 clear hK K
 try simp only [putS]
 obtain ⟨u1,u2,u3,u4⟩:=hHeld
 obtain ⟨v0,v1⟩:=u4.out ys
 refine tr 11 rfl (fun K hK=>?_)
 rw [if_pos (by rfl)]
 go_simp
 rw [hN] at v0 v1
 with_reducible refine (orAt _ _ _ _ v0 v1).mono ?_
 rintro e w3 ⟨rfl,rfl⟩
 refine hK.out _ _ ⟨u1,u2,u3,u4⟩ (fun hHeld=>?_)
 clear hK K u1 u2 u4 v0 v1
 try simp only [putS]
 refine tr 12 rfl (fun K hK=>?_)
 go_simp
 refine hK.out _ _ hHeld (fun _=>?_)
 clear hK K hHeld
 try simp only [putS]
 refine wpAnyH_done (by kernel_rfl) ?_ _
 go_wp2_with fail
 go_ret
 exact ⟨rfl,u3⟩
def zq2 (lang:Int):Val→Val→Int
 | .mk k b n t x l,.mk k2 b2 n2 t2 x2 l2=>if k=5 then za9 lang l l2 else zcp k n b t x k2 n2 b2 t2 x2
theorem zil (lang:Int) (k:Int) (b:Bool) (n:Int) (t x:ByteArray) (l:List Val) (k2:Int) (b2:Bool) (n2:Int) (t2 x2:ByteArray) (l2:List Val):zq2 lang (.mk k b n t x l) (.mk k2 b2 n2 t2 x2 l2)=if k=5 then za9 lang l l2 else zcp k n b t x k2 n2 b2 t2 x2:=rfl
theorem z4d (k n:Int) (b:Bool) (t x:ByteArray) (k2 n2:Int) (b2:Bool) (t2 x2:ByteArray) (h6:¬ k=6) (h7:¬ k=7) (h1:¬ k=1) (h2:¬ k=2) (h3:¬ k=3):zcp k n b t x k2 n2 b2 t2 x2=lexI (zak t.toList t2.toList) (zak x.toList x2.toList):=by
 unfold zcp
 rw [if_neg (by omega),if_neg h1,if_neg (by omega)]
theorem z2v (lang k:Int) (b:Bool) (n:Int) (t x:ByteArray) (q:List Val) (p:Option Addr) (cap:Nat) (k2:Int) (b2:Bool) (n2:Int) (t2 x2:ByteArray) (q2:List Val) (p2:Option Addr) (cap2:Nat) (w:World) (hr:za2 lang k=za2 lang k2)
 (hG:Gd w) (hT:Tab w) (hf:Fine n t x q.length) (hf2:Fine n2 t2 x2 q2.length) (hl:Held w (.slice p q.length cap) q) (hl2:Held w (.slice p2 q2.length cap2) q2) (each:∀ u∈q,zos u):
 Calls Tryz.prog 206 #[.int .i64 lang,.agg #[.int .i64 k,.bool b,.int .i64 n,.string t,.string x,.slice p q.length cap],.agg #[.int .i64 k2,.bool b2,.int .i64 n2,.string t2,.string x2,.slice p2 q2.length cap2]] w fun e w'=>e=.returned (.int .i64 (zq2 lang (.mk k b n t x q) (.mk k2 b2 n2 t2 x2 q2)))∧Low w.heap.size w w':=by
 obtain ⟨W0,hW0⟩:∃ W0,W0=((w.alloc (.cells #[.int .i64 lang] 3)).alloc (.cells #[.int .i64 k,.bool b,.int .i64 n,.string t,.string x,.slice p q.length cap] 48)).alloc (.cells #[.int .i64 k2,.bool b2,.int .i64 n2,.string t2,.string x2,.slice p2 q2.length cap2] 48):=⟨_,rfl⟩
 have S4:Six W0 (w.heap.size+1) k b n t x p q.length cap:=by rw [hW0];exact (zaj _ (by simp)).alloc _
 have S5:Six W0 (w.heap.size+2) k2 b2 n2 t2 x2 p2 q2.length cap2:=by rw [hW0];exact zaj _ (by simp)
 have b0:Low w.heap.size w W0:=by rw [hW0];exact low3 _ _ _ _
 have c0:W0.cell? ⟨w.heap.size,0,none⟩=some (.int .i64 lang):=by
  rw [hW0]
  have e:(w.alloc (.cells #[.int .i64 lang] 3)).cell? ⟨w.heap.size,0,none⟩=some (.int .i64 lang):=zad (zaf _ _ rfl) _ rfl
  exact ((low2 _ _ _).cell (p:=⟨w.heap.size,0,none⟩) (by simp)).trans e
 have hcf:=fun W (h:Low w.heap.size w W) (hc:W.cell? ⟨w.heap.size,0,none⟩=some (.int .i64 lang))=>zz7 lang w.heap.size q q2 p p2 cap cap2 W (hG.below h.is) (hT.below h.is) hc (Held.below q hl h.is) (Held.below q2 hl2 h.is) hf.hn hf2.hn each
 have hnum:=fun (hk:k=2∨k=3) (hk2:k2=2∨k2=3) W (h:Low w.heap.size w W)=>zz6 k b n t x p q.length cap k2 b2 n2 t2 x2 p2 q2.length cap2 W (hG.below h.is) (hT.below h.is) hf hf2 hk hk2
 have H0:=Lib.hid hW0
 clear hf hf2 hG hT hl hl2 each hW0
 rw [zil]
 have hcat:=(zfl hr).2.2.2
 clear hr
 by_cases h5:k=5
 ·subst h5
  rw [if_pos rfl]
  clear hnum hcat
  generalize za9 lang q q2=r at hcf ⊢
  go_enter Tryz.func206,Tryz.ntmps206
  go_wp2_with (first
   |(rw [← H0.out];(with_reducible refine zac (.tmp 4) (w.heap.size+1) S4 ?_ ?_ ?_ ?_);rfl;rfl;rfl)
   |((with_reducible refine zac (.tmp 4) (w.heap.size+1) S4 ?_ ?_ ?_ ?_);rfl;rfl;rfl)
   |((with_reducible refine zac (.tmp 5) (w.heap.size+2) S5 ?_ ?_ ?_ ?_);rfl;rfl;rfl)
   |(go_at_call 156;(with_reducible refine (zat 5 b n t x _ 174 rfl _).mono ?_);rintro e w' ⟨rfl,hb⟩;replace S4:=S4.below hb.is;replace S5:=S5.below hb.is;replace c0:=(hb.cell (p:=⟨w.heap.size,0,none⟩) (World.block_lt_of_cell? _ _ c0)).trans c0;replace b0:=zal b0 hb b0.size;have f1:=S4.c1;have f2:=S4.c2;have f5:=S4.c5;have g1:=S5.c1;have g2:=S5.c2;have g5:=S5.c5;clear hb)
   |(simp only [ze5,Result.andThen_ok])
   |(go_at_call 107;(with_reducible refine (hcf _ b0 c0).mono ?_);rintro e w' ⟨rfl,hb⟩;replace b0:=zal b0 hb b0.size;clear hb))
  go_ret
  exact ⟨rfl,b0⟩
 rw [if_neg h5]
 clear hcf
 by_cases h6:k=6
 ·subst h6
  clear hnum hcat
  rw [show zcp 6 n b t x k2 n2 b2 t2 x2=cmpZ n n2 from rfl]
  go_enter Tryz.func206,Tryz.ntmps206
  go_wp2_with (first
   |(rw [← H0.out];(with_reducible refine zac (.tmp 4) (w.heap.size+1) S4 ?_ ?_ ?_ ?_);rfl;rfl;rfl)
   |((with_reducible refine zac (.tmp 4) (w.heap.size+1) S4 ?_ ?_ ?_ ?_);rfl;rfl;rfl)
   |((with_reducible refine zac (.tmp 5) (w.heap.size+2) S5 ?_ ?_ ?_ ?_);rfl;rfl;rfl)
   |(go_at_call 156;(with_reducible refine (zat 6 b n t x _ 167 rfl _).mono ?_);rintro e w' ⟨rfl,hb⟩;replace S4:=S4.below hb.is;replace S5:=S5.below hb.is;replace c0:=(hb.cell (p:=⟨w.heap.size,0,none⟩) (World.block_lt_of_cell? _ _ c0)).trans c0;replace b0:=zal b0 hb b0.size;have f1:=S4.c1;have f2:=S4.c2;have f5:=S4.c5;have g1:=S5.c1;have g2:=S5.c2;have g5:=S5.c5;clear hb)
   |(simp only [zgo,zgl,zgm,Result.andThen_ok])
   |(go_at_call 229;(with_reducible refine (zp7 n n2 _).mono ?_);rintro e w' ⟨rfl,hb⟩;replace b0:=zal b0 hb b0.size;clear hb))
  go_ret
  exact ⟨rfl,b0⟩
 by_cases h7:k=7
 ·subst h7
  clear hnum hcat
  rw [show zcp 7 n b t x k2 n2 b2 t2 x2=cmpZ n n2 from rfl]
  go_enter Tryz.func206,Tryz.ntmps206
  go_wp2_with (first
   |(rw [← H0.out];(with_reducible refine zac (.tmp 4) (w.heap.size+1) S4 ?_ ?_ ?_ ?_);rfl;rfl;rfl)
   |((with_reducible refine zac (.tmp 4) (w.heap.size+1) S4 ?_ ?_ ?_ ?_);rfl;rfl;rfl)
   |((with_reducible refine zac (.tmp 5) (w.heap.size+2) S5 ?_ ?_ ?_ ?_);rfl;rfl;rfl)
   |(go_at_call 156;(with_reducible refine (zat 7 b n t x _ 168 rfl _).mono ?_);rintro e w' ⟨rfl,hb⟩;replace S4:=S4.below hb.is;replace S5:=S5.below hb.is;replace c0:=(hb.cell (p:=⟨w.heap.size,0,none⟩) (World.block_lt_of_cell? _ _ c0)).trans c0;replace b0:=zal b0 hb b0.size;have f1:=S4.c1;have f2:=S4.c2;have f5:=S4.c5;have g1:=S5.c1;have g2:=S5.c2;have g5:=S5.c5;clear hb)
   |(simp only [zgu,zgr,zgs,Result.andThen_ok])
   |(go_at_call 229;(with_reducible refine (zp7 n n2 _).mono ?_);rintro e w' ⟨rfl,hb⟩;replace b0:=zal b0 hb b0.size;clear hb))
  go_ret
  exact ⟨rfl,b0⟩
 by_cases h1:k=1
 ·subst h1
  clear hnum hcat
  rw [show zcp 1 n b t x k2 n2 b2 t2 x2=zop b b2 from rfl]
  go_enter Tryz.func206,Tryz.ntmps206
  go_wp2_with (first
   |(rw [← H0.out];(with_reducible refine zac (.tmp 4) (w.heap.size+1) S4 ?_ ?_ ?_ ?_);rfl;rfl;rfl)
   |((with_reducible refine zac (.tmp 4) (w.heap.size+1) S4 ?_ ?_ ?_ ?_);rfl;rfl;rfl)
   |((with_reducible refine zac (.tmp 5) (w.heap.size+2) S5 ?_ ?_ ?_ ?_);rfl;rfl;rfl)
   |(go_at_call 156;(with_reducible refine (zat 1 b n t x _ 165 rfl _).mono ?_);rintro e w' ⟨rfl,hb⟩;replace S4:=S4.below hb.is;replace S5:=S5.below hb.is;replace c0:=(hb.cell (p:=⟨w.heap.size,0,none⟩) (World.block_lt_of_cell? _ _ c0)).trans c0;replace b0:=zal b0 hb b0.size;have f1:=S4.c1;have f2:=S4.c2;have f5:=S4.c5;have g1:=S5.c1;have g2:=S5.c2;have g5:=S5.c5;clear hb)
   |(simp only [zgi,zgf,zgg,zgd,Result.andThen_ok])
   |(go_at_call 230;(with_reducible refine (zse b b2 _).mono ?_);rintro e w' ⟨rfl,rfl⟩))
  go_ret
  exact ⟨rfl,b0⟩
 by_cases h2:k=2
 ·subst h2
  replace hnum:=hnum (.inl rfl) (hcat.1 (.inl rfl))
  clear hcat
  rw [show zcp 2 n b t x k2 n2 b2 t2 x2=lexI (cmpZ (numV 2 n t) (numV k2 n2 t2)) (lexI (cmpZ 2 k2) (if (2:Int)=3 then zak t.toList t2.toList else 0)) from rfl]
  generalize lexI (cmpZ (numV 2 n t) (numV k2 n2 t2)) (lexI (cmpZ 2 k2) (if (2:Int)=3 then zak t.toList t2.toList else 0))=r at hnum ⊢
  go_enter Tryz.func206,Tryz.ntmps206
  go_wp2_with (first
   |(rw [← H0.out];(with_reducible refine zac (.tmp 4) (w.heap.size+1) S4 ?_ ?_ ?_ ?_);rfl;rfl;rfl)
   |((with_reducible refine zac (.tmp 4) (w.heap.size+1) S4 ?_ ?_ ?_ ?_);rfl;rfl;rfl)
   |((with_reducible refine zac (.tmp 5) (w.heap.size+2) S5 ?_ ?_ ?_ ?_);rfl;rfl;rfl)
   |(go_at_call 156;(with_reducible refine (zat 2 b n t x _ 166 rfl _).mono ?_);rintro e w' ⟨rfl,hb⟩;replace S4:=S4.below hb.is;replace S5:=S5.below hb.is;replace c0:=(hb.cell (p:=⟨w.heap.size,0,none⟩) (World.block_lt_of_cell? _ _ c0)).trans c0;replace b0:=zal b0 hb b0.size;have f1:=S4.c1;have f2:=S4.c2;have f5:=S4.c5;have g1:=S5.c1;have g2:=S5.c2;have g5:=S5.c5;clear hb)
   |(simp only [zjt,zjq,zjr,zjo,zjp,zjs,Result.andThen_ok])
   |(go_at_call 231;(with_reducible refine (hnum _ b0).mono ?_);rintro e w' ⟨rfl,hb⟩;replace b0:=zal b0 hb b0.size;clear hb))
  go_ret
  exact ⟨rfl,b0⟩
 by_cases h3:k=3
 ·subst h3
  replace hnum:=hnum (.inr rfl) (hcat.1 (.inr rfl))
  clear hcat
  rw [show zcp 3 n b t x k2 n2 b2 t2 x2=lexI (cmpZ (numV 3 n t) (numV k2 n2 t2)) (lexI (cmpZ 3 k2) (if (3:Int)=3 then zak t.toList t2.toList else 0)) from rfl]
  generalize lexI (cmpZ (numV 3 n t) (numV k2 n2 t2)) (lexI (cmpZ 3 k2) (if (3:Int)=3 then zak t.toList t2.toList else 0))=r at hnum ⊢
  go_enter Tryz.func206,Tryz.ntmps206
  go_wp2_with (first
   |(rw [← H0.out];(with_reducible refine zac (.tmp 4) (w.heap.size+1) S4 ?_ ?_ ?_ ?_);rfl;rfl;rfl)
   |((with_reducible refine zac (.tmp 4) (w.heap.size+1) S4 ?_ ?_ ?_ ?_);rfl;rfl;rfl)
   |((with_reducible refine zac (.tmp 5) (w.heap.size+2) S5 ?_ ?_ ?_ ?_);rfl;rfl;rfl)
   |(go_at_call 156;(with_reducible refine (zat 3 b n t x _ 169 rfl _).mono ?_);rintro e w' ⟨rfl,hb⟩;replace S4:=S4.below hb.is;replace S5:=S5.below hb.is;replace c0:=(hb.cell (p:=⟨w.heap.size,0,none⟩) (World.block_lt_of_cell? _ _ c0)).trans c0;replace b0:=zal b0 hb b0.size;have f1:=S4.c1;have f2:=S4.c2;have f5:=S4.c5;have g1:=S5.c1;have g2:=S5.c2;have g5:=S5.c5;clear hb)
   |(simp only [zg0,zgx,zgy,zgv,zgw,zgz,Result.andThen_ok])
   |(go_at_call 231;(with_reducible refine (hnum _ b0).mono ?_);rintro e w' ⟨rfl,hb⟩;replace b0:=zal b0 hb b0.size;clear hb))
  go_ret
  exact ⟨rfl,b0⟩
 rw [z4d k n b t x k2 n2 b2 t2 x2 h6 h7 h1 h2 h3]
 clear hnum hcat
 by_cases h0:k=0
 ·exact ztt lang k b n t x q p cap k2 b2 n2 t2 x2 q2 p2 cap2 w h0
 by_cases h4:k=4
 ·exact ztu lang k b n t x q p cap k2 b2 n2 t2 x2 q2 p2 cap2 w h4
 by_cases h8:k=8
 ·exact ztv lang k b n t x q p cap k2 b2 n2 t2 x2 q2 p2 cap2 w h8
 by_cases h9:k=9
 ·exact ztw lang k b n t x q p cap k2 b2 n2 t2 x2 q2 p2 cap2 w h9
 by_cases h10:k=10
 ·exact zsk lang k b n t x q p cap k2 b2 n2 t2 x2 q2 p2 cap2 w h10
 exact zsl lang k b n t x q p cap k2 b2 n2 t2 x2 q2 p2 cap2 w (by unfold zlm;simp [h0,h1,h2,h3,h4,h5,h6,h7,h8,h9,h10])
theorem zoi (l m:List UInt8):zak l m=if Op.bytesLess l m then -1 else if l == m then 0 else 1:=by
 unfold zak
 cases h1:Op.bytesLess l m with
 | true=>rfl
 | false=>
   cases h3:(l == m) with
   | true=>
     have e:l=m:=by simpa using h3
     subst e
     rw [h1]
     rfl
   | false=>
     cases h2:Op.bytesLess m l with
     | true=>rfl
     | false=>
       rw [zfa l m h1 h2] at h3
       simp at h3
theorem ztx (v:Val) (k:Int) (b:Bool) (n:Int) (t x:ByteArray) (q:List Val) (ev:v=.mk k b n t x q) (each:∀ u∈q,zsg u):zsg v:=by
 subst ev
 intro lang w k1 b1 n1 t1 x1 q1 p cap v2 k2 b2 n2 t2 x2 q2 p2 cap2 e1 e2 hf hf2 hl hl2
 cases e1
 subst e2
 obtain ⟨W0,hW0⟩:∃ W0,W0=(w.alloc (.cells #[.int .i64 k,.bool b,.int .i64 n,.string t,.string x,.slice p q.length cap] 48)).alloc (.cells #[.int .i64 k2,.bool b2,.int .i64 n2,.string t2,.string x2,.slice p2 q2.length cap2] 48):=⟨_,rfl⟩
 have S4:Six W0 w.heap.size k b n t x p q.length cap:=by rw [hW0];exact (zaj _ rfl).alloc _
 have S5:Six W0 (w.heap.size+1) k2 b2 n2 t2 x2 p2 q2.length cap2:=by rw [hW0];exact zaj _ (by simp)
 have b0:Below w.heap.size w W0:=by rw [hW0];exact zdb _ _ _
 have hrows:=fun W (h:Below w.heap.size w W)=>z4c lang q q2 p p2 cap cap2 W (Held.below q hl h) (Held.below q2 hl2 h) hf.hn hf2.hn each
 have HD1:=Lib.hid (fun W=>zva k b n t x p q.length cap W hf)
 have HD2:=Lib.hid (fun W=>zva k2 b2 n2 t2 x2 p2 q2.length cap2 W hf2)
 have HCMP:Hid (∀ (s s2:ByteArray),zot (numV k n t) s→zot (numV k2 n2 t2) s2→∀ W,Calls Tryz.prog 181 #[.string s,.string s2] W fun e w'=>e=.returned (.int .i64 (cmpZ (numV k n t) (numV k2 n2 t2)))∧Below W.heap.size W w'):=Lib.hid fun s s2 h h2 W=>zw0 h h2 W
 have hr1:=fun W=>zsf lang k W
 have hr2:=fun W=>zsf lang k2 W
 have f0:=S4.c0
 have f1:=S4.c1
 have f2:=S4.c2
 have f3:=S4.c3
 have f4:=S4.c4
 have f5:=S4.c5
 have g0:=S5.c0
 have g1:=S5.c1
 have g2:=S5.c2
 have g3:=S5.c3
 have g4:=S5.c4
 have g5:=S5.c5
 have H0:=Lib.hid hW0
 clear hf hf2 hl hl2 hW0 each
 rw [zd2,← zil]
 obtain ⟨z,hz⟩:∃ z,z=lexI (cmpZ (za2 lang k) (za2 lang k2)) (zq2 lang (.mk k b n t x q) (.mk k2 b2 n2 t2 x2 q2)):=⟨_,rfl⟩
 rw [← hz]
 by_cases hr:za2 lang k=za2 lang k2
 rotate_left
 ·have hne:(za2 lang k != za2 lang k2)=true:=by simpa using hr
  by_cases hlt:za2 lang k < za2 lang k2
  ·have HZ:=Lib.hid (show z=-1 by rw [hz];unfold cmpZ;rw [if_pos hlt];rfl)
   clear hz hr hrows HD1 HD2 HCMP
   generalize za2 lang k=ra at hr1 hne hlt
   generalize za2 lang k2=rb at hr2 hne hlt
   go_enter Tryz.func135,Tryz.ntmps135
   go_upto_region 1 with fail
   rw [← H0.out]
   go_wp2_with (first
    |(go_at_call 180;(with_reducible refine (hr1 _).mono ?_);rintro e w' ⟨rfl,rfl⟩)
    |(go_at_call 180;(with_reducible refine (hr2 _).mono ?_);rintro e w' ⟨rfl,rfl⟩)
    |(go_at_call 136;(with_reducible refine (zd3 _ _ _).mono ?_);rintro e w' ⟨rfl,rfl⟩))
   all_goals
    go_ret
    exact ⟨by rw [HZ.out];simp [],b0⟩
  ·have HZ:=Lib.hid (show z=1 by rw [hz];unfold cmpZ;rw [if_neg hlt,if_pos (by omega)];rfl)
   clear hz hr hrows HD1 HD2 HCMP
   generalize za2 lang k=ra at hr1 hne hlt
   generalize za2 lang k2=rb at hr2 hne hlt
   go_enter Tryz.func135,Tryz.ntmps135
   go_upto_region 1 with fail
   rw [← H0.out]
   go_wp2_with (first
    |(go_at_call 180;(with_reducible refine (hr1 _).mono ?_);rintro e w' ⟨rfl,rfl⟩)
    |(go_at_call 180;(with_reducible refine (hr2 _).mono ?_);rintro e w' ⟨rfl,rfl⟩)
    |(go_at_call 136;(with_reducible refine (zd3 _ _ _).mono ?_);rintro e w' ⟨rfl,rfl⟩))
   all_goals
    go_ret
    exact ⟨by rw [HZ.out];simp [],b0⟩
 have hcat:=zfl hr
 rw [hr,zh3,zco,zil] at hz
 rw [← hr] at hr2
 by_cases h5:k=5
 ·subst h5
  rw [if_pos rfl] at hz
  rw [show za2 lang 5=1 from rfl] at hr1 hr2
  have HZ:=Lib.hid hz
  clear hz hr hcat HD1 HD2 HCMP
  go_enter Tryz.func135,Tryz.ntmps135
  go_upto_region 1 with fail
  rw [← H0.out]
  go_wp2_with (first
   |(go_at_call 180;(with_reducible refine (hr1 _).mono ?_);rintro e w' ⟨rfl,rfl⟩)
   |(go_at_call 180;(with_reducible refine (hr2 _).mono ?_);rintro e w' ⟨rfl,rfl⟩)
   |(go_at_call 136;(with_reducible refine (zd3 _ _ _).mono ?_);rintro e w' ⟨rfl,rfl⟩)
   |(go_at_call 84;(with_reducible refine (hrows _ b0).mono ?_);rintro e w' ⟨rfl,hb⟩;replace b0:=zab b0 hb b0.size;clear hb))
  all_goals
   go_ret
   exact ⟨by rw [HZ.out];rfl,b0⟩
 rw [if_neg h5] at hz
 clear hrows
 by_cases h23:k=2∨k=3
 ·have hk:=h23
  have hk2:=hcat.2.2.2.1 h23
  rw [(zut lang k).2 h23] at hr1 hr2
  obtain ⟨c,hc⟩:∃ c,c=cmpZ (numV k n t) (numV k2 n2 t2):=⟨_,rfl⟩
  rw [show zcp k n b t x k2 n2 b2 t2 x2=lexI (cmpZ (numV k n t) (numV k2 n2 t2)) (lexI (cmpZ k k2) (if k=3 then zak t.toList t2.toList else 0)) by unfold zcp;rw [if_neg (by omega),if_neg (by omega),if_pos h23],← hc] at hz
  rw [← hc] at HCMP
  have HZ:=Lib.hid hz
  clear hz hc hr hcat h5 h23
  ·skip
   go_enter Tryz.func135,Tryz.ntmps135
   go_upto_region 1 with fail
   rw [← H0.out]
   go_upto_region 7 with (first
    |(go_at_call 180;(with_reducible refine (hr1 _).mono ?_);rintro e w' ⟨rfl,rfl⟩)
    |(go_at_call 180;(with_reducible refine (hr2 _).mono ?_);rintro e w' ⟨rfl,rfl⟩)
    |(go_at_call 136;(with_reducible refine (zd3 _ _ _).mono ?_);rintro e w' ⟨rfl,rfl⟩))
   clear f0 g0 f1 g1 f2 g2 f3 g3 f4 g4 f5 g5
   refine wp_region_held_drew (S:=fun w'=>Six w' w.heap.size k b n t x p q.length cap∧Six w' (w.heap.size+1) k2 b2 n2 t2 x2 p2 q2.length cap2∧Below w.heap.size w w') (by kernel_rfl) ⟨S4,S5,b0.drew⟩ (fun hHeld=>?_)
   refine tk (i:=0) rfl (zlo (by rfl) (.tmp 4) rfl w.heap.size rfl (fun _ h=>h.1)) hHeld ?_
   refine tk (i:=2) rfl (zlo (by rfl) (.tmp 5) rfl (w.heap.size+1) rfl (fun _ h=>h.2.1)) hHeld ?_
   obtain ⟨u1,u2,u3⟩:=hHeld
   refine tr 1 rfl (fun K hK=>?_)
   rw [if_pos (by rfl)]
   go_simp
   refine (HD1.out _).mono ?_
   rintro e w3 ⟨s1,rfl,hs1,hb⟩
   refine hK.out _ _ ⟨u1.below hb,u2.below hb,zab u3 hb u3.size⟩ (fun hHeld=>?_)
   clear hK K u1 u2 u3
   try simp only [putS]
   have HS1:=Lib.hid hs1
   clear hs1 hb
   obtain ⟨u1,u2,u3⟩:=hHeld
   refine tr 3 rfl (fun K hK=>?_)
   rw [if_pos (by rfl)]
   go_simp
   refine (HD2.out _).mono ?_
   rintro e w3 ⟨s2,rfl,hs2,hb⟩
   refine hK.out _ _ ⟨u1.below hb,u2.below hb,zab u3 hb u3.size⟩ (fun hHeld=>?_)
   clear hK K u1 u2 u3
   try simp only [putS]
   have HS2:=Lib.hid hs2
   clear hs2 hb
   obtain ⟨u1,u2,u3⟩:=hHeld
   refine tr 4 rfl (fun K hK=>?_)
   rw [if_pos (by rfl)]
   go_simp
   refine (HCMP.out _ _ HS1.out HS2.out _).mono ?_
   rintro e w3 ⟨rfl,hb⟩
   refine hK.out _ _ ⟨u1.below hb,u2.below hb,zab u3 hb u3.size⟩ (fun hHeld=>?_)
   clear hK K u1 u2 u3
   try simp only [putS]
   clear hb
   refine tg (i:=5) (.int .i64 c) rfl hHeld ?_
   refine wpAnyH_done (by kernel_rfl) ?_ _
   obtain ⟨u1,u2,u3⟩:=hHeld
   have f0:=u1.c0
   have f3:=u1.c3
   have g0:=u2.c0
   have g3:=u2.c3
   by_cases hc0:c=0
   ·subst hc0
    rcases hk with rfl | rfl <;> rcases hk2 with rfl | rfl
    ·skip
     go_wp2_with (first
      |(go_at_call 180;(with_reducible refine (hr1 _).mono ?_);rintro e w' ⟨rfl,rfl⟩)
      |(go_at_call 180;(with_reducible refine (hr2 _).mono ?_);rintro e w' ⟨rfl,rfl⟩)
      |(go_at_call 136;(with_reducible refine (zd3 _ _ _).mono ?_);rintro e w' ⟨rfl,rfl⟩))
     all_goals
      go_ret
      exact ⟨by rw [HZ.out];rfl,u3⟩
    ·skip
     go_wp2_with (first
      |(go_at_call 180;(with_reducible refine (hr1 _).mono ?_);rintro e w' ⟨rfl,rfl⟩)
      |(go_at_call 180;(with_reducible refine (hr2 _).mono ?_);rintro e w' ⟨rfl,rfl⟩)
      |(go_at_call 136;(with_reducible refine (zd3 _ _ _).mono ?_);rintro e w' ⟨rfl,rfl⟩))
     all_goals
      go_ret
      exact ⟨by rw [HZ.out];rfl,u3⟩
    ·skip
     go_wp2_with (first
      |(go_at_call 180;(with_reducible refine (hr1 _).mono ?_);rintro e w' ⟨rfl,rfl⟩)
      |(go_at_call 180;(with_reducible refine (hr2 _).mono ?_);rintro e w' ⟨rfl,rfl⟩)
      |(go_at_call 136;(with_reducible refine (zd3 _ _ _).mono ?_);rintro e w' ⟨rfl,rfl⟩))
     all_goals
      go_ret
      exact ⟨by rw [HZ.out];rfl,u3⟩
    ·cases hxl:Op.bytesLess t.toList t2.toList <;> cases hxe:(t.toList == t2.toList)
     all_goals
      go_wp2_with (first
       |(go_at_call 180;(with_reducible refine (hr1 _).mono ?_);rintro e w' ⟨rfl,rfl⟩)
       |(go_at_call 180;(with_reducible refine (hr2 _).mono ?_);rintro e w' ⟨rfl,rfl⟩)
       |(go_at_call 136;(with_reducible refine (zd3 _ _ _).mono ?_);rintro e w' ⟨rfl,rfl⟩))
      all_goals
       go_ret
       exact ⟨by rw [HZ.out];show _=Ending.returned (Value.int .i64 (zak t.toList t2.toList));rw [zoi,hxl,hxe];rfl,u3⟩
   ·have e0:(c == 0)=false:=by simpa using hc0
    have HZ2:=Lib.hid (show z=c by rw [HZ.out];exact if_neg hc0)
    go_wp2_with (first
     |(go_at_call 180;(with_reducible refine (hr1 _).mono ?_);rintro e w' ⟨rfl,rfl⟩)
     |(go_at_call 180;(with_reducible refine (hr2 _).mono ?_);rintro e w' ⟨rfl,rfl⟩)
     |(go_at_call 136;(with_reducible refine (zd3 _ _ _).mono ?_);rintro e w' ⟨rfl,rfl⟩))
    go_ret
    exact ⟨by rw [HZ2.out];rfl,u3⟩
 clear HD1 HD2 HCMP
 by_cases h6:k=6
 ·subst h6
  rw [show za2 lang 6=2 from rfl] at hr1 hr2
  have HZ:=Lib.hid (show z=cmpZ n n2 from hz)
  clear hz hr hcat h5 h23
  go_enter Tryz.func135,Tryz.ntmps135
  go_upto_region 1 with fail
  rw [← H0.out]
  go_wp2_with (first
   |(go_at_call 180;(with_reducible refine (hr1 _).mono ?_);rintro e w' ⟨rfl,rfl⟩)
   |(go_at_call 180;(with_reducible refine (hr2 _).mono ?_);rintro e w' ⟨rfl,rfl⟩)
   |(go_at_call 136;(with_reducible refine (zd3 _ _ _).mono ?_);rintro e w' ⟨rfl,rfl⟩))
  all_goals
   go_ret
   exact ⟨by rw [HZ.out];unfold cmpZ;(repeat' split) <;> first | rfl | omega |(simp;omega),b0⟩
 by_cases h7:k=7
 ·subst h7
  rw [show za2 lang 7=3 from rfl] at hr1 hr2
  have HZ:=Lib.hid (show z=cmpZ n n2 from hz)
  clear hz hr hcat h5 h6 h23
  go_enter Tryz.func135,Tryz.ntmps135
  go_upto_region 1 with fail
  rw [← H0.out]
  go_wp2_with (first
   |(go_at_call 180;(with_reducible refine (hr1 _).mono ?_);rintro e w' ⟨rfl,rfl⟩)
   |(go_at_call 180;(with_reducible refine (hr2 _).mono ?_);rintro e w' ⟨rfl,rfl⟩)
   |(go_at_call 136;(with_reducible refine (zd3 _ _ _).mono ?_);rintro e w' ⟨rfl,rfl⟩))
  all_goals
   go_ret
   exact ⟨by rw [HZ.out];unfold cmpZ;(repeat' split) <;> first | rfl | omega |(simp;omega),b0⟩
 by_cases h1:k=1
 ·subst h1
  rw [show za2 lang 1=8 from rfl] at hr1 hr2
  have HZ:=Lib.hid (show z=zop b b2 from hz)
  clear hz hr hcat h5 h6 h7 h23
  cases b <;> cases b2
  all_goals
   go_enter Tryz.func135,Tryz.ntmps135
   go_upto_region 1 with fail
   rw [← H0.out]
   go_wp2_with (first
    |(go_at_call 180;(with_reducible refine (hr1 _).mono ?_);rintro e w' ⟨rfl,rfl⟩)
    |(go_at_call 180;(with_reducible refine (hr2 _).mono ?_);rintro e w' ⟨rfl,rfl⟩)
    |(go_at_call 136;(with_reducible refine (zd3 _ _ _).mono ?_);rintro e w' ⟨rfl,rfl⟩))
   all_goals
    go_ret
    exact ⟨by rw [HZ.out];rfl,b0⟩
 rw [z4d k n b t x k2 n2 b2 t2 x2 h6 h7 h1 (by omega) (by omega)] at hz
 have d1:(za2 lang k == 1)=false:=by simpa using fun h=>h5 ((rank5 lang k).1 h)
 have d9:(za2 lang k == 9)=false:=by simpa using fun h=>h23 ((zut lang k).1 h)
 have d8:(za2 lang k == 8)=false:=by simpa using fun h=>h1 ((zzc lang k).1 h)
 have d2:(za2 lang k == 2)=false:=by simpa using fun h=>(by have:=(zus lang k).1 (.inl h);omega:False)
 have d3:(za2 lang k == 3)=false:=by simpa using fun h=>(by have:=(zus lang k).1 (.inr h);omega:False)
 generalize za2 lang k=ra at hr1 hr2 d1 d2 d3 d8 d9
 clear hr hcat h5 h6 h7 h1 h23
 by_cases ht:t.toList=t2.toList
 ·have hte:(t.toList == t2.toList)=true:=by simpa using ht
  have HZ:=Lib.hid (show z=zak x.toList x2.toList by rw [hz,ht,ztf,zco])
  clear hz ht
  cases hxl:Op.bytesLess x.toList x2.toList <;> cases hxe:(x.toList == x2.toList)
  all_goals
   go_enter Tryz.func135,Tryz.ntmps135
   go_upto_region 1 with fail
   rw [← H0.out]
   go_wp2_with (first
    |(go_at_call 180;(with_reducible refine (hr1 _).mono ?_);rintro e w' ⟨rfl,rfl⟩)
    |(go_at_call 180;(with_reducible refine (hr2 _).mono ?_);rintro e w' ⟨rfl,rfl⟩)
    |(go_at_call 136;(with_reducible refine (zd3 _ _ _).mono ?_);rintro e w' ⟨rfl,rfl⟩))
   all_goals
    go_ret
    exact ⟨by rw [HZ.out,zoi,hxl,hxe];rfl,b0⟩
 ·have hte:(t.toList == t2.toList)=false:=by simpa using ht
  have hne:zak t.toList t2.toList≠0:=fun h=>ht (zfm h)
  have HZ:=Lib.hid (show z=zak t.toList t2.toList by rw [hz];exact if_neg hne)
  have HN:=Lib.hid ht
  clear hz ht hne
  cases hxl:Op.bytesLess t.toList t2.toList
  all_goals
   go_enter Tryz.func135,Tryz.ntmps135
   go_upto_region 1 with fail
   rw [← H0.out]
   go_wp2_with (first
    |(go_at_call 180;(with_reducible refine (hr1 _).mono ?_);rintro e w' ⟨rfl,rfl⟩)
    |(go_at_call 180;(with_reducible refine (hr2 _).mono ?_);rintro e w' ⟨rfl,rfl⟩)
    |(go_at_call 136;(with_reducible refine (zd3 _ _ _).mono ?_);rintro e w' ⟨rfl,rfl⟩))
   all_goals
    go_ret
    exact ⟨by rw [HZ.out,zoi,hxl,hte];rfl,b0⟩
mutual
theorem z0d:(v:Val)→zsg v
 | .mk k b n t x q=>ztx _ k b n t x q rfl (zl7 q)
theorem zl7:(q:List Val)→∀ u∈q,zsg u
 | [],_,h=>absurd h (by simp)
 | v::r,u,h=>by
   rcases List.mem_cons.1 h with h | h
   ·rw [h];exact z0d v
   ·exact zl7 r u h
end
theorem z2w (v:Val) (k:Int) (b:Bool) (n:Int) (t x:ByteArray) (q:List Val) (ev:v=.mk k b n t x q) (each:∀ u∈q,zos u):zos v:=by
 subst ev
 intro lang w k1 b1 n1 t1 x1 q1 p cap v2 k2 b2 n2 t2 x2 q2 p2 cap2 e1 e2 hG hT hf hf2 hl hl2
 cases e1
 subst e2
 obtain ⟨W0,hW0⟩:∃ W0,W0=(w.alloc (.cells #[.int .i64 k,.bool b,.int .i64 n,.string t,.string x,.slice p q.length cap] 48)).alloc (.cells #[.int .i64 k2,.bool b2,.int .i64 n2,.string t2,.string x2,.slice p2 q2.length cap2] 48):=⟨_,rfl⟩
 have S4:Six W0 w.heap.size k b n t x p q.length cap:=by rw [hW0];exact (zaj _ rfl).alloc _
 have S5:Six W0 (w.heap.size+1) k2 b2 n2 t2 x2 p2 q2.length cap2:=by rw [hW0];exact zaj _ (by simp)
 have b0:Low w.heap.size w W0:=by rw [hW0];exact low2 _ _ _
 have hwi:=fun (hr:za2 lang k=za2 lang k2) W (h:Low w.heap.size w W)=>z2v lang k b n t x q p cap k2 b2 n2 t2 x2 q2 p2 cap2 W hr (hG.below h.is) (hT.below h.is) hf hf2 (Held.below q hl h.is) (Held.below q2 hl2 h.is) each
 have hr1:=fun W=>z4b lang k b n t x p q.length cap W
 have hr2:=fun W=>z4b lang k2 b2 n2 t2 x2 p2 q2.length cap2 W
 rw [zd2,← zil]
 generalize zq2 lang (.mk k b n t x q) (.mk k2 b2 n2 t2 x2 q2)=r at hwi ⊢
 generalize za2 lang k=ra at hwi hr1 ⊢
 generalize za2 lang k2=rb at hwi hr2 ⊢
 have H0:=Lib.hid hW0
 clear hW0 hl hl2 hf hf2 hG hT each
 obtain ⟨z,hz⟩:∃ z,z=lexI (cmpZ ra rb) r:=⟨_,rfl⟩
 rw [← hz]
 go_enter Tryz.func165,Tryz.ntmps165
 go_upto_region 2 with fail
 rw [← H0.out]
 refine wp_region_held_drew (S:=fun w'=>Six w' w.heap.size k b n t x p q.length cap∧Six w' (w.heap.size+1) k2 b2 n2 t2 x2 p2 q2.length cap2∧Low w.heap.size w w') (by kernel_rfl) ⟨S4,S5,b0.drew⟩ (fun hHeld=>?_)
 refine tg (i:=0) (.int .i64 lang) rfl hHeld ?_
 refine tk (i:=1) rfl (zlo (by rfl) (.tmp 4) rfl w.heap.size rfl (fun _ h=>h.1)) hHeld ?_
 refine tg (i:=3) (.int .i64 lang) rfl hHeld ?_
 refine tk (i:=4) rfl (zlo (by rfl) (.tmp 5) rfl (w.heap.size+1) rfl (fun _ h=>h.2.1)) hHeld ?_
 obtain ⟨u1,u2,u3⟩:=hHeld
 refine tr 2 rfl (fun K hK=>?_)
 rw [if_pos (by rfl)]
 go_simp
 refine (hr1 _).mono ?_
 rintro e w3 ⟨rfl,hb⟩
 refine hK.out _ _ ⟨u1.below hb.is,u2.below hb.is,zal u3 hb u3.size⟩ (fun hHeld=>?_)
 clear hK K u1 u2 u3 hb
 try simp only [putS]
 obtain ⟨u1,u2,u3⟩:=hHeld
 refine tr 5 rfl (fun K hK=>?_)
 rw [if_pos (by rfl)]
 go_simp
 refine (hr2 _).mono ?_
 rintro e w3 ⟨rfl,hb⟩
 refine hK.out _ _ ⟨u1.below hb.is,u2.below hb.is,zal u3 hb u3.size⟩ (fun hHeld=>?_)
 clear hK K u1 u2 u3 hb
 try simp only [putS]
 refine tg (i:=6) (.int .i64 ra) rfl hHeld ?_
 refine tg (i:=7) (.int .i64 rb) rfl hHeld ?_
 refine wpAnyH_done (by kernel_rfl) ?_ _
 obtain ⟨u1,u2,u3⟩:=hHeld
 have H1:=Lib.hid hz
 clear hz
 by_cases h1:ra < rb
 ·obtain rfl:z=-1:=by rw [H1.out];unfold cmpZ;rw [if_pos h1];rfl
  clear H1 hwi
  go_wp2_with fail
  go_ret
  exact ⟨rfl,u3⟩
 ·by_cases h2:rb < ra
  ·obtain rfl:z=1:=by rw [H1.out];unfold cmpZ;rw [if_neg h1,if_pos h2];rfl
   clear H1 hwi
   go_wp2_with fail
   go_ret
   exact ⟨rfl,u3⟩
  ·obtain rfl:ra=rb:=by omega
   obtain rfl:z=r:=by rw [H1.out,zh3,zco]
   replace hwi:=hwi rfl
   clear H1
   go_wp2_with (first
    |((with_reducible refine zac (.tmp 4) w.heap.size u1 ?_ ?_ ?_ ?_);rfl;rfl;rfl)
    |((with_reducible refine zac (.tmp 5) (w.heap.size+1) u2 ?_ ?_ ?_ ?_);rfl;rfl;rfl)
    |(go_at_call 206;(with_reducible refine (hwi _ u3).mono ?_);rintro e w3 ⟨rfl,hb⟩;replace u3:=zal u3 hb u3.size;clear hb))
   go_ret
   exact ⟨rfl,u3⟩
mutual
theorem z0e:(v:Val)→zos v
 | .mk k b n t x q=>z2w _ k b n t x q rfl (z0f q)
theorem z0f:(q:List Val)→∀ u∈q,zos u
 | [],_,h=>absurd h (by simp)
 | v::r,u,h=>by
   rcases List.mem_cons.1 h with h | h
   ·rw [h];exact z0e v
   ·exact z0f r u h
end
theorem z0g {v:Val} (h:zos v) (lang:Int) (W:World) (k:Int) (b:Bool) (n:Int) (t x:ByteArray) (q:List Val) (p:Option Addr) (cap:Nat) (v2:Val) (k2:Int) (b2:Bool) (n2:Int) (t2 x2:ByteArray) (q2:List Val) (p2:Option Addr) (cap2:Nat)
 (e1:v=.mk k b n t x q) (e2:v2=.mk k2 b2 n2 t2 x2 q2) (hG:Gd W) (hT:Tab W) (hf:Fine n t x q.length) (hf2:Fine n2 t2 x2 q2.length) (hl:Held W (.slice p q.length cap) q) (hl2:Held W (.slice p2 q2.length cap2) q2):
 Calls Tryz.prog 108 #[.int .i64 lang,.agg #[.int .i64 k,.bool b,.int .i64 n,.string t,.string x,.slice p q.length cap],.agg #[.int .i64 k2,.bool b2,.int .i64 n2,.string t2,.string x2,.slice p2 q2.length cap2]] W
  fun e w'=>e=.returned (.int .i64 (zdo lang v v2))∧Low W.heap.size W w':=by
 obtain ⟨W0,hW0⟩:∃ W0,W0=(W.alloc (.cells #[.int .i64 k,.bool b,.int .i64 n,.string t,.string x,.slice p q.length cap] 48)).alloc (.cells #[.int .i64 k2,.bool b2,.int .i64 n2,.string t2,.string x2,.slice p2 q2.length cap2] 48):=⟨_,rfl⟩
 have S4:Six W0 W.heap.size k b n t x p q.length cap:=by rw [hW0];exact (zaj _ rfl).alloc _
 have S5:Six W0 (W.heap.size+1) k2 b2 n2 t2 x2 p2 q2.length cap2:=by rw [hW0];exact zaj _ (by simp)
 have b0:Low W.heap.size W W0:=by rw [hW0];exact low2 _ _ _
 have hc:=h lang W0 k b n t x q p cap v2 k2 b2 n2 t2 x2 q2 p2 cap2 e1 e2 (hG.below b0.is) (hT.below b0.is) hf hf2 (Held.below q hl b0.is) (Held.below q2 hl2 b0.is)
 have z0:=b0.size
 have H0:=Lib.hid hW0
 clear hl hl2 hf hf2 hG hT hW0 e1 e2 h
 generalize zdo lang v v2=r at hc ⊢
 go_enter Tryz.func108,Tryz.ntmps108
 go_wp2_with (first
  |(rw [← H0.out];(with_reducible refine zac (.tmp 4) W.heap.size S4 ?_ ?_ ?_ ?_);rfl;rfl;rfl)
  |((with_reducible refine zac (.tmp 4) W.heap.size S4 ?_ ?_ ?_ ?_);rfl;rfl;rfl)
  |((with_reducible refine zac (.tmp 5) (W.heap.size+1) S5 ?_ ?_ ?_ ?_);rfl;rfl;rfl)
  |(go_at_call 165;(with_reducible refine hc.mono ?_);rintro e w3 ⟨rfl,hb3⟩;replace b0:=zal b0 hb3 z0))
 go_ret
 exact ⟨rfl,b0⟩
theorem zpu (lang:Int) (l l2:List Val) (g off cap:Nat) (P2:Option Addr) (g2 off2 cap2:Nat) (w:World) (hG:Gd w) (hT:Tab w) (hl:zbk w g off l) (hl2:zbk w g2 off2 l2)
 (hP2:0 < l2.length→P2=some ⟨g2,off2,none⟩) (hn:l.length≤2097152) (hn2:l2.length≤2097152) (each:∀ v∈l,zos v):
 Calls Tryz.prog 107 #[.slice (some ⟨g,off,none⟩) l.length cap,.slice P2 l2.length cap2,.func (.func 108) #[.int .i64 lang] #[]] w fun e w'=>e=.returned (.int .i64 (za9 lang l l2))∧Low w.heap.size w w':=by
 have HH:=Lib.hid hl
 have HH2:=Lib.hid hl2
 have HE:=Lib.hid each
 have HP:=Lib.hid hP2
 clear hl hl2 each hP2
 go_enter Tryz.func107,Tryz.ntmps107
 go_wp2_with fail
 go_loopw [13] (fun i wr=>∃ j:Nat,j≤l.length∧i=.int .i64 j∧Low w.heap.size w wr∧Hid (za9 lang l l2=za9 lang (l.drop j) (l2.drop j))) (fun i _=>l.length - (intOf i).toNat)
 case atStart=>exact ⟨0,Nat.zero_le _,rfl,Low.refl _ _,Lib.hid (by rw [List.drop_zero,List.drop_zero])⟩
 case round=>
  obtain ⟨j,hj,rfl,hb,HA⟩:=hrel
  by_cases hlt:j < l.length
  ·obtain ⟨k,b,n,t,x,q,p,cp,o1⟩:=((zbk.at_ l off HH.out j hlt).below _ hb.is).opens
   have hs:w.heap.size≤wr.heap.size:=hb.size
   by_cases hlt2:j < l2.length
   ·obtain rfl:=HP.out (by omega)
    obtain ⟨k2,b2,n2,t2,x2,q2,p2,cp2,o2⟩:=((zbk.at_ l2 off2 HH2.out j hlt2).below _ hb.is).opens
    obtain ⟨c1,hc1⟩:∃ c1,c1=Obj.cells #[.int .i64 k,.bool b,.int .i64 n,.string t,.string x,.slice p q.length cp] 48:=⟨_,rfl⟩
    obtain ⟨c2,hc2⟩:∃ c2,c2=Obj.cells #[.int .i64 k2,.bool b2,.int .i64 n2,.string t2,.string x2,.slice p2 q2.length cp2] 48:=⟨_,rfl⟩
    have bb:=low2 wr c1 c2
    have b0:Low w.heap.size w ((wr.alloc c1).alloc c2):=(hb.alloc hs _).alloc (by simp;omega) _
    have hc:=z0g (HE.out l[j] (List.getElem_mem hlt)) lang ((wr.alloc c1).alloc c2) k b n t x q p cp l2[j] k2 b2 n2 t2 x2 q2 p2 cp2 o1.e o2.e (hG.below b0.is) (hT.below b0.is) o1.hf o2.hf (Held.below q o1.hl bb.is) (Held.below q2 o2.hl bb.is)
    obtain ⟨r,hr⟩:∃ r,r=zdo lang l[j] l2[j]:=⟨_,rfl⟩
    rw [← hr] at hc
    have hA:=HA.out
    rw [zl4 lang l l2 j hlt hlt2,← hr] at hA
    have l0:Six ((wr.alloc c1).alloc c2) wr.heap.size k b n t x p q.length cp:=by rw [hc1];exact (zaj _ rfl).alloc _
    have l1:Six ((wr.alloc c1).alloc c2) (wr.heap.size+1) k2 b2 n2 t2 x2 p2 q2.length cp2:=by rw [hc2];exact zaj _ (by simp)
    have z0:w.heap.size≤((wr.alloc c1).alloc c2).heap.size:=b0.size
    have O1:=Lib.hid o1
    have O2:=Lib.hid (o2.below (low1 wr c1).is)
    clear o1 o2 bb hr HA
    by_cases hr0:r=0
    ·subst hr0
     rw [zco] at hA
     have HA:=Lib.hid hA
     clear hA
     subst hc1 hc2
     go_wp2_with (first
      |((with_reducible refine zaz (.tmp 16) g (off+j*6) k b n t x (.slice p q.length cp) O1.out.c0 O1.out.c1 O1.out.c2 O1.out.c3 O1.out.c4 O1.out.c5 ?_ ?_ ?_ ?_);rfl;rfl;rfl)
      |((with_reducible refine zaz (.tmp 24) g2 (off2+j*6) k2 b2 n2 t2 x2 (.slice p2 q2.length cp2) O2.out.c0 O2.out.c1 O2.out.c2 O2.out.c3 O2.out.c4 O2.out.c5 ?_ ?_ ?_ ?_);rfl;rfl;rfl)
      |((with_reducible refine zac (.tmp 8) wr.heap.size l0 ?_ ?_ ?_ ?_);rfl;rfl;rfl)
      |((with_reducible refine zac (.tmp 9) (wr.heap.size+1) l1 ?_ ?_ ?_ ?_);rfl;rfl;rfl)
      |(go_at_call 108;(with_reducible refine hc.mono ?_);rintro e w3 ⟨rfl,hb3⟩;have b3:=zal b0 hb3 z0))
     go_roundw
     case rel=>exact ⟨j+1,by omega,by go_num,b3,HA⟩
     case measure=>simp [intOf];omega
    ·have e:lexI r (za9 lang (l.drop (j+1)) (l2.drop (j+1)))=r:=by unfold lexI;rw [if_neg hr0]
     rw [e] at hA
     have HA:=Lib.hid hA
     have e2:(r != 0)=true:=by simpa using hr0
     clear hA e
     subst hc1 hc2
     go_wp2_with (first
      |((with_reducible refine zaz (.tmp 16) g (off+j*6) k b n t x (.slice p q.length cp) O1.out.c0 O1.out.c1 O1.out.c2 O1.out.c3 O1.out.c4 O1.out.c5 ?_ ?_ ?_ ?_);rfl;rfl;rfl)
      |((with_reducible refine zaz (.tmp 24) g2 (off2+j*6) k2 b2 n2 t2 x2 (.slice p2 q2.length cp2) O2.out.c0 O2.out.c1 O2.out.c2 O2.out.c3 O2.out.c4 O2.out.c5 ?_ ?_ ?_ ?_);rfl;rfl;rfl)
      |((with_reducible refine zac (.tmp 8) wr.heap.size l0 ?_ ?_ ?_ ?_);rfl;rfl;rfl)
      |((with_reducible refine zac (.tmp 9) (wr.heap.size+1) l1 ?_ ?_ ?_ ?_);rfl;rfl;rfl)
      |(go_at_call 108;(with_reducible refine hc.mono ?_);rintro e w3 ⟨rfl,hb3⟩;have b3:=zal b0 hb3 z0))
     go_ret
     exact ⟨by rw [HA.out];rfl,b3⟩
   ·have hA:=HA.out
    rw [zl5 lang l l2 j hlt (by omega)] at hA
    have HA2:=Lib.hid hA
    have O1:=Lib.hid o1
    have b0:Low w.heap.size w (wr.alloc (.cells #[.int .i64 k,.bool b,.int .i64 n,.string t,.string x,.slice p q.length cp] 48)):=hb.alloc hs _
    clear hA HA o1
    go_wp2_with (first
     |((with_reducible refine zaz (.tmp 16) g (off+j*6) k b n t x (.slice p q.length cp) O1.out.c0 O1.out.c1 O1.out.c2 O1.out.c3 O1.out.c4 O1.out.c5 ?_ ?_ ?_ ?_);rfl;rfl;rfl))
    go_ret
    exact ⟨by rw [HA2.out];rfl,b0⟩
  ·obtain rfl:j=l.length:=by omega
   have hA:=HA.out
   by_cases hs:l.length < l2.length
   ·rw [zja lang l l2 hs] at hA
    have HA2:=Lib.hid hA
    clear hA HA
    go_wp2_with fail
    go_ret
    exact ⟨by rw [HA2.out];rfl,hb⟩
   ·rw [zog lang l l2 (by omega)] at hA
    have HA2:=Lib.hid hA
    clear hA HA
    go_wp2_with fail
    go_ret
    exact ⟨by rw [HA2.out];rfl,hb⟩
theorem zim {w:World} {P:Nat→Prop} {g:Nat}:{xs:List Value}→(l:List Val)→(off:Nat)→RowE valE w P xs l→w.rangeAt g off xs→zbk w g off l
 | _,[],off,_,_=>by unfold zbk;trivial
 | _,v::r,off,h,hr=>by
   unfold RowE at h
   obtain ⟨c,ys,rfl,hc,hy⟩:=h
   obtain ⟨k,b,n,t,x,q⟩:=v
   obtain ⟨L,rfl,hf,hq⟩:=hc
   unfold zbk za7
   have hd:∀ (j:Nat) u,([Value.int .i64 k,.bool b,.int .i64 n,.string t,.string x,L]++ys)[j]?=some u→w.cell? ⟨g,off+j,none⟩=some u:=fun j u hu=>hr j u hu
   refine ⟨⟨hd 0 _ rfl,hd 1 _ rfl,hd 2 _ rfl,hd 3 _ rfl,hd 4 _ rfl,hf,L,hd 5 _ rfl,zbb.held q hq⟩,zim r (off+6) hy fun j u hu=>?_⟩
   have:=hr (j+6) u (by simpa using hu)
   rw [show off+6+j=off+(j+6) by omega]
   exact this
theorem z2x (lang:Int) (l l2:List Val) (V V2:Value) (P P2:Nat→Prop) (w:World) (hG:Gd w) (hT:Tab w) (h:zag valE w P V l) (h2:zag valE w P2 V2 l2) (hn:l.length≤2097152) (hn2:l2.length≤2097152):
 Calls Tryz.prog 107 #[V,V2,.func (.func 108) #[.int .i64 lang] #[]] w fun e w'=>e=.returned (.int .i64 (za9 lang l l2))∧Low w.heap.size w w':=by
 obtain ⟨p,cap,rfl,h⟩:=h
 obtain ⟨p2,cap2,rfl,h2⟩:=h2
 by_cases e:l=[]
 ·subst e
  exact zps lang p p2 l2 cap cap2 _ w
 ·obtain ⟨g,off,xs,rfl,_,hr,he⟩:=h e
  by_cases e2:l2=[]
  ·subst e2
   exact zpu lang l [] g off cap p2 0 0 cap2 w hG hT (zim l off he hr) (by unfold zbk;trivial) (fun h=>absurd h (by simp)) hn (by simp) (fun v _=>z0e v)
  ·obtain ⟨g2,off2,xs2,rfl,_,hr2,he2⟩:=h2 e2
   exact zpu lang l l2 g off cap _ g2 off2 cap2 w hG hT (zim l off he hr) (zim l2 off2 he2 hr2) (fun _=>rfl) hn hn2 (fun v _=>z0e v)
theorem z0h (lang:Int) (l l2:List Val) (V V2:Value) (P P2:Nat→Prop) (w:World) (hG:Gd w) (hT:Tab w) (h:zag valE w P V l) (h2:zag valE w P2 V2 l2) (hn:l.length≤2097152) (hn2:l2.length≤2097152):
 Calls Tryz.prog 67 #[.int .i64 lang,V,V2] w fun e w'=>e=.returned (.int .i64 (za9 lang l l2))∧Low w.heap.size w w':=by
 have HC:=Lib.hid (z2x lang l l2 V V2 P P2 w hG hT h h2 hn hn2)
 obtain ⟨p,cap,rfl,h⟩:=h
 obtain ⟨p2,cap2,rfl,h2⟩:=h2
 generalize za9 lang l l2=r at*
 clear h h2
 go_enter Tryz.func67,Tryz.ntmps67
 go_wp2_with (first |(go_at_call 107;(with_reducible refine HC.out.mono ?_);rintro e w1 ⟨rfl,hb⟩))
 go_ret
 exact ⟨rfl,hb⟩
theorem z0i (lang:Int) (l l2:List Val) (V V2:Value) (P P2:Nat→Prop) (w:World) (hG:Gd w) (hT:Tab w) (h:zag valE w P V l) (h2:zag valE w P2 V2 l2) (hn:l.length≤2097152) (hn2:l2.length≤2097152):
 Calls Tryz.prog 32 #[.int .i64 lang,V,V2] w fun e w'=>e=.returned (.int .i64 (za9 lang l l2))∧Low w.heap.size w w':=by
 have HC:=Lib.hid (z0h lang l l2 V V2 P P2 w hG hT h h2 hn hn2)
 obtain ⟨p,cap,rfl,h⟩:=h
 obtain ⟨p2,cap2,rfl,h2⟩:=h2
 generalize za9 lang l l2=r at*
 clear h h2
 go_enter Tryz.func32,Tryz.ntmps32
 go_wp2_with (first |(go_at_call 67;(with_reducible refine HC.out.mono ?_);rintro e w1 ⟨rfl,hb⟩))
 go_ret
 exact ⟨rfl,hb⟩
theorem z2y (V U:Value) (ts us:List ByteArray) (P Q:Nat→Prop) (W:World) (h1:zag za1 W P V ts) (h2:zag za1 W Q U us) (hP:∀ g,P g→g < W.heap.size) (hQ:∀ g,Q g→g < W.heap.size) (hn:ts.length≤2097152) (hm:us.length≤2097152):Calls Tryz.prog 50 #[V,U] W fun e w'=>e=.returned (.bool (decide (ts=us)))∧Below W.heap.size W w':=by
 by_cases heq:ts.length=us.length
 ·obtain ⟨p1,c1,rfl⟩:=h1.slice
  obtain ⟨p2,c2,rfl⟩:=h2.slice
  obtain ⟨r,hr⟩:∃ r,r=decide (ts=us):=⟨_,rfl⟩
  obtain ⟨n,hl⟩:∃ n,n=ts.length:=⟨_,rfl⟩
  rw [← heq,← hl,← hr]
  rw [← hl] at hn
  have HE:=Lib.hid heq
  have HR:=Lib.hid hr
  have H1:=Lib.hid h1
  have H2:=Lib.hid h2
  have HL:=Lib.hid hl
  clear h1 h2 hl hP hQ heq hr hm
  go_enter Tryz.func50,Tryz.ntmps50
  go_wp2_with fail
  go_loopg [5] n (fun gg s5 wr=>∃ j:Nat,j+gg=n∧s5=.int .i64 j∧Hid (ts.take j=us.take j)∧Hid (Below W.heap.size W wr))
  case atStart=>exact ⟨0,by omega,rfl,Lib.hid (by simp),Lib.hid (Below.refl _ _)⟩
  case round=>
   obtain ⟨j,hjg,rfl,HT,HB⟩:=hrel
   by_cases hj:(j:Int) < n
   ·have hj1:j < ts.length:=by have:=HL.out;omega
    have hj2:j < us.length:=by have:=HE.out;omega
    obtain ⟨g1,o1,cc1,d1,e1,hg1,hr1,hra1⟩:=H1.out.at_ j hj1
    obtain ⟨g2,o2,cc2,d2,e2,hg2,hr2,hra2⟩:=H2.out.at_ j hj2
    injection e1 with e11 e12 e13
    injection e2 with e21 e22 e23
    subst e11 e21
    obtain ⟨rfl,_⟩:=hr1
    obtain ⟨rfl,_⟩:=hr2
    obtain ⟨x,hx⟩:∃ x,x=ts[j]:=⟨_,rfl⟩
    obtain ⟨y,hy⟩:∃ y,y=us[j]:=⟨_,rfl⟩
    have k1:wr.cell? ⟨g1,o1+j,none⟩=some (.string x):=by
     have h:=hra1 0 _ rfl
     rw [hx]
     exact zav (by simpa [za1] using h) HB.out
    have k2:wr.cell? ⟨g2,o2+j,none⟩=some (.string y):=by
     have h:=hra2 0 _ rfl
     rw [hy]
     exact zav (by simpa [za1] using h) HB.out
    have HNE:Hid (¬ x=y→r=false):=Lib.hid fun q=>by
     rw [HR.out]
     refine decide_eq_false fun e=>q ?_
     rw [hx,hy]
     exact List.getElem_of_eq e hj1
    have HNX:Hid (x=y→ts.take (j+1)=us.take (j+1)):=Lib.hid fun q=>by
     rw [List.take_succ_eq_append_getElem hj1,List.take_succ_eq_append_getElem hj2,HT.out,← hx,← hy,q]
    clear hra1 hra2 hx hy hg1 hg2 e12 e13 e22 e23
    by_cases q:x=y
    ·subst q
     have HT2:=Lib.hid (HNX.out rfl)
     clear HNE HNX
     go_upto_region 6 with fail
     go_quiet (fail)
     have HB2:=Lib.hid (HB.out.trans (zcu (Below.refl _ wr) nq |>.mono HB.out.size))
     clear k1 k2 HB
     generalize wr.drewN nq=w9 at*
     go_wp2_with fail
     go_roundg (gk - 1)
     case measure=>omega
     case rel=>exact ⟨j+1,by omega,by go_num,HT2,HB2⟩
    ·have q2:(x.toList == y.toList)=false:=zp9 q
     have q3:(x.toList != y.toList)=true:=congrArg not q2
     obtain rfl:r=false:=HNE.out q
     clear HNE HNX q
     go_upto_region 6 with fail
     go_quiet (fail)
     have HB2:=Lib.hid (HB.out.trans (zcu (Below.refl _ wr) nq |>.mono HB.out.size))
     clear k1 k2 HB
     generalize wr.drewN nq=w9 at*
     go_wp2_with fail
     go_ret
     exact ⟨rfl,HB2.out⟩
   ·have HZ:Hid (r=true):=Lib.hid (by
     rw [HR.out]
     refine decide_eq_true ?_
     have h:=HT.out
     rwa [List.take_of_length_le (by have:=HL.out;omega),List.take_of_length_le (by have:=HL.out;have:=HE.out;omega)] at h)
    go_wp2_with fail
    go_ret
    exact ⟨by rw [HZ.out];rfl,HB.out⟩
 ·have hne:decide (ts=us)=false:=decide_eq_false fun e=>heq (by rw [e])
  rw [hne]
  obtain ⟨p1,c1,rfl⟩:=h1.slice
  obtain ⟨p2,c2,rfl⟩:=h2.slice
  have q1:((ts.length:Int) == us.length)=false:=by rw [beq_eq_false_iff_ne];omega
  have q2:((ts.length:Int) != us.length)=true:=congrArg not q1
  clear h1 h2 hP hQ hne
  generalize ts.length=n1 at*
  generalize us.length=n2 at*
  go_enter Tryz.func50,Tryz.ntmps50
  go_wp2_with fail
  go_ret
  exact ⟨rfl,Below.refl _ _⟩
def zpv (x y:List Val):Bool:=(x.length == y.length) && zbm x y
theorem zl8 (x y:List Val):zpv x y=true↔x=y:=by
 unfold zpv
 rw [Bool.and_eq_true,beq_iff_eq]
 constructor
 ·rintro ⟨h1,h2⟩
  exact zfn x y h1 h2
 ·rintro rfl
  exact ⟨rfl,zfj x⟩
def zek:List (List Val)→List (List Val)→Bool
 | [],[]=>true
 | x::l,y::m=>zpv x y && zek l m
 | _,_=>false
theorem zel:(l m:List (List Val))→(zek l m=true↔l=m)
 | [],[]=>by simp [zek]
 | x::l,y::m=>by
   unfold zek
   rw [Bool.and_eq_true,zl8,zel l m,List.cons.injEq]
 | [],y::m=>by simp [zek]
 | x::l,[]=>by simp [zek]
theorem eqRowG (l m:List Val) (V U:Value) (P Q:Nat→Prop) (W:World) (h1:zag valE W P V l) (h2:zag valE W Q U m) (hn:l.length≤2097152):Calls Tryz.prog 60 #[V,U] W fun e w'=>e=.returned (.bool (zpv l m))∧Below W.heap.size W w':=by
 have k1:=zbb.held l (zbs l h1)
 have k2:=zbb.held m (zbs m h2)
 obtain ⟨p1,c1,rfl⟩:=h1.slice
 obtain ⟨p2,c2,rfl⟩:=h2.slice
 exact zz0 l m p1 p2 c1 c2 W k1 k2 hn (zwx l)
theorem zsm (lang:Int) (l m:List Val) (V U:Value) (P Q:Nat→Prop) (W:World) (h1:zag valE W P V l) (h2:zag valE W Q U m) (hn:l.length≤2097152) (hm:m.length≤2097152):Calls Tryz.prog 33 #[.int .i64 lang,V,U] W fun e w'=>e=.returned (.int .i64 (za9 lang l m))∧Below W.heap.size W w':=by
 have k1:=zbb.held l (zbs l h1)
 have k2:=zbb.held m (zbs m h2)
 obtain ⟨p1,c1,rfl⟩:=h1.slice
 obtain ⟨p2,c2,rfl⟩:=h2.slice
 have HC:=Lib.hid (z4c lang l m p1 p2 c1 c2 W k1 k2 hn hm (zl7 l))
 clear k1 k2 h1 h2
 generalize za9 lang l m=z at*
 go_enter Tryz.func33,Tryz.ntmps33
 go_wp2_with (first |(go_at_call 84;(with_reducible refine HC.out.mono ?_);rintro e w1 ⟨rfl,hb⟩))
 go_ret
 exact ⟨rfl,hb⟩
theorem eqRowsG (V U:Value) (l m:List (List Val)) (W:World) (h1:zag rowE W (Old W) V l) (h2:zag rowE W (Old W) U m) (hn:l.length≤2097152):Calls Tryz.prog 82 #[V,U] W fun e w'=>e=.returned (.bool (zek l m))∧Below W.heap.size W w':=by
 by_cases heq:l.length=m.length
 ·obtain ⟨p1,c1,rfl⟩:=h1.slice
  obtain ⟨p2,c2,rfl⟩:=h2.slice
  obtain ⟨r,hr⟩:∃ r,r=zek l m:=⟨_,rfl⟩
  obtain ⟨n,hl⟩:∃ n,n=l.length:=⟨_,rfl⟩
  rw [← heq,← hl,← hr]
  rw [← hl] at hn
  have HE:=Lib.hid heq
  have HR:=Lib.hid hr
  have H1:=Lib.hid h1
  have H2:=Lib.hid h2
  have HL:=Lib.hid hl
  clear h1 h2 hl heq hr
  go_enter Tryz.func82,Tryz.ntmps82
  go_wp2_with fail
  go_loopg [5] n (fun gg s5 wr=>∃ j:Nat,j+gg=n∧s5=.int .i64 j∧Hid (l.take j=m.take j)∧Hid (Below W.heap.size W wr))
  case atStart=>exact ⟨0,by omega,rfl,Lib.hid (by simp),Lib.hid (Below.refl _ _)⟩
  case round=>
   obtain ⟨j,hjg,rfl,HT,HB⟩:=hrel
   by_cases hj:(j:Int) < n
   ·have hj1:j < l.length:=by have:=HL.out;omega
    have hj2:j < m.length:=by have:=HE.out;omega
    obtain ⟨g1,o1,cc1,d1,e1,hg1,hr1,hra1⟩:=(H1.out.stays (zae HB.out)).at_ j hj1
    obtain ⟨g2,o2,cc2,d2,e2,hg2,hr2,hra2⟩:=(H2.out.stays (zae HB.out)).at_ j hj2
    injection e1 with e11 e12 e13
    injection e2 with e21 e22 e23
    subst e11 e21
    obtain ⟨x,hx⟩:∃ x,x=l[j]:=⟨_,rfl⟩
    obtain ⟨y,hy⟩:∃ y,y=m[j]:=⟨_,rfl⟩
    rw [← hx] at hr1
    rw [← hy] at hr2
    obtain ⟨u1,rfl,hu1,_,hlu⟩:=hr1
    obtain ⟨u2,rfl,hu2,_,_⟩:=hr2
    have k1:wr.cell? ⟨g1,o1+j,none⟩=some u1:=by
     have h:=hra1 0 _ rfl
     simpa [rowE] using h
    have k2:wr.cell? ⟨g2,o2+j,none⟩=some u2:=by
     have h:=hra2 0 _ rfl
     simpa [rowE] using h
    obtain ⟨q1,f1,rfl⟩:=hu1.slice
    obtain ⟨q2,f2,rfl⟩:=hu2.slice
    have HC0:Hid (∀ w',Below wr.heap.size wr w'→Calls Tryz.prog 60 #[.slice q1 x.length f1,.slice q2 y.length f2] w' fun e w2=>e=.returned (.bool (zpv x y))∧Below w'.heap.size w' w2):=Lib.hid fun w' b=>eqRowG x y _ _ _ _ w' (hu1.stays (zae b)) (hu2.stays (zae b)) hlu
    obtain ⟨s,hs⟩:∃ s,s=zpv x y:=⟨_,rfl⟩
    rw [← hs] at HC0
    have HNE:Hid (s=false→r=false):=Lib.hid fun q=>by
     rw [HR.out,Bool.eq_false_iff]
     intro e
     have e2:=(zel l m).1 e
     have e3:x=y:=by rw [hx,hy];exact List.getElem_of_eq e2 hj1
     rw [hs,(zl8 x y).2 e3] at q
     cases q
    have HNX:Hid (s=true→l.take (j+1)=m.take (j+1)):=Lib.hid fun q=>by
     rw [List.take_succ_eq_append_getElem hj1,List.take_succ_eq_append_getElem hj2,HT.out,← hx,← hy,(zl8 x y).1 (hs ▸ q)]
    have HC:=HC0
    clear hra1 hra2 hx hy hg1 hg2 e12 e13 e22 e23 hu1 hu2 hs HC0
    have hB:=HB.out
    clear HB
    cases s with
    | true=>
      have HT2:=Lib.hid (HNX.out rfl)
      clear HNE HNX
      go_upto_region 6 with fail
      refine wp_region_held_drew (S:=fun W'=>W'.cell? ⟨g1,o1+j,none⟩=some (.slice q1 x.length f1)∧W'.cell? ⟨g2,o2+j,none⟩=some (.slice q2 y.length f2)) (by kernel_rfl) ⟨k1,k2⟩ (fun hh=>?_)
      have hh1:=hh.1
      have hh2:=hh.2
      clear hh k1 k2
      replace hB:=hB.drew
      have bq:Below wr.heap.size wr wr.drew:=(Below.refl _ _).drew
      generalize wr.drew=wD at*
      refine tg (i:=0) (.slice (some ⟨g1,o1,none⟩) n c1) rfl (⟨hh1,hh2⟩) ?_
      refine tg (i:=1) (.int .i64 (j:Int)) rfl (⟨hh1,hh2⟩) ?_
      refine tg (i:=4) (.slice (some ⟨g2,o2,none⟩) n c2) rfl (⟨hh1,hh2⟩) ?_
      refine tg (i:=5) (.int .i64 (j:Int)) rfl (⟨hh1,hh2⟩) ?_
      refine tg (i:=2) (.pointer (some ⟨g1,o1+j,none⟩)) rfl (⟨hh1,hh2⟩) ?_
      refine tg (i:=6) (.pointer (some ⟨g2,o2+j,none⟩)) rfl (⟨hh1,hh2⟩) ?_
      refine tk (i:=3) (v:=.slice q1 x.length f1) rfl (Or.inl ⟨by rfl,fun W' h=>by have c0:=h.1;go_simp⟩) (⟨hh1,hh2⟩) ?_
      refine tk (i:=7) (v:=.slice q2 y.length f2) rfl (Or.inl ⟨by rfl,fun W' h=>by have c0:=h.2;go_simp⟩) (⟨hh1,hh2⟩) ?_
      refine tr 8 rfl (fun K hK=>?_)
      try rw [if_pos (by rfl)]
      go_simp
      refine (HC.out _ bq).mono ?_
      rintro e0 w8 ⟨rfl,hb8⟩
      replace hh1:=zav hh1 hb8
      replace hh2:=zav hh2 hb8
      have hB8:=hB.trans (hb8.mono hB.size)
      refine hK.out _ _ (⟨hh1,hh2⟩) (fun _=>?_)
      clear hK K
      try simp only [putS]
      refine tg (i:=9) (.bool false) rfl (⟨hh1,hh2⟩) ?_
      refine wpAnyH_done (by kernel_rfl) ?_ _
      have HB8:=Lib.hid hB8
      clear hB hB8 bq hh1 hh2 HC hb8
      go_wp2_with fail
      go_roundg (gk - 1)
      case measure=>omega
      case rel=>exact ⟨j+1,by omega,by go_num,HT2,HB8⟩
    | false=>
      obtain rfl:r=false:=HNE.out rfl
      clear HNE HNX
      go_upto_region 6 with fail
      refine wp_region_held_drew (S:=fun W'=>W'.cell? ⟨g1,o1+j,none⟩=some (.slice q1 x.length f1)∧W'.cell? ⟨g2,o2+j,none⟩=some (.slice q2 y.length f2)) (by kernel_rfl) ⟨k1,k2⟩ (fun hh=>?_)
      have hh1:=hh.1
      have hh2:=hh.2
      clear hh k1 k2
      replace hB:=hB.drew
      have bq:Below wr.heap.size wr wr.drew:=(Below.refl _ _).drew
      generalize wr.drew=wD at*
      refine tg (i:=0) (.slice (some ⟨g1,o1,none⟩) n c1) rfl (⟨hh1,hh2⟩) ?_
      refine tg (i:=1) (.int .i64 (j:Int)) rfl (⟨hh1,hh2⟩) ?_
      refine tg (i:=4) (.slice (some ⟨g2,o2,none⟩) n c2) rfl (⟨hh1,hh2⟩) ?_
      refine tg (i:=5) (.int .i64 (j:Int)) rfl (⟨hh1,hh2⟩) ?_
      refine tg (i:=2) (.pointer (some ⟨g1,o1+j,none⟩)) rfl (⟨hh1,hh2⟩) ?_
      refine tg (i:=6) (.pointer (some ⟨g2,o2+j,none⟩)) rfl (⟨hh1,hh2⟩) ?_
      refine tk (i:=3) (v:=.slice q1 x.length f1) rfl (Or.inl ⟨by rfl,fun W' h=>by have c0:=h.1;go_simp⟩) (⟨hh1,hh2⟩) ?_
      refine tk (i:=7) (v:=.slice q2 y.length f2) rfl (Or.inl ⟨by rfl,fun W' h=>by have c0:=h.2;go_simp⟩) (⟨hh1,hh2⟩) ?_
      refine tr 8 rfl (fun K hK=>?_)
      try rw [if_pos (by rfl)]
      go_simp
      refine (HC.out _ bq).mono ?_
      rintro e0 w8 ⟨rfl,hb8⟩
      replace hh1:=zav hh1 hb8
      replace hh2:=zav hh2 hb8
      have hB8:=hB.trans (hb8.mono hB.size)
      refine hK.out _ _ (⟨hh1,hh2⟩) (fun _=>?_)
      clear hK K
      try simp only [putS]
      refine tg (i:=9) (.bool true) rfl (⟨hh1,hh2⟩) ?_
      refine wpAnyH_done (by kernel_rfl) ?_ _
      go_wp2_with fail
      go_ret
      exact ⟨rfl,hB8⟩
   ·have HZ:Hid (r=true):=Lib.hid (by
     rw [HR.out,zel]
     have h:=HT.out
     rwa [List.take_of_length_le (by have:=HL.out;omega),List.take_of_length_le (by have:=HL.out;have:=HE.out;omega)] at h)
    go_wp2_with fail
    go_ret
    exact ⟨by rw [HZ.out];rfl,HB.out⟩
 ·have hne:zek l m=false:=by
   rw [Bool.eq_false_iff]
   intro e
   exact heq (by rw [(zel l m).1 e])
  rw [hne]
  obtain ⟨p1,c1,rfl⟩:=h1.slice
  obtain ⟨p2,c2,rfl⟩:=h2.slice
  have q1:((l.length:Int) == m.length)=false:=by rw [beq_eq_false_iff_ne];omega
  have q2:((l.length:Int) != m.length)=true:=congrArg not q1
  clear h1 h2 hne
  generalize l.length=n1 at*
  generalize m.length=n2 at*
  go_enter Tryz.func82,Tryz.ntmps82
  go_wp2_with fail
  go_ret
  exact ⟨rfl,Below.refl _ _⟩
def posR (lang:Int) (x:List Val) (out:List (List Val)):Nat→Nat
 | 0=>0
 | k+1=>if 0 < za9 lang (out.getD k []) x then posR lang x out k else k+1
def insR (lang:Int) (out:List (List Val)) (x:List Val):List (List Val):=out.take (posR lang x out out.length)++x::out.drop (posR lang x out out.length)
def zd7 (lang:Int) (l:List (List Val)):List (List Val):=l.foldl (insR lang) []
theorem zw1 (lang:Int) (l:List (List Val)) (x:List Val):zd7 lang (l++[x])=insR lang (zd7 lang l) x:=by
 unfold zd7
 rw [List.foldl_append]
 rfl
theorem z0j (lang:Int) (x:List Val) (out:List (List Val)):(k:Nat)→posR lang x out k≤k
 | 0=>Nat.le_refl _
 | k+1=>by
   unfold posR
   split
   ·exact Nat.le_trans (z0j lang x out k) (by omega)
   ·exact Nat.le_refl _
theorem zpw (lang:Int) (x:List Val) (out:List (List Val)):(k:Nat)→∀ j,posR lang x out k≤j→j < k→0 < za9 lang (out.getD j []) x
 | 0,j,_,h=>absurd h (by omega)
 | k+1,j,h,hj=>by
   unfold posR at h
   split at h
   ·rename_i q
    by_cases e:j=k
    ·subst e
     exact q
    ·exact zpw lang x out k j h (by omega)
   ·omega
theorem z0k (lang:Int) (x:List Val) (out:List (List Val)):(k:Nat)→∀ j,posR lang x out k=j+1→za9 lang (out.getD j []) x≤0
 | 0,j,h=>by simp [posR] at h
 | k+1,j,h=>by
   unfold posR at h
   split at h
   ·exact z0k lang x out k j h
   ·rename_i q
    have:k=j:=by omega
    subst this
    omega
theorem z0l (lang:Int) (out:List (List Val)) (x:List Val):(insR lang out x).Perm (x::out):=by
 unfold insR
 refine List.perm_middle.trans ?_
 rw [List.take_append_drop]
theorem zin (lang:Int):(l out:List (List Val))→(l.foldl (insR lang) out).Perm (out++l)
 | [],out=>by simp
 | x::r,out=>by
   rw [List.foldl_cons]
   refine (zin lang r (insR lang out x)).trans ?_
   refine ((z0l lang out x).append_right r).trans ?_
   exact (List.perm_middle (a:=x) (l₁:=out) (l₂:=r)).symm
theorem zle {lang:Int} {x y z:List Val} (h1:za9 lang x y≤0) (h2:za9 lang y z≤0):za9 lang x z≤0:=by
 exact (zn2 lang x y z).le h1 h2
theorem zty {lang:Int} {out:List (List Val)} {x:List Val} (h:out.Pairwise fun a b=>za9 lang a b≤0):(insR lang out x).Pairwise fun a b=>za9 lang a b≤0:=by
 obtain ⟨p,hp⟩:∃ p,p=posR lang x out out.length:=⟨_,rfl⟩
 have hle:p≤out.length:=by rw [hp];exact z0j _ _ _ _
 have habove:∀ j (hj:j < out.length),p≤j→za9 lang x out[j]≤0:=fun j hj h1=>by
  have:=zpw lang x out out.length j (hp ▸ h1) hj
  rw [List.getD_eq_getElem?_getD,List.getElem?_eq_getElem hj] at this
  have e:=zk0 lang out[j] x
  have t:0 < za9 lang out[j] x:=this
  omega
 have hbelow:∀ a∈out.take p,za9 lang a x≤0:=fun a ha=>by
  obtain ⟨i,hi,rfl⟩:=List.getElem_of_mem ha
  rw [List.length_take] at hi
  have hi2:i < p:=by omega
  obtain ⟨q,rfl⟩:∃ q,p=q+1:=⟨p - 1,by omega⟩
  have hq:q < out.length:=by omega
  have hl:=z0k lang x out out.length q hp.symm
  rw [List.getD_eq_getElem?_getD,List.getElem?_eq_getElem hq] at hl
  have hl2:za9 lang out[q] x≤0:=hl
  rw [List.getElem_take]
  by_cases e:i=q
  ·subst e
   exact hl2
  ·exact zle (List.pairwise_iff_getElem.1 h i q (by omega) hq (by omega)) hl2
 unfold insR
 rw [← hp,List.pairwise_append]
 refine ⟨h.sublist (List.take_sublist _ _),List.pairwise_cons.2 ⟨fun b hb=>?_,h.sublist (List.drop_sublist _ _)⟩,fun a ha b hb=>?_⟩
 ·obtain ⟨i,hi,rfl⟩:=List.getElem_of_mem hb
  rw [List.length_drop] at hi
  rw [List.getElem_drop]
  exact habove _ (by omega) (by omega)
 ·rcases List.mem_cons.1 hb with rfl | hb
  ·exact hbelow a ha
  ·obtain ⟨i,hi,rfl⟩:=List.getElem_of_mem hb
   rw [List.length_drop] at hi
   rw [List.getElem_drop]
   exact zle (hbelow a ha) (habove _ (by omega) (by omega))
theorem zic (lang:Int):(l out:List (List Val))→(out.Pairwise fun a b=>za9 lang a b≤0)→((l.foldl (insR lang) out).Pairwise fun a b=>za9 lang a b≤0)
 | [],_,h=>h
 | x::r,out,h=>by
   rw [List.foldl_cons]
   exact zic lang r _ (zty h)
theorem zsn {lang:Int} {x y:List Val} (hx:∀ v∈x,mayP v 0=true) (hy:∀ v∈y,mayP v 0=true) (h1:za9 lang x y≤0) (h2:za9 lang y x≤0):x=y:=by
 have e:=zk0 lang x y
 have h0:za9 lang x y=0:=by omega
 obtain ⟨h3,h4⟩:=zn3 lang x y 0 0 (zfo x hx) (zfo y hy) h0
 exact zfn x y h3 h4
theorem z0m {lang:Int} {a b:List (List Val)} (ha:∀ r∈a,∀ v∈r,mayP v 0=true) (hb:∀ r∈b,∀ v∈r,mayP v 0=true):zd7 lang a=zd7 lang b↔a.Perm b:=by
 have pa:(zd7 lang a).Perm a:=zin lang a []
 have pb:(zd7 lang b).Perm b:=zin lang b []
 constructor
 ·intro h
  exact pa.symm.trans (h ▸ pb)
 ·intro h
  refine List.Perm.eq_of_pairwise (le:=fun x y=>za9 lang x y≤0) (fun x y hx hy h1 h2=>?_) (zic lang a [] List.Pairwise.nil) (zic lang b [] List.Pairwise.nil) (pa.trans (h.trans pb.symm))
  exact zsn (ha x (pa.mem_iff.1 hx)) (hb y (pb.mem_iff.1 hy)) h1 h2
theorem zoj {α β:Type} (f:α→β):(a b:List α)→(∀ x∈a,∀ y∈b,f x=f y→x=y)→(a.map f).Perm (b.map f)→a.Perm b
 | [],b,_,h=>by
   have:b.map f=[]:=by simpa using h.symm.eq_nil
   rw [List.map_eq_nil_iff.1 this]
 | x::r,b,hi,h=>by
   have hm:f x∈b.map f:=h.mem_iff.1 (by simp)
   obtain ⟨y,hy,e⟩:=List.mem_map.1 hm
   have e2:=hi x (by simp) y hy e.symm
   subst e2
   obtain ⟨s,t,rfl⟩:=List.append_of_mem hy
   have h2:(r.map f).Perm ((s++t).map f):=by
    rw [List.map_cons,List.map_append,List.map_cons] at h
    rw [List.map_append]
    exact (h.trans List.perm_middle).cons_inv
   refine ((zoj f r (s++t) (fun u hu w hw e=>hi u (by simp [hu]) w (by
    rcases List.mem_append.1 hw with q | q
    ·simp [q]
    ·simp [q]) e) h2).cons x).trans List.perm_middle.symm
theorem z0n {a b:TabL} (ha:tabP a=true) (hb:tabP b=true) (hv:a.vars=b.vars) (fa:∀ r∈a.rows,zct r) (fb:∀ r∈b.rows,zct r):zek (zd7 0 a.rows) (zd7 0 b.rows)=zd9 a b:=by
 have e:zd9 a b=decide ((a.rows.map zar).Perm (b.rows.map zar)):=by
  unfold zd9
  rw [ha,hb,decide_eq_true hv]
  rfl
 rw [e,Bool.eq_iff_iff,zel,z0m (zb5 ha).2 (zb5 hb).2,decide_eq_true_iff]
 constructor
 ·intro h
  exact h.map zar
 ·intro h
  refine zoj zar _ _ (fun x hx y hy q=>?_) h
  exact zpm x y (by rw [(zb5 ha).1 x hx,(zb5 hb).1 y hy,hv]) (fa x hx) (fb y hy) (zfo x ((zb5 ha).2 x hx)) (zfo y ((zb5 hb).2 y hy)) q
theorem RowE.drop {α:Type} {E:Elem α} {w:World} {P:Nat→Prop}:(l:List α)→(xs:List Value)→(i:Nat)→i≤l.length→RowE E w P xs l→RowE E w P (xs.drop (i*E.k)) (l.drop i)
 | l,xs,0,_,h=>by simpa using h
 | [],xs,i+1,h,_=>absurd h (by simp)
 | a::l,xs,i+1,hi,h=>by
   unfold RowE at h
   obtain ⟨c,ys,rfl,hc,hr⟩:=h
   rw [Nat.add_mul,Nat.one_mul,Nat.add_comm,← List.drop_drop,List.drop_left' (E.len hc),List.drop_succ_cons]
   exact RowE.drop l ys i (by simpa using hi) hr
theorem zag.drop {α:Type} {E:Elem α} {w:World} {P:Nat→Prop} {g off n cap:Nat} {l:List α} (h:zag E w P (.slice (some ⟨g,off,none⟩) n cap) l) (hk:E.k=1) (i m:Nat) (hi:i≤l.length) (hm:m=l.length - i):zag E w P (.slice (some ⟨g,off+i,none⟩) m (cap - i)) (l.drop i):=by
 obtain ⟨p,cap',e,hh⟩:=h
 cases e
 refine ⟨_,_,by rw [List.length_drop,hm],fun hne=>?_⟩
 obtain ⟨g',off',xs,e1,h1,h2,h3⟩:=hh (fun q=>hne (by rw [q,List.drop_nil]))
 cases e1
 refine ⟨g,off+i,xs.drop i,rfl,h1,fun j u hj=>?_,?_⟩
 ·rw [List.getElem?_drop] at hj
  rw [Nat.add_assoc]
  exact h2 _ _ hj
 ·have:=RowE.drop l xs i hi h3
  rwa [hk,Nat.mul_one] at this
theorem zlf {q:Option Addr} {len l:Nat} (h:capK (.slice q len l)) (n:Nat) (hn:n≤len):capK (.slice q n l):=
 ⟨fun p m c e=>by cases e;exact Nat.le_trans hn (h.1 _ _ _ rfl),fun m c e=>by cases e;exact h.2 _ _ rfl⟩
def zok (q:Option Addr) (l n:Nat):Option Addr:=if l=n then q else Option.map (fun x=>x.add n) q
end Go.Proofs.YteclpnfckjfibaaGreatDoor
