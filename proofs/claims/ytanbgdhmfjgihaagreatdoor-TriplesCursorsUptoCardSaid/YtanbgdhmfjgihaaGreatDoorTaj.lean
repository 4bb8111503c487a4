/- Texts of one kind, one behind the other: each says ahead of itself what it shows. -/
import Derived.Test.YtanbgdhmfjgihaaGreatDoorTai
namespace Go.Proofs.YtanbgdhmfjgihaaGreatDoor
open Go.RowKit
set_option maxHeartbeats 12800000
set_option maxRecDepth 20000
theorem zpt (lang k:Int) (b:Bool) (n:Int) (t x:ByteArray) (q:List Val) (p:Option Addr) (cap:Nat) (k2:Int) (b2:Bool) (n2:Int) (t2 x2:ByteArray) (q2:List Val) (p2:Option Addr) (cap2:Nat) (w:World) (hk0:k=0):
 Calls Tryz.prog 137 #[.int .i64 lang,.agg #[.int .i64 k,.bool b,.int .i64 n,.string t,.string x,.slice p q.length cap],.agg #[.int .i64 k2,.bool b2,.int .i64 n2,.string t2,.string x2,.slice p2 q2.length cap2]] w fun e w'=>e=.returned (.int .i64 (lexI (zai t.toList t2.toList) (zai x.toList x2.toList)))∧Low w.heap.size w w':=by
 obtain ⟨W0,hW0⟩:∃ W0,W0=((w.alloc (.cells #[.int .i64 lang] 3)).alloc (.cells #[.int .i64 k,.bool b,.int .i64 n,.string t,.string x,.slice p q.length cap] 39)).alloc (.cells #[.int .i64 k2,.bool b2,.int .i64 n2,.string t2,.string x2,.slice p2 q2.length cap2] 39):=⟨_,rfl⟩
 have S4:Six W0 (w.heap.size+1) k b n t x p q.length cap:=by rw [hW0];exact (zaf _ (by simp)).alloc _
 have S5:Six W0 (w.heap.size+2) k2 b2 n2 t2 x2 p2 q2.length cap2:=by rw [hW0];exact zaf _ (by simp)
 have b0:Low w.heap.size w W0:=by rw [hW0];exact low3 _ _ _ _
 have c0:W0.cell? ⟨w.heap.size,0,none⟩=some (.int .i64 lang):=by
  rw [hW0]
  have e:(w.alloc (.cells #[.int .i64 lang] 3)).cell? ⟨w.heap.size,0,none⟩=some (.int .i64 lang):=zab (zah _ _ rfl) _ rfl
  exact ((low2 _ _ _).cell (p:=⟨w.heap.size,0,none⟩) (by simp)).trans e
 have H0:=Lib.hid hW0
 clear hW0
 subst hk0
 go_enter Tryz.func137,Tryz.ntmps137
 go_wp2_with (first
  |(rw [← H0.out];(with_reducible refine zaa (.tmp 4) (w.heap.size+1) S4 ?_ ?_ ?_ ?_);rfl;rfl;rfl)
  |((with_reducible refine zaa (.tmp 4) (w.heap.size+1) S4 ?_ ?_ ?_ ?_);rfl;rfl;rfl)
  |((with_reducible refine zaa (.tmp 5) (w.heap.size+2) S5 ?_ ?_ ?_ ?_);rfl;rfl;rfl)
  |(go_at_call 107;(with_reducible refine (zap 0 b n t x _ 145 rfl _).mono ?_);rintro e w' ⟨rfl,hb⟩;replace S4:=S4.below hb.is;replace S5:=S5.below hb.is;replace c0:=(hb.cell (p:=⟨w.heap.size,0,none⟩) (World.block_lt_of_cell? _ _ c0)).trans c0;replace b0:=zad b0 hb b0.size;have f1:=S4.c1;have f2:=S4.c2;have f5:=S4.c5;have g1:=S5.c1;have g2:=S5.c2;have g5:=S5.c5;clear hb)
  |(simp only [zft,zfq,zfr,zfo,zfp,zfs,Result.andThen_ok]))
 obtain ⟨N,hN⟩:∃ N,N=w'.heap.size:=⟨_,rfl⟩
 refine wp_region_held_drew (S:=fun w'=>Six w' (w.heap.size+1) 0 b n t x p q.length cap∧Six w' (w.heap.size+2) k2 b2 n2 t2 x2 p2 q2.length cap2∧Low w.heap.size w w'∧Hid (N < w'.heap.size→w'.cell? ⟨N,0,none⟩=some (.int .i64 (zai t.toList t2.toList))∧w'.cell? ⟨N,1,none⟩=some (.int .i64 (zai x.toList x2.toList)))) (by kernel_rfl) ⟨S4,S5,b0.drew,Lib.hid fun h=>absurd h (by rw [hN];exact Nat.lt_irrefl _)⟩ (fun hHeld=>?_)
 refine tg (i:=0) (.pointer (some ⟨w.heap.size+1,3,none⟩)) rfl hHeld ?_
 refine tk (i:=1) (v:=.string t) rfl (Or.inl ⟨by rfl,fun W h=>by have c0:=h.1.c3;go_simp⟩) hHeld ?_
 refine tg (i:=2) (.pointer (some ⟨w.heap.size+2,3,none⟩)) rfl hHeld ?_
 refine tk (i:=3) (v:=.string t2) rfl (Or.inl ⟨by rfl,fun W h=>by have c0:=h.2.1.c3;go_simp⟩) hHeld ?_
 refine tg (i:=5) (.pointer (some ⟨w.heap.size+1,4,none⟩)) rfl hHeld ?_
 refine tk (i:=6) (v:=.string x) rfl (Or.inl ⟨by rfl,fun W h=>by have c0:=h.1.c4;go_simp⟩) hHeld ?_
 refine tg (i:=7) (.pointer (some ⟨w.heap.size+2,4,none⟩)) rfl hHeld ?_
 refine tk (i:=8) (v:=.string x2) rfl (Or.inl ⟨by rfl,fun W h=>by have c0:=h.2.1.c4;go_simp⟩) hHeld ?_
 obtain ⟨u1,u2,u3,u4⟩:=hHeld
 refine tr 4 rfl (fun K hK=>?_)
 rw [if_pos (by rfl)]
 go_simp
 refine (zb7 t t2 _).mono ?_
 rintro e w3 ⟨rfl,rfl⟩
 refine hK.out _ _ ⟨u1,u2,u3,u4⟩ (fun hHeld=>?_)
 clear hK K u1 u2 u3 u4
 try simp only [putS]
 obtain ⟨u1,u2,u3,u4⟩:=hHeld
 refine tr 9 rfl (fun K hK=>?_)
 rw [if_pos (by rfl)]
 go_simp
 refine (zb7 x x2 _).mono ?_
 rintro e w3 ⟨rfl,rfl⟩
 refine hK.out _ _ ⟨u1,u2,u3,u4⟩ (fun hHeld=>?_)
 clear hK K u1 u2 u3 u4
 try simp only [putS]
 obtain ⟨u1,u2,u3,u4⟩:=hHeld
 refine tr 10 rfl (fun K hK=>?_)
 go_simp
 rw [← hN]
 have x4:Six (w'.alloc (Obj.cells #[.int .i64 (zai t.toList t2.toList),.int .i64 (zai x.toList x2.toList)] 3)) (w.heap.size+1) 0 b n t x p q.length cap:=S4.alloc _
 have x5:Six (w'.alloc (Obj.cells #[.int .i64 (zai t.toList t2.toList),.int .i64 (zai x.toList x2.toList)] 3)) (w.heap.size+2) k2 b2 n2 t2 x2 p2 q2.length cap2:=S5.alloc _
 have xb:Low w.heap.size w (w'.alloc (Obj.cells #[.int .i64 (zai t.toList t2.toList),.int .i64 (zai x.toList x2.toList)] 3)).drew:=(b0.alloc b0.size _).drew
 have y0:(w'.alloc (Obj.cells #[.int .i64 (zai t.toList t2.toList),.int .i64 (zai x.toList x2.toList)] 3)).cell? ⟨N,0,none⟩=some (.int .i64 (zai t.toList t2.toList)):=zab (zah w' _ hN.symm) 0 rfl
 have y1:(w'.alloc (Obj.cells #[.int .i64 (zai t.toList t2.toList),.int .i64 (zai x.toList x2.toList)] 3)).cell? ⟨N,1,none⟩=some (.int .i64 (zai x.toList x2.toList)):=zab (zah w' _ hN.symm) 1 rfl
 have ys:N < (w'.alloc (Obj.cells #[.int .i64 (zai t.toList t2.toList),.int .i64 (zai x.toList x2.toList)] 3)).drew.heap.size:=by rw [hN];show w'.heap.size < (w'.alloc _).heap.size;simp
 generalize (w'.alloc (Obj.cells #[.int .i64 (zai t.toList t2.toList),.int .i64 (zai x.toList x2.toList)] 3))=V at x4 x5 xb y0 y1 ys ⊢
 clear u1 u2 u3 u4
 refine hK.out _ _ ⟨x4,x5,xb,Lib.hid fun _=>⟨y0,y1⟩⟩ (fun hHeld=>?_)
 clear hK K
 try simp only [putS]
 obtain ⟨u1,u2,u3,u4⟩:=hHeld
 obtain ⟨v0,v1⟩:=u4.out ys
 refine tr 11 rfl (fun K hK=>?_)
 rw [if_pos (by rfl)]
 go_simp
 rw [hN] at v0 v1
 with_reducible refine (orAt _ _ _ _ v0 v1).mono ?_
 rintro e w3 ⟨rfl,rfl⟩
 refine hK.out _ _ ⟨u1,u2,u3,u4⟩ (fun hHeld=>?_)
 clear hK K u1 u2 u4 v0 v1
 try simp only [putS]
 refine tr 12 rfl (fun K hK=>?_)
 go_simp
 refine hK.out _ _ hHeld (fun _=>?_)
 clear hK K hHeld
 try simp only [putS]
 refine wpAnyH_done (by kernel_rfl) ?_ _
 go_wp2_with fail
 go_ret
 exact ⟨rfl,u3⟩
theorem zpu (lang k:Int) (b:Bool) (n:Int) (t x:ByteArray) (q:List Val) (p:Option Addr) (cap:Nat) (k2:Int) (b2:Bool) (n2:Int) (t2 x2:ByteArray) (q2:List Val) (p2:Option Addr) (cap2:Nat) (w:World) (hk0:k=4):
 Calls Tryz.prog 137 #[.int .i64 lang,.agg #[.int .i64 k,.bool b,.int .i64 n,.string t,.string x,.slice p q.length cap],.agg #[.int .i64 k2,.bool b2,.int .i64 n2,.string t2,.string x2,.slice p2 q2.length cap2]] w fun e w'=>e=.returned (.int .i64 (lexI (zai t.toList t2.toList) (zai x.toList x2.toList)))∧Low w.heap.size w w':=by
 obtain ⟨W0,hW0⟩:∃ W0,W0=((w.alloc (.cells #[.int .i64 lang] 3)).alloc (.cells #[.int .i64 k,.bool b,.int .i64 n,.string t,.string x,.slice p q.length cap] 39)).alloc (.cells #[.int .i64 k2,.bool b2,.int .i64 n2,.string t2,.string x2,.slice p2 q2.length cap2] 39):=⟨_,rfl⟩
 have S4:Six W0 (w.heap.size+1) k b n t x p q.length cap:=by rw [hW0];exact (zaf _ (by simp)).alloc _
 have S5:Six W0 (w.heap.size+2) k2 b2 n2 t2 x2 p2 q2.length cap2:=by rw [hW0];exact zaf _ (by simp)
 have b0:Low w.heap.size w W0:=by rw [hW0];exact low3 _ _ _ _
 have c0:W0.cell? ⟨w.heap.size,0,none⟩=some (.int .i64 lang):=by
  rw [hW0]
  have e:(w.alloc (.cells #[.int .i64 lang] 3)).cell? ⟨w.heap.size,0,none⟩=some (.int .i64 lang):=zab (zah _ _ rfl) _ rfl
  exact ((low2 _ _ _).cell (p:=⟨w.heap.size,0,none⟩) (by simp)).trans e
 have H0:=Lib.hid hW0
 clear hW0
 subst hk0
 go_enter Tryz.func137,Tryz.ntmps137
 go_wp2_with (first
  |(rw [← H0.out];(with_reducible refine zaa (.tmp 4) (w.heap.size+1) S4 ?_ ?_ ?_ ?_);rfl;rfl;rfl)
  |((with_reducible refine zaa (.tmp 4) (w.heap.size+1) S4 ?_ ?_ ?_ ?_);rfl;rfl;rfl)
  |((with_reducible refine zaa (.tmp 5) (w.heap.size+2) S5 ?_ ?_ ?_ ?_);rfl;rfl;rfl)
  |(go_at_call 107;(with_reducible refine (zap 4 b n t x _ 151 rfl _).mono ?_);rintro e w' ⟨rfl,hb⟩;replace S4:=S4.below hb.is;replace S5:=S5.below hb.is;replace c0:=(hb.cell (p:=⟨w.heap.size,0,none⟩) (World.block_lt_of_cell? _ _ c0)).trans c0;replace b0:=zad b0 hb b0.size;have f1:=S4.c1;have f2:=S4.c2;have f5:=S4.c5;have g1:=S5.c1;have g2:=S5.c2;have g5:=S5.c5;clear hb)
  |(simp only [zgh,zge,zgf,zgc,zgd,zgg,Result.andThen_ok]))
 obtain ⟨N,hN⟩:∃ N,N=w'.heap.size:=⟨_,rfl⟩
 refine wp_region_held_drew (S:=fun w'=>Six w' (w.heap.size+1) 4 b n t x p q.length cap∧Six w' (w.heap.size+2) k2 b2 n2 t2 x2 p2 q2.length cap2∧Low w.heap.size w w'∧Hid (N < w'.heap.size→w'.cell? ⟨N,0,none⟩=some (.int .i64 (zai t.toList t2.toList))∧w'.cell? ⟨N,1,none⟩=some (.int .i64 (zai x.toList x2.toList)))) (by kernel_rfl) ⟨S4,S5,b0.drew,Lib.hid fun h=>absurd h (by rw [hN];exact Nat.lt_irrefl _)⟩ (fun hHeld=>?_)
 refine tg (i:=0) (.pointer (some ⟨w.heap.size+1,3,none⟩)) rfl hHeld ?_
 refine tk (i:=1) (v:=.string t) rfl (Or.inl ⟨by rfl,fun W h=>by have c0:=h.1.c3;go_simp⟩) hHeld ?_
 refine tg (i:=2) (.pointer (some ⟨w.heap.size+2,3,none⟩)) rfl hHeld ?_
 refine tk (i:=3) (v:=.string t2) rfl (Or.inl ⟨by rfl,fun W h=>by have c0:=h.2.1.c3;go_simp⟩) hHeld ?_
 refine tg (i:=5) (.pointer (some ⟨w.heap.size+1,4,none⟩)) rfl hHeld ?_
 refine tk (i:=6) (v:=.string x) rfl (Or.inl ⟨by rfl,fun W h=>by have c0:=h.1.c4;go_simp⟩) hHeld ?_
 refine tg (i:=7) (.pointer (some ⟨w.heap.size+2,4,none⟩)) rfl hHeld ?_
 refine tk (i:=8) (v:=.string x2) rfl (Or.inl ⟨by rfl,fun W h=>by have c0:=h.2.1.c4;go_simp⟩) hHeld ?_
 obtain ⟨u1,u2,u3,u4⟩:=hHeld
 refine tr 4 rfl (fun K hK=>?_)
 rw [if_pos (by rfl)]
 go_simp
 refine (zb7 t t2 _).mono ?_
 rintro e w3 ⟨rfl,rfl⟩
 refine hK.out _ _ ⟨u1,u2,u3,u4⟩ (fun hHeld=>?_)
 clear hK K u1 u2 u3 u4
 try simp only [putS]
 obtain ⟨u1,u2,u3,u4⟩:=hHeld
 refine tr 9 rfl (fun K hK=>?_)
 rw [if_pos (by rfl)]
 go_simp
 refine (zb7 x x2 _).mono ?_
 rintro e w3 ⟨rfl,rfl⟩
 refine hK.out _ _ ⟨u1,u2,u3,u4⟩ (fun hHeld=>?_)
 clear hK K u1 u2 u3 u4
 try simp only [putS]
 obtain ⟨u1,u2,u3,u4⟩:=hHeld
 refine tr 10 rfl (fun K hK=>?_)
 go_simp
 rw [← hN]
 have x4:Six (w'.alloc (Obj.cells #[.int .i64 (zai t.toList t2.toList),.int .i64 (zai x.toList x2.toList)] 3)) (w.heap.size+1) 4 b n t x p q.length cap:=S4.alloc _
 have x5:Six (w'.alloc (Obj.cells #[.int .i64 (zai t.toList t2.toList),.int .i64 (zai x.toList x2.toList)] 3)) (w.heap.size+2) k2 b2 n2 t2 x2 p2 q2.length cap2:=S5.alloc _
 have xb:Low w.heap.size w (w'.alloc (Obj.cells #[.int .i64 (zai t.toList t2.toList),.int .i64 (zai x.toList x2.toList)] 3)).drew:=(b0.alloc b0.size _).drew
 have y0:(w'.alloc (Obj.cells #[.int .i64 (zai t.toList t2.toList),.int .i64 (zai x.toList x2.toList)] 3)).cell? ⟨N,0,none⟩=some (.int .i64 (zai t.toList t2.toList)):=zab (zah w' _ hN.symm) 0 rfl
 have y1:(w'.alloc (Obj.cells #[.int .i64 (zai t.toList t2.toList),.int .i64 (zai x.toList x2.toList)] 3)).cell? ⟨N,1,none⟩=some (.int .i64 (zai x.toList x2.toList)):=zab (zah w' _ hN.symm) 1 rfl
 have ys:N < (w'.alloc (Obj.cells #[.int .i64 (zai t.toList t2.toList),.int .i64 (zai x.toList x2.toList)] 3)).drew.heap.size:=by rw [hN];show w'.heap.size < (w'.alloc _).heap.size;simp
 generalize (w'.alloc (Obj.cells #[.int .i64 (zai t.toList t2.toList),.int .i64 (zai x.toList x2.toList)] 3))=V at x4 x5 xb y0 y1 ys ⊢
 clear u1 u2 u3 u4
 refine hK.out _ _ ⟨x4,x5,xb,Lib.hid fun _=>⟨y0,y1⟩⟩ (fun hHeld=>?_)
 clear hK K
 try simp only [putS]
 obtain ⟨u1,u2,u3,u4⟩:=hHeld
 obtain ⟨v0,v1⟩:=u4.out ys
 refine tr 11 rfl (fun K hK=>?_)
 rw [if_pos (by rfl)]
 go_simp
 rw [hN] at v0 v1
 with_reducible refine (orAt _ _ _ _ v0 v1).mono ?_
 rintro e w3 ⟨rfl,rfl⟩
 refine hK.out _ _ ⟨u1,u2,u3,u4⟩ (fun hHeld=>?_)
 clear hK K u1 u2 u4 v0 v1
 try simp only [putS]
 refine tr 12 rfl (fun K hK=>?_)
 go_simp
 refine hK.out _ _ hHeld (fun _=>?_)
 clear hK K hHeld
 try simp only [putS]
 refine wpAnyH_done (by kernel_rfl) ?_ _
 go_wp2_with fail
 go_ret
 exact ⟨rfl,u3⟩
theorem zpv (lang k:Int) (b:Bool) (n:Int) (t x:ByteArray) (q:List Val) (p:Option Addr) (cap:Nat) (k2:Int) (b2:Bool) (n2:Int) (t2 x2:ByteArray) (q2:List Val) (p2:Option Addr) (cap2:Nat) (w:World) (hk0:k=8):
 Calls Tryz.prog 137 #[.int .i64 lang,.agg #[.int .i64 k,.bool b,.int .i64 n,.string t,.string x,.slice p q.length cap],.agg #[.int .i64 k2,.bool b2,.int .i64 n2,.string t2,.string x2,.slice p2 q2.length cap2]] w fun e w'=>e=.returned (.int .i64 (lexI (zai t.toList t2.toList) (zai x.toList x2.toList)))∧Low w.heap.size w w':=by
 obtain ⟨W0,hW0⟩:∃ W0,W0=((w.alloc (.cells #[.int .i64 lang] 3)).alloc (.cells #[.int .i64 k,.bool b,.int .i64 n,.string t,.string x,.slice p q.length cap] 39)).alloc (.cells #[.int .i64 k2,.bool b2,.int .i64 n2,.string t2,.string x2,.slice p2 q2.length cap2] 39):=⟨_,rfl⟩
 have S4:Six W0 (w.heap.size+1) k b n t x p q.length cap:=by rw [hW0];exact (zaf _ (by simp)).alloc _
 have S5:Six W0 (w.heap.size+2) k2 b2 n2 t2 x2 p2 q2.length cap2:=by rw [hW0];exact zaf _ (by simp)
 have b0:Low w.heap.size w W0:=by rw [hW0];exact low3 _ _ _ _
 have c0:W0.cell? ⟨w.heap.size,0,none⟩=some (.int .i64 lang):=by
  rw [hW0]
  have e:(w.alloc (.cells #[.int .i64 lang] 3)).cell? ⟨w.heap.size,0,none⟩=some (.int .i64 lang):=zab (zah _ _ rfl) _ rfl
  exact ((low2 _ _ _).cell (p:=⟨w.heap.size,0,none⟩) (by simp)).trans e
 have H0:=Lib.hid hW0
 clear hW0
 subst hk0
 go_enter Tryz.func137,Tryz.ntmps137
 go_wp2_with (first
  |(rw [← H0.out];(with_reducible refine zaa (.tmp 4) (w.heap.size+1) S4 ?_ ?_ ?_ ?_);rfl;rfl;rfl)
  |((with_reducible refine zaa (.tmp 4) (w.heap.size+1) S4 ?_ ?_ ?_ ?_);rfl;rfl;rfl)
  |((with_reducible refine zaa (.tmp 5) (w.heap.size+2) S5 ?_ ?_ ?_ ?_);rfl;rfl;rfl)
  |(go_at_call 107;(with_reducible refine (zap 8 b n t x _ 152 rfl _).mono ?_);rintro e w' ⟨rfl,hb⟩;replace S4:=S4.below hb.is;replace S5:=S5.below hb.is;replace c0:=(hb.cell (p:=⟨w.heap.size,0,none⟩) (World.block_lt_of_cell? _ _ c0)).trans c0;replace b0:=zad b0 hb b0.size;have f1:=S4.c1;have f2:=S4.c2;have f5:=S4.c5;have g1:=S5.c1;have g2:=S5.c2;have g5:=S5.c5;clear hb)
  |(simp only [zgn,zgk,zgl,zgi,zgj,zgm,Result.andThen_ok]))
 obtain ⟨N,hN⟩:∃ N,N=w'.heap.size:=⟨_,rfl⟩
 refine wp_region_held_drew (S:=fun w'=>Six w' (w.heap.size+1) 8 b n t x p q.length cap∧Six w' (w.heap.size+2) k2 b2 n2 t2 x2 p2 q2.length cap2∧Low w.heap.size w w'∧Hid (N < w'.heap.size→w'.cell? ⟨N,0,none⟩=some (.int .i64 (zai t.toList t2.toList))∧w'.cell? ⟨N,1,none⟩=some (.int .i64 (zai x.toList x2.toList)))) (by kernel_rfl) ⟨S4,S5,b0.drew,Lib.hid fun h=>absurd h (by rw [hN];exact Nat.lt_irrefl _)⟩ (fun hHeld=>?_)
 refine tg (i:=0) (.pointer (some ⟨w.heap.size+1,3,none⟩)) rfl hHeld ?_
 refine tk (i:=1) (v:=.string t) rfl (Or.inl ⟨by rfl,fun W h=>by have c0:=h.1.c3;go_simp⟩) hHeld ?_
 refine tg (i:=2) (.pointer (some ⟨w.heap.size+2,3,none⟩)) rfl hHeld ?_
 refine tk (i:=3) (v:=.string t2) rfl (Or.inl ⟨by rfl,fun W h=>by have c0:=h.2.1.c3;go_simp⟩) hHeld ?_
 refine tg (i:=5) (.pointer (some ⟨w.heap.size+1,4,none⟩)) rfl hHeld ?_
 refine tk (i:=6) (v:=.string x) rfl (Or.inl ⟨by rfl,fun W h=>by have c0:=h.1.c4;go_simp⟩) hHeld ?_
 refine tg (i:=7) (.pointer (some ⟨w.heap.size+2,4,none⟩)) rfl hHeld ?_
 refine tk (i:=8) (v:=.string x2) rfl (Or.inl ⟨by rfl,fun W h=>by have c0:=h.2.1.c4;go_simp⟩) hHeld ?_
 obtain ⟨u1,u2,u3,u4⟩:=hHeld
 refine tr 4 rfl (fun K hK=>?_)
 rw [if_pos (by rfl)]
 go_simp
 refine (zb7 t t2 _).mono ?_
 rintro e w3 ⟨rfl,rfl⟩
 refine hK.out _ _ ⟨u1,u2,u3,u4⟩ (fun hHeld=>?_)
 clear hK K u1 u2 u3 u4
 try simp only [putS]
 obtain ⟨u1,u2,u3,u4⟩:=hHeld
 refine tr 9 rfl (fun K hK=>?_)
 rw [if_pos (by rfl)]
 go_simp
 refine (zb7 x x2 _).mono ?_
 rintro e w3 ⟨rfl,rfl⟩
 refine hK.out _ _ ⟨u1,u2,u3,u4⟩ (fun hHeld=>?_)
 clear hK K u1 u2 u3 u4
 try simp only [putS]
 obtain ⟨u1,u2,u3,u4⟩:=hHeld
 refine tr 10 rfl (fun K hK=>?_)
 go_simp
 rw [← hN]
 have x4:Six (w'.alloc (Obj.cells #[.int .i64 (zai t.toList t2.toList),.int .i64 (zai x.toList x2.toList)] 3)) (w.heap.size+1) 8 b n t x p q.length cap:=S4.alloc _
 have x5:Six (w'.alloc (Obj.cells #[.int .i64 (zai t.toList t2.toList),.int .i64 (zai x.toList x2.toList)] 3)) (w.heap.size+2) k2 b2 n2 t2 x2 p2 q2.length cap2:=S5.alloc _
 have xb:Low w.heap.size w (w'.alloc (Obj.cells #[.int .i64 (zai t.toList t2.toList),.int .i64 (zai x.toList x2.toList)] 3)).drew:=(b0.alloc b0.size _).drew
 have y0:(w'.alloc (Obj.cells #[.int .i64 (zai t.toList t2.toList),.int .i64 (zai x.toList x2.toList)] 3)).cell? ⟨N,0,none⟩=some (.int .i64 (zai t.toList t2.toList)):=zab (zah w' _ hN.symm) 0 rfl
 have y1:(w'.alloc (Obj.cells #[.int .i64 (zai t.toList t2.toList),.int .i64 (zai x.toList x2.toList)] 3)).cell? ⟨N,1,none⟩=some (.int .i64 (zai x.toList x2.toList)):=zab (zah w' _ hN.symm) 1 rfl
 have ys:N < (w'.alloc (Obj.cells #[.int .i64 (zai t.toList t2.toList),.int .i64 (zai x.toList x2.toList)] 3)).drew.heap.size:=by rw [hN];show w'.heap.size < (w'.alloc _).heap.size;simp
 generalize (w'.alloc (Obj.cells #[.int .i64 (zai t.toList t2.toList),.int .i64 (zai x.toList x2.toList)] 3))=V at x4 x5 xb y0 y1 ys ⊢
 clear u1 u2 u3 u4
 refine hK.out _ _ ⟨x4,x5,xb,Lib.hid fun _=>⟨y0,y1⟩⟩ (fun hHeld=>?_)
 clear hK K
 try simp only [putS]
 obtain ⟨u1,u2,u3,u4⟩:=hHeld
 obtain ⟨v0,v1⟩:=u4.out ys
 refine tr 11 rfl (fun K hK=>?_)
 rw [if_pos (by rfl)]
 go_simp
 rw [hN] at v0 v1
 with_reducible refine (orAt _ _ _ _ v0 v1).mono ?_
 rintro e w3 ⟨rfl,rfl⟩
 refine hK.out _ _ ⟨u1,u2,u3,u4⟩ (fun hHeld=>?_)
 clear hK K u1 u2 u4 v0 v1
 try simp only [putS]
 refine tr 12 rfl (fun K hK=>?_)
 go_simp
 refine hK.out _ _ hHeld (fun _=>?_)
 clear hK K hHeld
 try simp only [putS]
 refine wpAnyH_done (by kernel_rfl) ?_ _
 go_wp2_with fail
 go_ret
 exact ⟨rfl,u3⟩
theorem zpw (lang k:Int) (b:Bool) (n:Int) (t x:ByteArray) (q:List Val) (p:Option Addr) (cap:Nat) (k2:Int) (b2:Bool) (n2:Int) (t2 x2:ByteArray) (q2:List Val) (p2:Option Addr) (cap2:Nat) (w:World) (hk0:k=9):
 Calls Tryz.prog 137 #[.int .i64 lang,.agg #[.int .i64 k,.bool b,.int .i64 n,.string t,.string x,.slice p q.length cap],.agg #[.int .i64 k2,.bool b2,.int .i64 n2,.string t2,.string x2,.slice p2 q2.length cap2]] w fun e w'=>e=.returned (.int .i64 (lexI (zai t.toList t2.toList) (zai x.toList x2.toList)))∧Low w.heap.size w w':=by
 obtain ⟨W0,hW0⟩:∃ W0,W0=((w.alloc (.cells #[.int .i64 lang] 3)).alloc (.cells #[.int .i64 k,.bool b,.int .i64 n,.string t,.string x,.slice p q.length cap] 39)).alloc (.cells #[.int .i64 k2,.bool b2,.int .i64 n2,.string t2,.string x2,.slice p2 q2.length cap2] 39):=⟨_,rfl⟩
 have S4:Six W0 (w.heap.size+1) k b n t x p q.length cap:=by rw [hW0];exact (zaf _ (by simp)).alloc _
 have S5:Six W0 (w.heap.size+2) k2 b2 n2 t2 x2 p2 q2.length cap2:=by rw [hW0];exact zaf _ (by simp)
 have b0:Low w.heap.size w W0:=by rw [hW0];exact low3 _ _ _ _
 have c0:W0.cell? ⟨w.heap.size,0,none⟩=some (.int .i64 lang):=by
  rw [hW0]
  have e:(w.alloc (.cells #[.int .i64 lang] 3)).cell? ⟨w.heap.size,0,none⟩=some (.int .i64 lang):=zab (zah _ _ rfl) _ rfl
  exact ((low2 _ _ _).cell (p:=⟨w.heap.size,0,none⟩) (by simp)).trans e
 have H0:=Lib.hid hW0
 clear hW0
 subst hk0
 go_enter Tryz.func137,Tryz.ntmps137
 go_wp2_with (first
  |(rw [← H0.out];(with_reducible refine zaa (.tmp 4) (w.heap.size+1) S4 ?_ ?_ ?_ ?_);rfl;rfl;rfl)
  |((with_reducible refine zaa (.tmp 4) (w.heap.size+1) S4 ?_ ?_ ?_ ?_);rfl;rfl;rfl)
  |((with_reducible refine zaa (.tmp 5) (w.heap.size+2) S5 ?_ ?_ ?_ ?_);rfl;rfl;rfl)
  |(go_at_call 107;(with_reducible refine (zap 9 b n t x _ 153 rfl _).mono ?_);rintro e w' ⟨rfl,hb⟩;replace S4:=S4.below hb.is;replace S5:=S5.below hb.is;replace c0:=(hb.cell (p:=⟨w.heap.size,0,none⟩) (World.block_lt_of_cell? _ _ c0)).trans c0;replace b0:=zad b0 hb b0.size;have f1:=S4.c1;have f2:=S4.c2;have f5:=S4.c5;have g1:=S5.c1;have g2:=S5.c2;have g5:=S5.c5;clear hb)
  |(simp only [zgt,zgq,zgr,zgo,zgp,zgs,Result.andThen_ok]))
 obtain ⟨N,hN⟩:∃ N,N=w'.heap.size:=⟨_,rfl⟩
 refine wp_region_held_drew (S:=fun w'=>Six w' (w.heap.size+1) 9 b n t x p q.length cap∧Six w' (w.heap.size+2) k2 b2 n2 t2 x2 p2 q2.length cap2∧Low w.heap.size w w'∧Hid (N < w'.heap.size→w'.cell? ⟨N,0,none⟩=some (.int .i64 (zai t.toList t2.toList))∧w'.cell? ⟨N,1,none⟩=some (.int .i64 (zai x.toList x2.toList)))) (by kernel_rfl) ⟨S4,S5,b0.drew,Lib.hid fun h=>absurd h (by rw [hN];exact Nat.lt_irrefl _)⟩ (fun hHeld=>?_)
 refine tg (i:=0) (.pointer (some ⟨w.heap.size+1,3,none⟩)) rfl hHeld ?_
 refine tk (i:=1) (v:=.string t) rfl (Or.inl ⟨by rfl,fun W h=>by have c0:=h.1.c3;go_simp⟩) hHeld ?_
 refine tg (i:=2) (.pointer (some ⟨w.heap.size+2,3,none⟩)) rfl hHeld ?_
 refine tk (i:=3) (v:=.string t2) rfl (Or.inl ⟨by rfl,fun W h=>by have c0:=h.2.1.c3;go_simp⟩) hHeld ?_
 refine tg (i:=5) (.pointer (some ⟨w.heap.size+1,4,none⟩)) rfl hHeld ?_
 refine tk (i:=6) (v:=.string x) rfl (Or.inl ⟨by rfl,fun W h=>by have c0:=h.1.c4;go_simp⟩) hHeld ?_
 refine tg (i:=7) (.pointer (some ⟨w.heap.size+2,4,none⟩)) rfl hHeld ?_
 refine tk (i:=8) (v:=.string x2) rfl (Or.inl ⟨by rfl,fun W h=>by have c0:=h.2.1.c4;go_simp⟩) hHeld ?_
 obtain ⟨u1,u2,u3,u4⟩:=hHeld
 refine tr 4 rfl (fun K hK=>?_)
 rw [if_pos (by rfl)]
 go_simp
 refine (zb7 t t2 _).mono ?_
 rintro e w3 ⟨rfl,rfl⟩
 refine hK.out _ _ ⟨u1,u2,u3,u4⟩ (fun hHeld=>?_)
 clear hK K u1 u2 u3 u4
 try simp only [putS]
 obtain ⟨u1,u2,u3,u4⟩:=hHeld
 refine tr 9 rfl (fun K hK=>?_)
 rw [if_pos (by rfl)]
 go_simp
 refine (zb7 x x2 _).mono ?_
 rintro e w3 ⟨rfl,rfl⟩
 refine hK.out _ _ ⟨u1,u2,u3,u4⟩ (fun hHeld=>?_)
 clear hK K u1 u2 u3 u4
 try simp only [putS]
 obtain ⟨u1,u2,u3,u4⟩:=hHeld
 refine tr 10 rfl (fun K hK=>?_)
 go_simp
 rw [← hN]
 have x4:Six (w'.alloc (Obj.cells #[.int .i64 (zai t.toList t2.toList),.int .i64 (zai x.toList x2.toList)] 3)) (w.heap.size+1) 9 b n t x p q.length cap:=S4.alloc _
 have x5:Six (w'.alloc (Obj.cells #[.int .i64 (zai t.toList t2.toList),.int .i64 (zai x.toList x2.toList)] 3)) (w.heap.size+2) k2 b2 n2 t2 x2 p2 q2.length cap2:=S5.alloc _
 have xb:Low w.heap.size w (w'.alloc (Obj.cells #[.int .i64 (zai t.toList t2.toList),.int .i64 (zai x.toList x2.toList)] 3)).drew:=(b0.alloc b0.size _).drew
 have y0:(w'.alloc (Obj.cells #[.int .i64 (zai t.toList t2.toList),.int .i64 (zai x.toList x2.toList)] 3)).cell? ⟨N,0,none⟩=some (.int .i64 (zai t.toList t2.toList)):=zab (zah w' _ hN.symm) 0 rfl
 have y1:(w'.alloc (Obj.cells #[.int .i64 (zai t.toList t2.toList),.int .i64 (zai x.toList x2.toList)] 3)).cell? ⟨N,1,none⟩=some (.int .i64 (zai x.toList x2.toList)):=zab (zah w' _ hN.symm) 1 rfl
 have ys:N < (w'.alloc (Obj.cells #[.int .i64 (zai t.toList t2.toList),.int .i64 (zai x.toList x2.toList)] 3)).drew.heap.size:=by rw [hN];show w'.heap.size < (w'.alloc _).heap.size;simp
 generalize (w'.alloc (Obj.cells #[.int .i64 (zai t.toList t2.toList),.int .i64 (zai x.toList x2.toList)] 3))=V at x4 x5 xb y0 y1 ys ⊢
 clear u1 u2 u3 u4
 refine hK.out _ _ ⟨x4,x5,xb,Lib.hid fun _=>⟨y0,y1⟩⟩ (fun hHeld=>?_)
 clear hK K
 try simp only [putS]
 obtain ⟨u1,u2,u3,u4⟩:=hHeld
 obtain ⟨v0,v1⟩:=u4.out ys
 refine tr 11 rfl (fun K hK=>?_)
 rw [if_pos (by rfl)]
 go_simp
 rw [hN] at v0 v1
 with_reducible refine (orAt _ _ _ _ v0 v1).mono ?_
 rintro e w3 ⟨rfl,rfl⟩
 refine hK.out _ _ ⟨u1,u2,u3,u4⟩ (fun hHeld=>?_)
 clear hK K u1 u2 u4 v0 v1
 try simp only [putS]
 refine tr 12 rfl (fun K hK=>?_)
 go_simp
 refine hK.out _ _ hHeld (fun _=>?_)
 clear hK K hHeld
 try simp only [putS]
 refine wpAnyH_done (by kernel_rfl) ?_ _
 go_wp2_with fail
 go_ret
 exact ⟨rfl,u3⟩
theorem zod (lang k:Int) (b:Bool) (n:Int) (t x:ByteArray) (q:List Val) (p:Option Addr) (cap:Nat) (k2:Int) (b2:Bool) (n2:Int) (t2 x2:ByteArray) (q2:List Val) (p2:Option Addr) (cap2:Nat) (w:World) (hk0:k=10):
 Calls Tryz.prog 137 #[.int .i64 lang,.agg #[.int .i64 k,.bool b,.int .i64 n,.string t,.string x,.slice p q.length cap],.agg #[.int .i64 k2,.bool b2,.int .i64 n2,.string t2,.string x2,.slice p2 q2.length cap2]] w fun e w'=>e=.returned (.int .i64 (lexI (zai t.toList t2.toList) (zai x.toList x2.toList)))∧Low w.heap.size w w':=by
 obtain ⟨W0,hW0⟩:∃ W0,W0=((w.alloc (.cells #[.int .i64 lang] 3)).alloc (.cells #[.int .i64 k,.bool b,.int .i64 n,.string t,.string x,.slice p q.length cap] 39)).alloc (.cells #[.int .i64 k2,.bool b2,.int .i64 n2,.string t2,.string x2,.slice p2 q2.length cap2] 39):=⟨_,rfl⟩
 have S4:Six W0 (w.heap.size+1) k b n t x p q.length cap:=by rw [hW0];exact (zaf _ (by simp)).alloc _
 have S5:Six W0 (w.heap.size+2) k2 b2 n2 t2 x2 p2 q2.length cap2:=by rw [hW0];exact zaf _ (by simp)
 have b0:Low w.heap.size w W0:=by rw [hW0];exact low3 _ _ _ _
 have c0:W0.cell? ⟨w.heap.size,0,none⟩=some (.int .i64 lang):=by
  rw [hW0]
  have e:(w.alloc (.cells #[.int .i64 lang] 3)).cell? ⟨w.heap.size,0,none⟩=some (.int .i64 lang):=zab (zah _ _ rfl) _ rfl
  exact ((low2 _ _ _).cell (p:=⟨w.heap.size,0,none⟩) (by simp)).trans e
 have H0:=Lib.hid hW0
 clear hW0
 subst hk0
 go_enter Tryz.func137,Tryz.ntmps137
 go_wp2_with (first
  |(rw [← H0.out];(with_reducible refine zaa (.tmp 4) (w.heap.size+1) S4 ?_ ?_ ?_ ?_);rfl;rfl;rfl)
  |((with_reducible refine zaa (.tmp 4) (w.heap.size+1) S4 ?_ ?_ ?_ ?_);rfl;rfl;rfl)
  |((with_reducible refine zaa (.tmp 5) (w.heap.size+2) S5 ?_ ?_ ?_ ?_);rfl;rfl;rfl)
  |(go_at_call 107;(with_reducible refine (zap 10 b n t x _ 154 rfl _).mono ?_);rintro e w' ⟨rfl,hb⟩;replace S4:=S4.below hb.is;replace S5:=S5.below hb.is;replace c0:=(hb.cell (p:=⟨w.heap.size,0,none⟩) (World.block_lt_of_cell? _ _ c0)).trans c0;replace b0:=zad b0 hb b0.size;have f1:=S4.c1;have f2:=S4.c2;have f5:=S4.c5;have g1:=S5.c1;have g2:=S5.c2;have g5:=S5.c5;clear hb)
  |(simp only [zej,zeg,zeh,zee,zef,zei,Result.andThen_ok]))
 obtain ⟨N,hN⟩:∃ N,N=w'.heap.size:=⟨_,rfl⟩
 refine wp_region_held_drew (S:=fun w'=>Six w' (w.heap.size+1) 10 b n t x p q.length cap∧Six w' (w.heap.size+2) k2 b2 n2 t2 x2 p2 q2.length cap2∧Low w.heap.size w w'∧Hid (N < w'.heap.size→w'.cell? ⟨N,0,none⟩=some (.int .i64 (zai t.toList t2.toList))∧w'.cell? ⟨N,1,none⟩=some (.int .i64 (zai x.toList x2.toList)))) (by kernel_rfl) ⟨S4,S5,b0.drew,Lib.hid fun h=>absurd h (by rw [hN];exact Nat.lt_irrefl _)⟩ (fun hHeld=>?_)
 refine tg (i:=0) (.pointer (some ⟨w.heap.size+1,3,none⟩)) rfl hHeld ?_
 refine tk (i:=1) (v:=.string t) rfl (Or.inl ⟨by rfl,fun W h=>by have c0:=h.1.c3;go_simp⟩) hHeld ?_
 refine tg (i:=2) (.pointer (some ⟨w.heap.size+2,3,none⟩)) rfl hHeld ?_
 refine tk (i:=3) (v:=.string t2) rfl (Or.inl ⟨by rfl,fun W h=>by have c0:=h.2.1.c3;go_simp⟩) hHeld ?_
 refine tg (i:=5) (.pointer (some ⟨w.heap.size+1,4,none⟩)) rfl hHeld ?_
 refine tk (i:=6) (v:=.string x) rfl (Or.inl ⟨by rfl,fun W h=>by have c0:=h.1.c4;go_simp⟩) hHeld ?_
 refine tg (i:=7) (.pointer (some ⟨w.heap.size+2,4,none⟩)) rfl hHeld ?_
 refine tk (i:=8) (v:=.string x2) rfl (Or.inl ⟨by rfl,fun W h=>by have c0:=h.2.1.c4;go_simp⟩) hHeld ?_
 obtain ⟨u1,u2,u3,u4⟩:=hHeld
 refine tr 4 rfl (fun K hK=>?_)
 rw [if_pos (by rfl)]
 go_simp
 refine (zb7 t t2 _).mono ?_
 rintro e w3 ⟨rfl,rfl⟩
 refine hK.out _ _ ⟨u1,u2,u3,u4⟩ (fun hHeld=>?_)
 clear hK K u1 u2 u3 u4
 try simp only [putS]
 obtain ⟨u1,u2,u3,u4⟩:=hHeld
 refine tr 9 rfl (fun K hK=>?_)
 rw [if_pos (by rfl)]
 go_simp
 refine (zb7 x x2 _).mono ?_
 rintro e w3 ⟨rfl,rfl⟩
 refine hK.out _ _ ⟨u1,u2,u3,u4⟩ (fun hHeld=>?_)
 clear hK K u1 u2 u3 u4
 try simp only [putS]
 obtain ⟨u1,u2,u3,u4⟩:=hHeld
 refine tr 10 rfl (fun K hK=>?_)
 go_simp
 rw [← hN]
 have x4:Six (w'.alloc (Obj.cells #[.int .i64 (zai t.toList t2.toList),.int .i64 (zai x.toList x2.toList)] 3)) (w.heap.size+1) 10 b n t x p q.length cap:=S4.alloc _
 have x5:Six (w'.alloc (Obj.cells #[.int .i64 (zai t.toList t2.toList),.int .i64 (zai x.toList x2.toList)] 3)) (w.heap.size+2) k2 b2 n2 t2 x2 p2 q2.length cap2:=S5.alloc _
 have xb:Low w.heap.size w (w'.alloc (Obj.cells #[.int .i64 (zai t.toList t2.toList),.int .i64 (zai x.toList x2.toList)] 3)).drew:=(b0.alloc b0.size _).drew
 have y0:(w'.alloc (Obj.cells #[.int .i64 (zai t.toList t2.toList),.int .i64 (zai x.toList x2.toList)] 3)).cell? ⟨N,0,none⟩=some (.int .i64 (zai t.toList t2.toList)):=zab (zah w' _ hN.symm) 0 rfl
 have y1:(w'.alloc (Obj.cells #[.int .i64 (zai t.toList t2.toList),.int .i64 (zai x.toList x2.toList)] 3)).cell? ⟨N,1,none⟩=some (.int .i64 (zai x.toList x2.toList)):=zab (zah w' _ hN.symm) 1 rfl
 have ys:N < (w'.alloc (Obj.cells #[.int .i64 (zai t.toList t2.toList),.int .i64 (zai x.toList x2.toList)] 3)).drew.heap.size:=by rw [hN];show w'.heap.size < (w'.alloc _).heap.size;simp
 generalize (w'.alloc (Obj.cells #[.int .i64 (zai t.toList t2.toList),.int .i64 (zai x.toList x2.toList)] 3))=V at x4 x5 xb y0 y1 ys ⊢
 clear u1 u2 u3 u4
 refine hK.out _ _ ⟨x4,x5,xb,Lib.hid fun _=>⟨y0,y1⟩⟩ (fun hHeld=>?_)
 clear hK K
 try simp only [putS]
 obtain ⟨u1,u2,u3,u4⟩:=hHeld
 obtain ⟨v0,v1⟩:=u4.out ys
 refine tr 11 rfl (fun K hK=>?_)
 rw [if_pos (by rfl)]
 go_simp
 rw [hN] at v0 v1
 with_reducible refine (orAt _ _ _ _ v0 v1).mono ?_
 rintro e w3 ⟨rfl,rfl⟩
 refine hK.out _ _ ⟨u1,u2,u3,u4⟩ (fun hHeld=>?_)
 clear hK K u1 u2 u4 v0 v1
 try simp only [putS]
 refine tr 12 rfl (fun K hK=>?_)
 go_simp
 refine hK.out _ _ hHeld (fun _=>?_)
 clear hK K hHeld
 try simp only [putS]
 refine wpAnyH_done (by kernel_rfl) ?_ _
 go_wp2_with fail
 go_ret
 exact ⟨rfl,u3⟩
theorem zoe (lang k:Int) (b:Bool) (n:Int) (t x:ByteArray) (q:List Val) (p:Option Addr) (cap:Nat) (k2:Int) (b2:Bool) (n2:Int) (t2 x2:ByteArray) (q2:List Val) (p2:Option Addr) (cap2:Nat) (w:World) (hk0:zk6 k=188):
 Calls Tryz.prog 137 #[.int .i64 lang,.agg #[.int .i64 k,.bool b,.int .i64 n,.string t,.string x,.slice p q.length cap],.agg #[.int .i64 k2,.bool b2,.int .i64 n2,.string t2,.string x2,.slice p2 q2.length cap2]] w fun e w'=>e=.returned (.int .i64 (lexI (zai t.toList t2.toList) (zai x.toList x2.toList)))∧Low w.heap.size w w':=by
 obtain ⟨W0,hW0⟩:∃ W0,W0=((w.alloc (.cells #[.int .i64 lang] 3)).alloc (.cells #[.int .i64 k,.bool b,.int .i64 n,.string t,.string x,.slice p q.length cap] 39)).alloc (.cells #[.int .i64 k2,.bool b2,.int .i64 n2,.string t2,.string x2,.slice p2 q2.length cap2] 39):=⟨_,rfl⟩
 have S4:Six W0 (w.heap.size+1) k b n t x p q.length cap:=by rw [hW0];exact (zaf _ (by simp)).alloc _
 have S5:Six W0 (w.heap.size+2) k2 b2 n2 t2 x2 p2 q2.length cap2:=by rw [hW0];exact zaf _ (by simp)
 have b0:Low w.heap.size w W0:=by rw [hW0];exact low3 _ _ _ _
 have c0:W0.cell? ⟨w.heap.size,0,none⟩=some (.int .i64 lang):=by
  rw [hW0]
  have e:(w.alloc (.cells #[.int .i64 lang] 3)).cell? ⟨w.heap.size,0,none⟩=some (.int .i64 lang):=zab (zah _ _ rfl) _ rfl
  exact ((low2 _ _ _).cell (p:=⟨w.heap.size,0,none⟩) (by simp)).trans e
 have H0:=Lib.hid hW0
 clear hW0
 have hk:=hk0
 go_enter Tryz.func137,Tryz.ntmps137
 go_wp2_with (first
  |(rw [← H0.out];(with_reducible refine zaa (.tmp 4) (w.heap.size+1) S4 ?_ ?_ ?_ ?_);rfl;rfl;rfl)
  |((with_reducible refine zaa (.tmp 4) (w.heap.size+1) S4 ?_ ?_ ?_ ?_);rfl;rfl;rfl)
  |((with_reducible refine zaa (.tmp 5) (w.heap.size+2) S5 ?_ ?_ ?_ ?_);rfl;rfl;rfl)
  |(go_at_call 107;(with_reducible refine (zap k b n t x _ 188 hk.symm _).mono ?_);rintro e w' ⟨rfl,hb⟩;replace S4:=S4.below hb.is;replace S5:=S5.below hb.is;replace c0:=(hb.cell (p:=⟨w.heap.size,0,none⟩) (World.block_lt_of_cell? _ _ c0)).trans c0;replace b0:=zad b0 hb b0.size;have f1:=S4.c1;have f2:=S4.c2;have f5:=S4.c5;have g1:=S5.c1;have g2:=S5.c2;have g5:=S5.c5;clear hb)
  |(simp only [zkb,zj8,zj9,zj6,zj7,zka,Result.andThen_ok]))
 obtain ⟨N,hN⟩:∃ N,N=w'.heap.size:=⟨_,rfl⟩
 refine wp_region_held_drew (S:=fun w'=>Six w' (w.heap.size+1) k b n t x p q.length cap∧Six w' (w.heap.size+2) k2 b2 n2 t2 x2 p2 q2.length cap2∧Low w.heap.size w w'∧Hid (N < w'.heap.size→w'.cell? ⟨N,0,none⟩=some (.int .i64 (zai t.toList t2.toList))∧w'.cell? ⟨N,1,none⟩=some (.int .i64 (zai x.toList x2.toList)))) (by kernel_rfl) ⟨S4,S5,b0.drew,Lib.hid fun h=>absurd h (by rw [hN];exact Nat.lt_irrefl _)⟩ (fun hHeld=>?_)
 refine tg (i:=0) (.pointer (some ⟨w.heap.size+1,3,none⟩)) rfl hHeld ?_
 refine tk (i:=1) (v:=.string t) rfl (Or.inl ⟨by rfl,fun W h=>by have c0:=h.1.c3;go_simp⟩) hHeld ?_
 refine tg (i:=2) (.pointer (some ⟨w.heap.size+2,3,none⟩)) rfl hHeld ?_
 refine tk (i:=3) (v:=.string t2) rfl (Or.inl ⟨by rfl,fun W h=>by have c0:=h.2.1.c3;go_simp⟩) hHeld ?_
 refine tg (i:=5) (.pointer (some ⟨w.heap.size+1,4,none⟩)) rfl hHeld ?_
 refine tk (i:=6) (v:=.string x) rfl (Or.inl ⟨by rfl,fun W h=>by have c0:=h.1.c4;go_simp⟩) hHeld ?_
 refine tg (i:=7) (.pointer (some ⟨w.heap.size+2,4,none⟩)) rfl hHeld ?_
 refine tk (i:=8) (v:=.string x2) rfl (Or.inl ⟨by rfl,fun W h=>by have c0:=h.2.1.c4;go_simp⟩) hHeld ?_
 obtain ⟨u1,u2,u3,u4⟩:=hHeld
 refine tr 4 rfl (fun K hK=>?_)
 rw [if_pos (by rfl)]
 go_simp
 refine (zb7 t t2 _).mono ?_
 rintro e w3 ⟨rfl,rfl⟩
 refine hK.out _ _ ⟨u1,u2,u3,u4⟩ (fun hHeld=>?_)
 clear hK K u1 u2 u3 u4
 try simp only [putS]
 obtain ⟨u1,u2,u3,u4⟩:=hHeld
 refine tr 9 rfl (fun K hK=>?_)
 rw [if_pos (by rfl)]
 go_simp
 refine (zb7 x x2 _).mono ?_
 rintro e w3 ⟨rfl,rfl⟩
 refine hK.out _ _ ⟨u1,u2,u3,u4⟩ (fun hHeld=>?_)
 clear hK K u1 u2 u3 u4
 try simp only [putS]
 obtain ⟨u1,u2,u3,u4⟩:=hHeld
 refine tr 10 rfl (fun K hK=>?_)
 go_simp
 rw [← hN]
 have x4:Six (w'.alloc (Obj.cells #[.int .i64 (zai t.toList t2.toList),.int .i64 (zai x.toList x2.toList)] 3)) (w.heap.size+1) k b n t x p q.length cap:=S4.alloc _
 have x5:Six (w'.alloc (Obj.cells #[.int .i64 (zai t.toList t2.toList),.int .i64 (zai x.toList x2.toList)] 3)) (w.heap.size+2) k2 b2 n2 t2 x2 p2 q2.length cap2:=S5.alloc _
 have xb:Low w.heap.size w (w'.alloc (Obj.cells #[.int .i64 (zai t.toList t2.toList),.int .i64 (zai x.toList x2.toList)] 3)).drew:=(b0.alloc b0.size _).drew
 have y0:(w'.alloc (Obj.cells #[.int .i64 (zai t.toList t2.toList),.int .i64 (zai x.toList x2.toList)] 3)).cell? ⟨N,0,none⟩=some (.int .i64 (zai t.toList t2.toList)):=zab (zah w' _ hN.symm) 0 rfl
 have y1:(w'.alloc (Obj.cells #[.int .i64 (zai t.toList t2.toList),.int .i64 (zai x.toList x2.toList)] 3)).cell? ⟨N,1,none⟩=some (.int .i64 (zai x.toList x2.toList)):=zab (zah w' _ hN.symm) 1 rfl
 have ys:N < (w'.alloc (Obj.cells #[.int .i64 (zai t.toList t2.toList),.int .i64 (zai x.toList x2.toList)] 3)).drew.heap.size:=by rw [hN];show w'.heap.size < (w'.alloc _).heap.size;simp
 generalize (w'.alloc (Obj.cells #[.int .i64 (zai t.toList t2.toList),.int .i64 (zai x.toList x2.toList)] 3))=V at x4 x5 xb y0 y1 ys ⊢
 clear u1 u2 u3 u4
 refine hK.out _ _ ⟨x4,x5,xb,Lib.hid fun _=>⟨y0,y1⟩⟩ (fun hHeld=>?_)
 clear hK K
 try simp only [putS]
 obtain ⟨u1,u2,u3,u4⟩:=hHeld
 obtain ⟨v0,v1⟩:=u4.out ys
 refine tr 11 rfl (fun K hK=>?_)
 rw [if_pos (by rfl)]
 go_simp
 rw [hN] at v0 v1
 with_reducible refine (orAt _ _ _ _ v0 v1).mono ?_
 rintro e w3 ⟨rfl,rfl⟩
 refine hK.out _ _ ⟨u1,u2,u3,u4⟩ (fun hHeld=>?_)
 clear hK K u1 u2 u4 v0 v1
 try simp only [putS]
 refine tr 12 rfl (fun K hK=>?_)
 go_simp
 refine hK.out _ _ hHeld (fun _=>?_)
 clear hK K hHeld
 try simp only [putS]
 refine wpAnyH_done (by kernel_rfl) ?_ _
 go_wp2_with fail
 go_ret
 exact ⟨rfl,u3⟩
end Go.Proofs.YtanbgdhmfjgihaaGreatDoor
