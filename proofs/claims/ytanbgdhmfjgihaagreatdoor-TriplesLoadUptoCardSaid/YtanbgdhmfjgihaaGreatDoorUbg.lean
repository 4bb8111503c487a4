/- Texts of one kind, one behind the other: each says ahead of itself what it shows. -/
import Derived.Test.YtanbgdhmfjgihaaGreatDoorUbf
import Derived.Test.YtanbgdhmfjgihaaGreatDoorUaz
/- FG -/
namespace Go.Proofs
open Go.Shelf
namespace YtanbgdhmfjgihaaGreatDoor
open Go.RowKit
attribute [local go_sem] Oper.semAt_some
set_option maxHeartbeats 12800000 in
set_option maxRecDepth 20000 in
theorem matBody (sp:Nat) (s:SM) (pv pr:Option Addr) (cv cr:Nat) (pp:Nat→Option Addr) (cc:Nat→Nat) (w:World) (h0:zcy w sp s pv pr cv cr pp cc) (hok:SMok s) (hp:∀ u∈s.vs,zdn u) (v0 v1 v2:V6) (g2 g5 B1 nb B5 Bx l:Nat) (hbs:w.heap.size≤B1) (hnb:nb=B1) (hg2:g2 < B1) (hg5:g5 < B1) (hB2:B5 < g2) (hB6:B5 < g5) (hB5n:w.heap.size < B5)
 (pre:List (SRow s)) (x:SRow s) (W:World) (hI:MatP w s sp B5 nb pre W) (hBx:nb≤Bx) (hbx:W.heap[Bx]?=some (.cells #[.int .i64 (x.1.a:Nat),.int .i64 (x.1.b:Nat),.int .i64 (x.1.c:Nat)] 81)) (hpl:pre.length≤65536):
 (Code.block 1 (Code.region 4 #[{ dst:=some 11,op:=Op.load 22 (Operand.tmp 5),type:=22,pos:= "triples.go:58",after:=#[],guard:=none },{ dst:=some 12,op:=Op.load 29 (Operand.tmp 2),type:=29,pos:= "triples.go:58",after:=#[],guard:=none },{ dst:=some 13,op:=Op.load 81 (Operand.tmp 6),type:=81,pos:= "triples.go:58",after:=#[],guard:=none },{ dst:=some 14,op:=Op.call { callee:=Callee.value (Operand.func 50),args:=#[Operand.tmp 12,Operand.tmp 13],argTypes:=#[29,81] },type:=41,pos:= "triples.go:58",after:=#[{ on:=1,ground:=Ground.data },{ on:=2,ground:=Ground.data }],guard:=none },{ dst:=some 15,op:=Op.buildSlice 22 1 #[(0,Operand.tmp 14)],type:=22,pos:= "triples.go:58",after:=#[{ on:=3,ground:=Ground.data }],guard:=none },{ dst:=some 16,op:=Op.call { callee:=Callee.builtin Builtin.append,args:=#[Operand.tmp 11,Operand.tmp 15],argTypes:=#[22,22] },type:=22,pos:= "triples.go:58",after:=#[{ on:=0,ground:=Ground.data },{ on:=4,ground:=Ground.data },{ on:=3,ground:=Ground.chain }],guard:=none },{ dst:=none,op:=Op.store 22 (Operand.tmp 5) (Operand.tmp 16),type:=0,pos:= "triples.go:58",after:=#[{ on:=5,ground:=Ground.data },{ on:=5,ground:=Ground.chain },{ on:=0,ground:=Ground.phase },{ on:=1,ground:=Ground.phase },{ on:=2,ground:=Ground.phase },{ on:=3,ground:=Ground.phase },{ on:=4,ground:=Ground.phase },{ on:=5,ground:=Ground.phase }],guard:=none }] true)).wpIn (Fence.wide.inRound l) 2 Tryz.prog (ownPostG B1 (zqh w.heap.size g2 g5) (MatP w s sp B5 nb) (fun _ _ _=>False) (pre++[x]) W) { tmps:=#[.pointer (some ⟨sp,0,none⟩),.agg #[.int .i64 v0.k,.bool v0.b,.int .i64 v0.n,.string v0.t,.string v0.x,.slice v0.p v0.len v0.cap,.int .i64 v1.k,.bool v1.b,.int .i64 v1.n,.string v1.t,.string v1.x,.slice v1.p v1.len v1.cap,.int .i64 v2.k,.bool v2.b,.int .i64 v2.n,.string v2.t,.string v2.x,.slice v2.p v2.len v2.cap],.pointer (some ⟨w.heap.size,0,none⟩),.pointer (some ⟨w.heap.size+1,0,none⟩),.slice none 0 0,.pointer (some ⟨B5,0,none⟩),.pointer (some ⟨Bx,0,none⟩),.pointer (some ⟨sp,0,none⟩),.agg #[.int .i64 v0.k,.bool v0.b,.int .i64 v0.n,.string v0.t,.string v0.x,.slice v0.p v0.len v0.cap,.int .i64 v1.k,.bool v1.b,.int .i64 v1.n,.string v1.t,.string v1.x,.slice v1.p v1.len v1.cap,.int .i64 v2.k,.bool v2.b,.int .i64 v2.n,.string v2.t,.string v2.x,.slice v2.p v2.len v2.cap],.func (.func 88) #[] #[.pointer (some ⟨g2,0,none⟩),.pointer (some ⟨g5,0,none⟩)],.agg #[.int .i64 (x.1.a:Nat),.int .i64 (x.1.b:Nat),.int .i64 (x.1.c:Nat)],undef,undef,undef,undef,undef,undef,undef],defers:=[] } W:=by
 obtain ⟨z0,hi,hz0,hz1,hz2⟩:=info_parts zic
 have HSI:=Lib.hid h0
 have HOK:=Lib.hid hok
 have HPL:=Lib.hid hp
 clear h0 hok hp
 obtain ⟨⟨⟨v,d,m1,m2,h3v⟩,m4,m5⟩,m6⟩:=hI
 have hrow:=HOK.out.r _ x.2
 have hsw:=HSI.out
 have hne:s.vs≠[]:=by intro e;rw [e] at hrow;exact absurd hrow.1 (by simp)
 have hvb:=hsw.v.below m6
 obtain ⟨gv,ov,rfl,e0,x0,hx0,hv0,q0,f0,g0⟩:=zfj hvb HPL.out x.1.a hrow.1
 obtain ⟨gv',ov',ee,e1,x1,hx1,hv1,q1,f1,g1⟩:=zfj hvb HPL.out x.1.b hrow.2.1
 obtain ⟨rfl,rfl⟩:gv=gv'∧ov=ov':=by injection ee with ee;injection ee with e1 e2 _;exact ⟨e1,e2⟩
 obtain ⟨gv',ov',ee,e2,x2,hx2,hv2,q2,f2,g2'⟩:=zfj hvb HPL.out x.1.c hrow.2.2
 obtain ⟨rfl,rfl⟩:gv=gv'∧ov=ov':=by injection ee with ee;injection ee with e1 e2 _;exact ⟨e1,e2⟩
 have k0:W.cell? ⟨sp,0,none⟩=some (.slice (some ⟨gv,ov,none⟩) s.vs.length cv):=(m6.cell (p:=⟨sp,0,none⟩) (World.block_lt_of_cell? w _ (zab hsw.h 0 rfl))).trans (zab hsw.h 0 rfl)
 have htri:flat [s.tri x.1]=[x0.val,x1.val,x2.val]:=by
  unfold SM.tri
  rw [zbv,zdp,hv0,hv1,hv2]
 have hc:∀ W',Below W.heap.size W W'→Calls Tryz.prog 50 #[.pointer (some ⟨sp,0,none⟩),.agg #[.int .i64 (x.1.a:Nat),.int .i64 (x.1.b:Nat),.int .i64 (x.1.c:Nat)]] W' fun e w'=>e=.returned (.agg #[.int .i64 e0.k,.bool e0.b,.int .i64 e0.n,.string e0.t,.string e0.x,.slice none 0 0,.int .i64 e1.k,.bool e1.b,.int .i64 e1.n,.string e1.t,.string e1.x,.slice none 0 0,.int .i64 e2.k,.bool e2.b,.int .i64 e2.n,.string e2.t,.string e2.x,.slice none 0 0])∧Below W'.heap.size W' w':=fun W' hb=>
  zqa sp gv ov s.vs.length cv x.1.a x.1.b x.1.c e0 e1 e2 W' hrow.1 hrow.2.1 hrow.2.2 ((hb.cell (p:=⟨sp,0,none⟩) (World.block_lt_of_cell? W _ k0)).trans k0) (zaf q0 hb) (zaf q1 hb) (zaf q2 hb) ⟨f0,g0⟩ ⟨f1,g1⟩ ⟨f2,g2'⟩
 have HC:=Lib.hid hc
 have HT3:=Lib.hid (And.intro htri (And.intro hx0 (And.intro hx1 hx2)))
 clear hc htri hx0 hx1 hx2 hv0 hv1 hv2 q0 q1 q2 hvb hsw k0 ee hrow hne f0 f1 f2 g0 g1 g2'
 gi_upto_region 4 with fail
 refine zxv (by rintro ⟨a,w,h⟩;exact h) (by kernel_rfl) (S:=fun W=>W.cell? ⟨w.heap.size,0,none⟩=some (.pointer (some ⟨sp,0,none⟩))∧W.heap[Bx]?=some (.cells #[.int .i64 (x.1.a:Nat),.int .i64 (x.1.b:Nat),.int .i64 (x.1.c:Nat)] 81)) (by kernel_rfl) ⟨m4.cell,hbx⟩ (fun hHeld=>?_)
 have L0:Below W.heap.size W W.drew:=(Below.refl _ _).drew
 refine tk (i:=1) (v:=.pointer (some ⟨sp,0,none⟩)) rfl (Or.inl ⟨by rfl,fun W h=>by have c0:=h.1;go_simp⟩) hHeld ?_
 refine tk (i:=2) rfl (yieldsIf_load_mid (by rfl) 81 (.tmp 6) rfl Bx 0 rfl [.int .i64 (x.1.a:Nat),.int .i64 (x.1.b:Nat),.int .i64 (x.1.c:Nat)] _ (fun W h=>zzu h.2) Tryz.underlying81 rfl zdy) hHeld ?_
 refine wpAnyH_ready (rs:=[0,3]) (by kernel_rfl) (by simp) ?_
 refine AllReadyH.cons rfl (fun K hK=>?_) (AllReadyH.cons rfl (fun K hK=>?_) AllReadyH.nil)
 ·have c0:=(L0.cell (p:=⟨B5,0,none⟩) m1.lt).trans m1.cell
  go_simp
  refine hK.out _ _ ⟨(L0.cell (p:=⟨w.heap.size,0,none⟩) m4.lt).trans m4.cell,(L0.block Bx (zac hbx)).trans hbx⟩ (fun _=>?_)
  clear hK K c0
  try simp only [putS]
  refine tr 3 rfl (fun K hK=>?_)
  rw [if_pos (by rfl)]
  go_simp
  refine (HC.out _ L0).mono ?_
  rintro e9 w3 ⟨rfl,hb3⟩
  have L1:=L0.trans (hb3.mono L0.size)
  clear hb3
  refine hK.out _ _ ⟨(L1.cell (p:=⟨w.heap.size,0,none⟩) m4.lt).trans m4.cell,(L1.block Bx (zac hbx)).trans hbx⟩ (fun _=>?_)
  clear hK K
  try simp only [putS]
  refine tr 4 rfl (fun K hK=>?_)
  (try rw [if_pos (by rfl)])
  go_simp
  have own3:=(za9 m2 L1).alloc (.cells #[.int .i64 e0.k,.bool e0.b,.int .i64 e0.n,.string e0.t,.string e0.x,.slice none 0 0,.int .i64 e1.k,.bool e1.b,.int .i64 e1.n,.string e1.t,.string e1.x,.slice none 0 0,.int .i64 e2.k,.bool e2.b,.int .i64 e2.n,.string e2.t,.string e2.x,.slice none 0 0] 41)
  have L2:Below W.heap.size W (w3.alloc (.cells #[.int .i64 e0.k,.bool e0.b,.int .i64 e0.n,.string e0.t,.string e0.x,.slice none 0 0,.int .i64 e1.k,.bool e1.b,.int .i64 e1.n,.string e1.t,.string e1.x,.slice none 0 0,.int .i64 e2.k,.bool e2.b,.int .i64 e2.n,.string e2.t,.string e2.x,.slice none 0 0] 41)):=L1.trans ((zap w3 _).mono L1.size)
  refine hK.out _ _ ⟨(L2.cell (p:=⟨w.heap.size,0,none⟩) m4.lt).trans m4.cell,(L2.block Bx (zac hbx)).trans hbx⟩ (fun _=>?_)
  clear hK K
  try simp only [putS]
  refine tr 5 rfl (fun K hK=>?_)
  refine step_append_lies _ (by rfl) _ _ _ (by rfl) nb 41 z0 _ 18 240 Tryz.underlying22 hi hz0 hz1 hz2 rfl (by omega) v pre.length (d.flatMap VE.enc) (by rfl) own3 ⟨w3.heap.size,0,none⟩ 1 1 [.int .i64 e0.k,.bool e0.b,.int .i64 e0.n,.string e0.t,.string e0.x,.slice none 0 0,.int .i64 e1.k,.bool e1.b,.int .i64 e1.n,.string e1.t,.string e1.x,.slice none 0 0,.int .i64 e2.k,.bool e2.b,.int .i64 e2.n,.string e2.t,.string e2.x,.slice none 0 0] (by rfl) (by rfl) (World.news_of_block (cs:=#[.int .i64 e0.k,.bool e0.b,.int .i64 e0.n,.string e0.t,.string e0.x,.slice none 0 0,.int .i64 e1.k,.bool e1.b,.int .i64 e1.n,.string e1.t,.string e1.x,.slice none 0 0,.int .i64 e2.k,.bool e2.b,.int .i64 e2.n,.string e2.t,.string e2.x,.slice none 0 0]) (t:=41) (fr:=(0,0)) (by exact heap_alloc_new w3 _)) (by simp [Value.oneCell']) (by omega) (by unfold maxLen;omega) (by omega) (by simp;have:=L1.size;omega) (w3.heap.size+1) (by simp) ?_
  intro gg cap' w4 hr4 hg4 hat4 hlt4
  have hnv:∀ z,v.ownBlock=some z→nb≤z∧z≠Bx:=fun z hz=>⟨(own3.lt z hz).1,fun e=>by subst e;exact zxw own3 hz ((L2.block _ (zac hbx)).trans hbx) (by decide)⟩
  have b4:∀ k,k < W.heap.size→(∀ z,v.ownBlock=some z→k≠z)→w4.heap[k]?=W.heap[k]?:=fun k hk hz=>(hg4.block k (Nat.lt_of_lt_of_le hk L2.size) (fun e=>hz _ e.symm rfl)).trans (L2.block k hk)
  have x4:=(b4 Bx (zac hbx) (fun z hz e=>(hnv z hz).2 e.symm)).trans hbx
  have y4:Boxed w4 w.heap.size 29 (.pointer (some ⟨sp,0,none⟩)):=(b4 _ m4.lt (fun z hz e=>by have:=(hnv z hz).1;omega)).trans m4
  have B4:Boxed w4 B5 22 v:=(b4 _ m1.lt (fun z hz e=>by have:=(hnv z hz).1;omega)).trans m1
  have k2:=b4 g2 (by omega) (fun z hz e=>by have:=(hnv z hz).1;omega)
  have k5:=b4 g5 (by omega) (fun z hz e=>by have:=(hnv z hz).1;omega)
  refine hK.out _ _ ⟨y4.cell,x4⟩ (fun _=>?_)
  clear hK K
  try simp only [putS]
  refine tr 6 rfl (fun K hK=>?_)
  have c0:=B4.cell
  have f0:=B4.frozen
  go_simp
  have z4:Below w.heap.size w w4:=(m6.trans (L2.mono m6.size)).grown hg4 (by have:=L2.size;have:=m6.size;omega) (fun z hz=>by have:=(hnv z hz).1;omega)
  have zz:Below w.heap.size W w4:=(L2.mono m6.size).grown hg4 (by have:=L2.size;have:=m6.size;omega) (fun z hz=>by have:=(hnv z hz).1;omega)
  refine hK.out _ _ ⟨(y4.other (by omega) _).cell,((Below.heap_setCell _ _ _ _ (by simp;omega))).trans x4⟩ (fun _=>?_)
  clear hK K c0 f0
  try simp only [putS]
  refine wpAnyH_done (by kernel_rfl) ?_ _
  have hkf:KeepsFrom B1 W (w4.setCell ⟨B5,0,none⟩ (.slice (some ⟨gg,0,none⟩) (pre.length+1) cap')):=(zls own3 L2 hg4).trans ((KeepsOthers.setCell _ _ _).from _)
  have hfin:MatP w s sp B5 nb (pre++[x]) (w4.setCell ⟨B5,0,none⟩ (.slice (some ⟨gg,0,none⟩) (pre.length+1) cap')):=by
   obtain ⟨htri,hx0,hx1,hx2⟩:=HT3.out
   refine ⟨⟨⟨_,d++[x0,x1,x2],B4.set _,?_,?_⟩,y4.other (by omega) _,?_⟩,z4.setCell (p:=⟨B5,0,none⟩) (show w.heap.size≤B5 by omega) _⟩
   ·rw [List.flatMap_append,List.length_append]
    have e:[x0,x1,x2].flatMap VE.enc=[.int .i64 e0.k,.bool e0.b,.int .i64 e0.n,.string e0.t,.string e0.x,.slice none 0 0,.int .i64 e1.k,.bool e1.b,.int .i64 e1.n,.string e1.t,.string e1.x,.slice none 0 0,.int .i64 e2.k,.bool e2.b,.int .i64 e2.n,.string e2.t,.string e2.x,.slice none 0 0]:=by simp [VE.enc,hx0,hx1,hx2]
    rw [e]
    exact hr4.kept (grownBy_setCell' _ _ _) (.inr (fun e=>by
     have:=hr4.lt B5 e
     have:=this.1
     omega))
   ·rw [List.map_append,h3v,List.map_append,List.map_append,zfl]
    exact congrArg _ htri.symm
   ·have:=L2.size
    have:=hg4.size
    have:=m5
    show nb≤(w4.setCell _ _).heap.size
    rw [World.size_setCell]
    omega
  exact ⟨hkf,⟨zz.setCell (p:=⟨B5,0,none⟩) (show w.heap.size≤B5 by omega) _,(Below.heap_setCell _ _ _ _ (by simp;omega)).trans k2,(Below.heap_setCell _ _ _ _ (by simp;omega)).trans k5⟩,hfin⟩
 ·rw [if_pos (by rfl)]
  go_simp
  refine (HC.out _ L0).mono ?_
  rintro e9 w3 ⟨rfl,hb3⟩
  have L1:=L0.trans (hb3.mono L0.size)
  clear hb3
  refine hK.out _ _ ⟨(L1.cell (p:=⟨w.heap.size,0,none⟩) m4.lt).trans m4.cell,(L1.block Bx (zac hbx)).trans hbx⟩ (fun _=>?_)
  clear hK K
  try simp only [putS]
  refine wpAnyH_ready (rs:=[0,4]) (by kernel_rfl) (by simp) ?_
  refine AllReadyH.cons rfl (fun K hK=>?_) (AllReadyH.cons rfl (fun K hK=>?_) AllReadyH.nil)
  ·have c0:=(L1.cell (p:=⟨B5,0,none⟩) m1.lt).trans m1.cell
   go_simp
   refine hK.out _ _ ⟨(L1.cell (p:=⟨w.heap.size,0,none⟩) m4.lt).trans m4.cell,(L1.block Bx (zac hbx)).trans hbx⟩ (fun _=>?_)
   clear hK K c0
   try simp only [putS]
   refine tr 4 rfl (fun K hK=>?_)
   (try rw [if_pos (by rfl)])
   go_simp
   have own3:=(za9 m2 L1).alloc (.cells #[.int .i64 e0.k,.bool e0.b,.int .i64 e0.n,.string e0.t,.string e0.x,.slice none 0 0,.int .i64 e1.k,.bool e1.b,.int .i64 e1.n,.string e1.t,.string e1.x,.slice none 0 0,.int .i64 e2.k,.bool e2.b,.int .i64 e2.n,.string e2.t,.string e2.x,.slice none 0 0] 41)
   have L2:Below W.heap.size W (w3.alloc (.cells #[.int .i64 e0.k,.bool e0.b,.int .i64 e0.n,.string e0.t,.string e0.x,.slice none 0 0,.int .i64 e1.k,.bool e1.b,.int .i64 e1.n,.string e1.t,.string e1.x,.slice none 0 0,.int .i64 e2.k,.bool e2.b,.int .i64 e2.n,.string e2.t,.string e2.x,.slice none 0 0] 41)):=L1.trans ((zap w3 _).mono L1.size)
   refine hK.out _ _ ⟨(L2.cell (p:=⟨w.heap.size,0,none⟩) m4.lt).trans m4.cell,(L2.block Bx (zac hbx)).trans hbx⟩ (fun _=>?_)
   clear hK K
   try simp only [putS]
   refine tr 5 rfl (fun K hK=>?_)
   refine step_append_lies _ (by rfl) _ _ _ (by rfl) nb 41 z0 _ 18 240 Tryz.underlying22 hi hz0 hz1 hz2 rfl (by omega) v pre.length (d.flatMap VE.enc) (by rfl) own3 ⟨w3.heap.size,0,none⟩ 1 1 [.int .i64 e0.k,.bool e0.b,.int .i64 e0.n,.string e0.t,.string e0.x,.slice none 0 0,.int .i64 e1.k,.bool e1.b,.int .i64 e1.n,.string e1.t,.string e1.x,.slice none 0 0,.int .i64 e2.k,.bool e2.b,.int .i64 e2.n,.string e2.t,.string e2.x,.slice none 0 0] (by rfl) (by rfl) (World.news_of_block (cs:=#[.int .i64 e0.k,.bool e0.b,.int .i64 e0.n,.string e0.t,.string e0.x,.slice none 0 0,.int .i64 e1.k,.bool e1.b,.int .i64 e1.n,.string e1.t,.string e1.x,.slice none 0 0,.int .i64 e2.k,.bool e2.b,.int .i64 e2.n,.string e2.t,.string e2.x,.slice none 0 0]) (t:=41) (fr:=(0,0)) (by exact heap_alloc_new w3 _)) (by simp [Value.oneCell']) (by omega) (by unfold maxLen;omega) (by omega) (by simp;have:=L1.size;omega) (w3.heap.size+1) (by simp) ?_
   intro gg cap' w4 hr4 hg4 hat4 hlt4
   have hnv:∀ z,v.ownBlock=some z→nb≤z∧z≠Bx:=fun z hz=>⟨(own3.lt z hz).1,fun e=>by subst e;exact zxw own3 hz ((L2.block _ (zac hbx)).trans hbx) (by decide)⟩
   have b4:∀ k,k < W.heap.size→(∀ z,v.ownBlock=some z→k≠z)→w4.heap[k]?=W.heap[k]?:=fun k hk hz=>(hg4.block k (Nat.lt_of_lt_of_le hk L2.size) (fun e=>hz _ e.symm rfl)).trans (L2.block k hk)
   have x4:=(b4 Bx (zac hbx) (fun z hz e=>(hnv z hz).2 e.symm)).trans hbx
   have y4:Boxed w4 w.heap.size 29 (.pointer (some ⟨sp,0,none⟩)):=(b4 _ m4.lt (fun z hz e=>by have:=(hnv z hz).1;omega)).trans m4
   have B4:Boxed w4 B5 22 v:=(b4 _ m1.lt (fun z hz e=>by have:=(hnv z hz).1;omega)).trans m1
   have k2:=b4 g2 (by omega) (fun z hz e=>by have:=(hnv z hz).1;omega)
   have k5:=b4 g5 (by omega) (fun z hz e=>by have:=(hnv z hz).1;omega)
   refine hK.out _ _ ⟨y4.cell,x4⟩ (fun _=>?_)
   clear hK K
   try simp only [putS]
   refine tr 6 rfl (fun K hK=>?_)
   have c0:=B4.cell
   have f0:=B4.frozen
   go_simp
   have z4:Below w.heap.size w w4:=(m6.trans (L2.mono m6.size)).grown hg4 (by have:=L2.size;have:=m6.size;omega) (fun z hz=>by have:=(hnv z hz).1;omega)
   have zz:Below w.heap.size W w4:=(L2.mono m6.size).grown hg4 (by have:=L2.size;have:=m6.size;omega) (fun z hz=>by have:=(hnv z hz).1;omega)
   refine hK.out _ _ ⟨(y4.other (by omega) _).cell,((Below.heap_setCell _ _ _ _ (by simp;omega))).trans x4⟩ (fun _=>?_)
   clear hK K c0 f0
   try simp only [putS]
   refine wpAnyH_done (by kernel_rfl) ?_ _
   have hkf:KeepsFrom B1 W (w4.setCell ⟨B5,0,none⟩ (.slice (some ⟨gg,0,none⟩) (pre.length+1) cap')):=(zls own3 L2 hg4).trans ((KeepsOthers.setCell _ _ _).from _)
   have hfin:MatP w s sp B5 nb (pre++[x]) (w4.setCell ⟨B5,0,none⟩ (.slice (some ⟨gg,0,none⟩) (pre.length+1) cap')):=by
    obtain ⟨htri,hx0,hx1,hx2⟩:=HT3.out
    refine ⟨⟨⟨_,d++[x0,x1,x2],B4.set _,?_,?_⟩,y4.other (by omega) _,?_⟩,z4.setCell (p:=⟨B5,0,none⟩) (show w.heap.size≤B5 by omega) _⟩
    ·rw [List.flatMap_append,List.length_append]
     have e:[x0,x1,x2].flatMap VE.enc=[.int .i64 e0.k,.bool e0.b,.int .i64 e0.n,.string e0.t,.string e0.x,.slice none 0 0,.int .i64 e1.k,.bool e1.b,.int .i64 e1.n,.string e1.t,.string e1.x,.slice none 0 0,.int .i64 e2.k,.bool e2.b,.int .i64 e2.n,.string e2.t,.string e2.x,.slice none 0 0]:=by simp [VE.enc,hx0,hx1,hx2]
     rw [e]
     exact hr4.kept (grownBy_setCell' _ _ _) (.inr (fun e=>by
      have:=hr4.lt B5 e
      have:=this.1
      omega))
    ·rw [List.map_append,h3v,List.map_append,List.map_append,zfl]
     exact congrArg _ htri.symm
    ·have:=L2.size
     have:=hg4.size
     have:=m5
     show nb≤(w4.setCell _ _).heap.size
     rw [World.size_setCell]
     omega
   exact ⟨hkf,⟨zz.setCell (p:=⟨B5,0,none⟩) (show w.heap.size≤B5 by omega) _,(Below.heap_setCell _ _ _ _ (by simp;omega)).trans k2,(Below.heap_setCell _ _ _ _ (by simp;omega)).trans k5⟩,hfin⟩
  ·(try rw [if_pos (by rfl)])
   go_simp
   have own3:=(za9 m2 L1).alloc (.cells #[.int .i64 e0.k,.bool e0.b,.int .i64 e0.n,.string e0.t,.string e0.x,.slice none 0 0,.int .i64 e1.k,.bool e1.b,.int .i64 e1.n,.string e1.t,.string e1.x,.slice none 0 0,.int .i64 e2.k,.bool e2.b,.int .i64 e2.n,.string e2.t,.string e2.x,.slice none 0 0] 41)
   have L2:Below W.heap.size W (w3.alloc (.cells #[.int .i64 e0.k,.bool e0.b,.int .i64 e0.n,.string e0.t,.string e0.x,.slice none 0 0,.int .i64 e1.k,.bool e1.b,.int .i64 e1.n,.string e1.t,.string e1.x,.slice none 0 0,.int .i64 e2.k,.bool e2.b,.int .i64 e2.n,.string e2.t,.string e2.x,.slice none 0 0] 41)):=L1.trans ((zap w3 _).mono L1.size)
   refine hK.out _ _ ⟨(L2.cell (p:=⟨w.heap.size,0,none⟩) m4.lt).trans m4.cell,(L2.block Bx (zac hbx)).trans hbx⟩ (fun _=>?_)
   clear hK K
   try simp only [putS]
   refine tr 0 rfl (fun K hK=>?_)
   have c0:=(L2.cell (p:=⟨B5,0,none⟩) m1.lt).trans m1.cell
   go_simp
   refine hK.out _ _ ⟨(L2.cell (p:=⟨w.heap.size,0,none⟩) m4.lt).trans m4.cell,(L2.block Bx (zac hbx)).trans hbx⟩ (fun _=>?_)
   clear hK K c0
   try simp only [putS]
   refine tr 5 rfl (fun K hK=>?_)
   refine step_append_lies _ (by rfl) _ _ _ (by rfl) nb 41 z0 _ 18 240 Tryz.underlying22 hi hz0 hz1 hz2 rfl (by omega) v pre.length (d.flatMap VE.enc) (by rfl) own3 ⟨w3.heap.size,0,none⟩ 1 1 [.int .i64 e0.k,.bool e0.b,.int .i64 e0.n,.string e0.t,.string e0.x,.slice none 0 0,.int .i64 e1.k,.bool e1.b,.int .i64 e1.n,.string e1.t,.string e1.x,.slice none 0 0,.int .i64 e2.k,.bool e2.b,.int .i64 e2.n,.string e2.t,.string e2.x,.slice none 0 0] (by rfl) (by rfl) (World.news_of_block (cs:=#[.int .i64 e0.k,.bool e0.b,.int .i64 e0.n,.string e0.t,.string e0.x,.slice none 0 0,.int .i64 e1.k,.bool e1.b,.int .i64 e1.n,.string e1.t,.string e1.x,.slice none 0 0,.int .i64 e2.k,.bool e2.b,.int .i64 e2.n,.string e2.t,.string e2.x,.slice none 0 0]) (t:=41) (fr:=(0,0)) (by exact heap_alloc_new w3 _)) (by simp [Value.oneCell']) (by omega) (by unfold maxLen;omega) (by omega) (by simp;have:=L1.size;omega) (w3.heap.size+1) (by simp) ?_
   intro gg cap' w4 hr4 hg4 hat4 hlt4
   have hnv:∀ z,v.ownBlock=some z→nb≤z∧z≠Bx:=fun z hz=>⟨(own3.lt z hz).1,fun e=>by subst e;exact zxw own3 hz ((L2.block _ (zac hbx)).trans hbx) (by decide)⟩
   have b4:∀ k,k < W.heap.size→(∀ z,v.ownBlock=some z→k≠z)→w4.heap[k]?=W.heap[k]?:=fun k hk hz=>(hg4.block k (Nat.lt_of_lt_of_le hk L2.size) (fun e=>hz _ e.symm rfl)).trans (L2.block k hk)
   have x4:=(b4 Bx (zac hbx) (fun z hz e=>(hnv z hz).2 e.symm)).trans hbx
   have y4:Boxed w4 w.heap.size 29 (.pointer (some ⟨sp,0,none⟩)):=(b4 _ m4.lt (fun z hz e=>by have:=(hnv z hz).1;omega)).trans m4
   have B4:Boxed w4 B5 22 v:=(b4 _ m1.lt (fun z hz e=>by have:=(hnv z hz).1;omega)).trans m1
   have k2:=b4 g2 (by omega) (fun z hz e=>by have:=(hnv z hz).1;omega)
   have k5:=b4 g5 (by omega) (fun z hz e=>by have:=(hnv z hz).1;omega)
   refine hK.out _ _ ⟨y4.cell,x4⟩ (fun _=>?_)
   clear hK K
   try simp only [putS]
   refine tr 6 rfl (fun K hK=>?_)
   have c0:=B4.cell
   have f0:=B4.frozen
   go_simp
   have z4:Below w.heap.size w w4:=(m6.trans (L2.mono m6.size)).grown hg4 (by have:=L2.size;have:=m6.size;omega) (fun z hz=>by have:=(hnv z hz).1;omega)
   have zz:Below w.heap.size W w4:=(L2.mono m6.size).grown hg4 (by have:=L2.size;have:=m6.size;omega) (fun z hz=>by have:=(hnv z hz).1;omega)
   refine hK.out _ _ ⟨(y4.other (by omega) _).cell,((Below.heap_setCell _ _ _ _ (by simp;omega))).trans x4⟩ (fun _=>?_)
   clear hK K c0 f0
   try simp only [putS]
   refine wpAnyH_done (by kernel_rfl) ?_ _
   have hkf:KeepsFrom B1 W (w4.setCell ⟨B5,0,none⟩ (.slice (some ⟨gg,0,none⟩) (pre.length+1) cap')):=(zls own3 L2 hg4).trans ((KeepsOthers.setCell _ _ _).from _)
   have hfin:MatP w s sp B5 nb (pre++[x]) (w4.setCell ⟨B5,0,none⟩ (.slice (some ⟨gg,0,none⟩) (pre.length+1) cap')):=by
    obtain ⟨htri,hx0,hx1,hx2⟩:=HT3.out
    refine ⟨⟨⟨_,d++[x0,x1,x2],B4.set _,?_,?_⟩,y4.other (by omega) _,?_⟩,z4.setCell (p:=⟨B5,0,none⟩) (show w.heap.size≤B5 by omega) _⟩
    ·rw [List.flatMap_append,List.length_append]
     have e:[x0,x1,x2].flatMap VE.enc=[.int .i64 e0.k,.bool e0.b,.int .i64 e0.n,.string e0.t,.string e0.x,.slice none 0 0,.int .i64 e1.k,.bool e1.b,.int .i64 e1.n,.string e1.t,.string e1.x,.slice none 0 0,.int .i64 e2.k,.bool e2.b,.int .i64 e2.n,.string e2.t,.string e2.x,.slice none 0 0]:=by simp [VE.enc,hx0,hx1,hx2]
     rw [e]
     exact hr4.kept (grownBy_setCell' _ _ _) (.inr (fun e=>by
      have:=hr4.lt B5 e
      have:=this.1
      omega))
    ·rw [List.map_append,h3v,List.map_append,List.map_append,zfl]
     exact congrArg _ htri.symm
    ·have:=L2.size
     have:=hg4.size
     have:=m5
     show nb≤(w4.setCell _ _).heap.size
     rw [World.size_setCell]
     omega
   exact ⟨hkf,⟨zz.setCell (p:=⟨B5,0,none⟩) (show w.heap.size≤B5 by omega) _,(Below.heap_setCell _ _ _ _ (by simp;omega)).trans k2,(Below.heap_setCell _ _ _ _ (by simp;omega)).trans k5⟩,hfin⟩
end YtanbgdhmfjgihaaGreatDoor
end Go.Proofs

/- FH -/
namespace Go.Proofs
open Go.Shelf
namespace YtanbgdhmfjgihaaGreatDoor
open Go.RowKit
attribute [local go_sem] Oper.semAt_some
set_option maxHeartbeats 12800000 in
set_option maxRecDepth 20000 in
theorem matchAt (sp:Nat) (l:List Tri3) (s:SM) (pv pr:Option Addr) (cv cr:Nat) (pp:Nat→Option Addr) (cc:Nat→Nat) (w:World) (h0:zcy w sp s pv pr cv cr pp cc) (hcc:∀ k,k < 6→(s.ls k).length≤cc k) (hl:zbf l s) (hn:l.length≤65536) (hp:∀ u∈s.vs,zdn u) (hG:Gd w) (hT:Tab w)
 (v0 v1 v2:V6) (u:Nat→Val) (q:Nat→List Val) (i0:Is w v0 (u 0) (q 0)) (i1:Is w v1 (u 1) (q 1)) (i2:Is w v2 (u 2) (q 2)) (b:Nat→Bool) (hb0:b 0=decide (v0.k=0)) (hb1:b 1=decide (v1.k=0)) (hb2:b 2=decide (v2.k=0))
 (hs:∀ v,b v=false→∀ a∈s.vs,za7 a (u v)=true↔a=u v):
 Calls Tryz.prog 17 #[.pointer (some ⟨sp,0,none⟩),.agg #[.int .i64 v0.k,.bool v0.b,.int .i64 v0.n,.string v0.t,.string v0.x,.slice v0.p v0.len v0.cap,.int .i64 v1.k,.bool v1.b,.int .i64 v1.n,.string v1.t,.string v1.x,.slice v1.p v1.len v1.cap,.int .i64 v2.k,.bool v2.b,.int .i64 v2.n,.string v2.t,.string v2.x,.slice v2.p v2.len v2.cap]] w (zfb w ((zb2 s b u (jnB v0 v1 v2)).map s.tri)):=by
 obtain ⟨z0,hi,hz0,hz1,hz2⟩:=info_parts zic
 have hlen:=zlr hl hn b u (jnB v0 v1 v2)
 have hst:=fun g2 g5 w1 hit=>zta sp l s pv pr cv cr pp cc w h0 hcc hl hn hG hT v0 v1 v2 u q i0 i1 i2 b hb0 hb1 hb2 hs g2 g5 w1 hit
 obtain ⟨X,hX⟩:∃ X,X=zb2 s b u (jnB v0 v1 v2):=⟨_,rfl⟩
 rw [← hX] at hst hlen ⊢
 obtain ⟨W0,hW0⟩:∃ W0,W0=((w.alloc (.cells #[.pointer (some ⟨sp,0,none⟩)] 29)).alloc (.cells #[.int .i64 v0.k,.bool v0.b,.int .i64 v0.n,.string v0.t,.string v0.x,.slice v0.p v0.len v0.cap,.int .i64 v1.k,.bool v1.b,.int .i64 v1.n,.string v1.t,.string v1.x,.slice v1.p v1.len v1.cap,.int .i64 v2.k,.bool v2.b,.int .i64 v2.n,.string v2.t,.string v2.x,.slice v2.p v2.len v2.cap] 45)).alloc (.cells #[.slice none 0 0] 22):=⟨_,rfl⟩
 have b0:Below w.heap.size w W0:=by rw [hW0];exact (zdx _ _ _).alloc (by simp;omega) _
 have s0:W0.heap[w.heap.size]?=some (.cells #[.pointer (some ⟨sp,0,none⟩)] 29):=by rw [hW0];exact zau _ (zau _ (zag _ _ rfl))
 have p0:W0.heap[w.heap.size+1]?=some (.cells #[.int .i64 v0.k,.bool v0.b,.int .i64 v0.n,.string v0.t,.string v0.x,.slice v0.p v0.len v0.cap,.int .i64 v1.k,.bool v1.b,.int .i64 v1.n,.string v1.t,.string v1.x,.slice v1.p v1.len v1.cap,.int .i64 v2.k,.bool v2.b,.int .i64 v2.n,.string v2.t,.string v2.x,.slice v2.p v2.len v2.cap] 45):=by rw [hW0];exact zau _ (zag _ _ (by simp))
 have n0:Boxed W0 (w.heap.size+1+1) 22 (.slice none 0 0):=by rw [hW0];exact zag _ _ (by simp)
 have cs0:=zab s0 0 rfl
 have HST:=Lib.hid hst
 have HB:=Lib.hid b0
 have HN:=Lib.hid n0
 have HS0:=Lib.hid s0
 have HW:=Lib.hid hW0
 have HSI:=Lib.hid h0
 have HOK:=Lib.hid (hl.ok hn)
 have HPL:=Lib.hid hp
 clear hst h0 hcc hl hG hT i0 i1 i2 hb0 hb1 hb2 hs hX hn hp s0
 refine (callsIn_wide (n:=4)).1 ?_
 refine callsIn_of_wp_marks Tryz.func17 rfl trivial ?_ rfl
 simp only [Tryz.ntmps17,List.size_toArray,List.length_cons,List.length_nil,Nat.reduceAdd,Nat.reduceSub,Array.replicate_succ,Array.replicate_zero,List.push_toArray,List.append_toArray,List.nil_append,List.cons_append]
 gi_upto_region 2 with fail
 try rw [← HW.out]
 gi_wp2_with (first
  |((with_reducible refine inPat zis (.tmp 3) (w.heap.size+1) v0 v1 v2 p0 ?_ ?_ ?_ ?_);rfl;rfl;rfl)
  |(refine ⟨trivial,?_⟩;gi_at_call 51;refine Hid.out ?_))
 refine Lib.hid ?_
 refine (callsIn_wide.2 (zqg sp v0 v1 v2 _)).mono ?_
 rintro e w1 hfp
 try rw [← HW.out] at hfp
 obtain ⟨g2,g5,rfl,hit,h2,h5⟩:=hfp
 have hs0:=HB.out.size
 have hs1:w.heap.size+1+1 < W0.heap.size:=HN.out.lt
 have b1:=hit.bel
 have hs2:=b1.size
 have hit2:=hit.from HB.out
 have hg2:=zac hit.c2
 have hg5:=zac hit.way
 have HX:=Lib.hid (HST.out g2 g5 w1 hit2)
 have n1:Boxed w1 (w.heap.size+1+1) 22 (.slice none 0 0):=(b1.block _ hs1).trans HN.out
 have m1:Boxed w1 w.heap.size 29 (.pointer (some ⟨sp,0,none⟩)):=(b1.block _ (by omega)).trans HS0.out
 have hbs:=hit2.bel.size
 obtain ⟨nb,hnb⟩:∃ nb,nb=w1.heap.size:=⟨_,rfl⟩
 have HM1:Hid (MatP w s sp (w.heap.size+1+1) nb [] w1):=Lib.hid ⟨⟨⟨_,[],n1,World.ownsRow_nil _ _ _ _,rfl⟩,m1,Nat.le_of_eq hnb⟩,hit2.bel⟩
 clear hit hit2 b1 p0 HST n1 m1 cs0
 obtain ⟨B5,hB5⟩:∃ B5,B5=w.heap.size+1+1:=⟨_,rfl⟩
 rw [← hB5] at HM1 HN hs1 ⊢
 have hB5n:w.heap.size < B5:=by omega
 clear hB5
 gi_wp2
 refine wpIn_rangeFunc_ownH (gf:=88) (lb:=#[.pointer (some ⟨g2,0,none⟩),.pointer (some ⟨g5,0,none⟩)]) rfl (by decide) rfl trivial (enters_of Tryz.func88 (by kernel_rfl) rfl) HX.out zxr (zxs hbs hg2 hg5) (Below.refl _ _) (fun _=>rfl)
  (MatP w s sp B5 nb)
  (fun _ _ _=>False)
  (OwnFrom.and (Own.from (fun pre A B row hs hg hr=>⟨mat_own s B5 nb pre A B row hs.1 hg hr,boxed_own w.heap.size 29 (fun _:Unit=>.pointer (some ⟨sp,0,none⟩)) () A B row hs.2.1 hg hr,Nat.le_trans hs.2.2 hg.size⟩) _) (ownFrom_below (Nat.le_refl _) hbs))
  (fun _ _ _ _ _ hs _ _=>hs)
  HM1.out
  (MatX nb (fun x Bx=>{ tmps:=#[.pointer (some ⟨sp,0,none⟩),.agg #[.int .i64 v0.k,.bool v0.b,.int .i64 v0.n,.string v0.t,.string v0.x,.slice v0.p v0.len v0.cap,.int .i64 v1.k,.bool v1.b,.int .i64 v1.n,.string v1.t,.string v1.x,.slice v1.p v1.len v1.cap,.int .i64 v2.k,.bool v2.b,.int .i64 v2.n,.string v2.t,.string v2.x,.slice v2.p v2.len v2.cap],.pointer (some ⟨w.heap.size,0,none⟩),.pointer (some ⟨w.heap.size+1,0,none⟩),.slice none 0 0,.pointer (some ⟨B5,0,none⟩),.pointer (some ⟨Bx,0,none⟩),.pointer (some ⟨sp,0,none⟩),.agg #[.int .i64 v0.k,.bool v0.b,.int .i64 v0.n,.string v0.t,.string v0.x,.slice v0.p v0.len v0.cap,.int .i64 v1.k,.bool v1.b,.int .i64 v1.n,.string v1.t,.string v1.x,.slice v1.p v1.len v1.cap,.int .i64 v2.k,.bool v2.b,.int .i64 v2.n,.string v2.t,.string v2.x,.slice v2.p v2.len v2.cap],.func (.func 88) #[] #[.pointer (some ⟨g2,0,none⟩),.pointer (some ⟨g5,0,none⟩)],.agg #[.int .i64 (x.1.a:Nat),.int .i64 (x.1.b:Nat),.int .i64 (x.1.c:Nat)],undef,undef,undef,undef,undef,undef,undef],defers:=[] }))
  (fun x a'=>Own.from (zzv nb _ x a') _)
  ?assign ?body ?done ?stop
 case assign=>
  rintro l pre x W K hI hK
  have HI:=Lib.hid hI
  have HK:=Lib.hid hK
  clear hI hK
  gi_wp2_with (first
   |((with_reducible refine zlq (wideR l) (.tmp 6) (.tmp 10) W.heap.size x.1.a x.1.b x.1.c (zag _ _ rfl) rfl ?_ ?_ ?_ ?_ ?_);rfl;rfl;rfl;rfl;intro w5 ho5 R5))
  have hw1:=HI.out.1.2.2
  have z5:Below W.heap.size W w5:=zai (zap W _) ho5 (Nat.le_refl _) (by simp)
  have hkf:KeepsFrom w1.heap.size W w5:=⟨z5.size,fun k o _ hk _=>(z5.block k (zac hk)).trans hk⟩
  have hkp:zqh w.heap.size g2 g5 W w5:=⟨z5.mono HI.out.2.size,z5.block _ (by omega),z5.block _ (by omega)⟩
  have hI5:MatP w s sp B5 nb pre w5:=by
   obtain ⟨⟨⟨v,d,m1,m2,m3⟩,m4,m5⟩,m6⟩:=HI.out
   exact ⟨⟨⟨v,d,(z5.block _ m1.lt).trans m1,za9 m2 z5,m3⟩,(z5.block _ m4.lt).trans m4,Nat.le_trans m5 z5.size⟩,m6.trans (z5.mono m6.size)⟩
  clear z5 ho5
  generalize W.heap.size=Bx at*
  exact HK.out _ _ hkf hkp hI5 ⟨Bx,hw1,R5,rfl⟩
 case body=>
  rintro l pre x a' W hl hrec hI ⟨Bx,hBx,hbx,rfl⟩ hlt
  exact matBody sp s pv pr cv cr pp cc w HSI.out HOK.out HPL.out v0 v1 v2 g2 g5 w1.heap.size nb B5 Bx l hbs hnb hg2 hg5 (by omega) (by omega) hB5n pre x W hI hBx hbx (by omega)
 case done=>
  rintro D ys W hD hys ⟨⟨⟨v,d,m1,m2,h3v⟩,m4,m5⟩,m6⟩ hK
  have hc:=m1.cell
  have HK:=Lib.hid hK
  have HF:Hid (zfb w (X.map s.tri) (.returned v) (W.putObj D (.deferred none))):=Lib.hid (by
   rw [← hys]
   have m7:Boxed (W.putObj D (.deferred none)) B5 22 v:=(World.putObj_heap_other (by omega)).trans m1
   exact mat_end (s:=s) (k:=ys.length) ⟨m7,ownsRow_putObj m2 _ hK rfl,h3v⟩ (by rw [List.length_map,List.length_map]) (m6.trans (belowK_b (w:=w) (Nat.le_refl _) W D _ _ (by omega) hK rfl rfl)) (by omega))
  clear hys m1 m2 h3v m4 m5 m6 hK
  gi_wp2
  refine ⟨by simp,.inl ⟨_,_,rfl,run_takeDeferred HK.out,?_⟩⟩
  refine ⟨_,results_tmp rfl _ _ _,?_⟩
  exact HF.out
 case stop=>
  rintro D c pre W _ _ h _
  exact h.elim
end YtanbgdhmfjgihaaGreatDoor
end Go.Proofs

/- FI -/
namespace Go.Proofs.YtanbgdhmfjgihaaGreatDoor
open Go.RowKit
theorem ztc {a u:Val} (ha:zdn a):za7 a u=true↔a=u:=by
 obtain ⟨k2,b2,n2,t2,x2,l2⟩:=u
 cases l2 with
 | nil=>exact zd7 ha ⟨k2,b2,n2,t2,x2,rfl⟩
 | cons c r=>
   obtain ⟨k,b,n,t,x,rfl⟩:=ha
   constructor
   ·intro h
    rw [za7] at h
    simp at h
   ·intro h
    injection h with _ _ _ _ _ h6
    cases h6
def b3 (v0 v1 v2:V6):Nat→Bool
 | 0=>decide (v0.k=0)
 | 1=>decide (v1.k=0)
 | _=>decide (v2.k=0)
def u3 (u0 u1 u2:Val):Nat→Val
 | 0=>u0
 | 1=>u1
 | _=>u2
def q3 (q0 q1 q2:List Val):Nat→List Val
 | 0=>q0
 | 1=>q1
 | _=>q2
structure Sto (W:World) (sp:Nat) (l:List Tri3) (s:SM):Prop where
 g:Gd W
 t:Tab W
 n:l.length≤65536
 ld:zbf l s
 ok:∀ t∈l,zci t=true
 st:∃ pv pr cv cr pp cc,zcy W sp s pv pr cv cr pp cc∧∀ k,k < 6→(s.ls k).length≤cc k
theorem Sto.below {W W':World} {sp:Nat} {l:List Tri3} {s:SM} (h:Sto W sp l s) (b:Below W.heap.size W W'):Sto W' sp l s:=by
 obtain ⟨h1,h2,h3,h4,h5,pv,pr,cv,cr,pp,cc,h6,h7⟩:=h
 exact ⟨h1.below b,h2.below b,h3,h4,h5,pv,pr,cv,cr,pp,cc,h6.belowF b,h7⟩
theorem Sto.plain {W:World} {sp:Nat} {l:List Tri3} {s:SM} (h:Sto W sp l s):∀ u∈s.vs,zdn u:=fun u hu=>(h.ld.plain h.ok u hu).1
def SM.fit (s:SM) (v0 v1 v2:V6) (u0 u1 u2:Val):List Tri3:=(zb2 s (b3 v0 v1 v2) (u3 u0 u1 u2) (jnB v0 v1 v2)).map s.tri
section
variable {W:World} {sp:Nat} {l:List Tri3} {s:SM}
theorem matchS (h:Sto W sp l s) (v0 v1 v2:V6) (u0 u1 u2:Val) (q0 q1 q2:List Val) (i0:Is W v0 u0 q0) (i1:Is W v1 u1 q1) (i2:Is W v2 u2 q2):
 Calls Tryz.prog 17 #[.pointer (some ⟨sp,0,none⟩),.agg #[.int .i64 v0.k,.bool v0.b,.int .i64 v0.n,.string v0.t,.string v0.x,.slice v0.p v0.len v0.cap,.int .i64 v1.k,.bool v1.b,.int .i64 v1.n,.string v1.t,.string v1.x,.slice v1.p v1.len v1.cap,.int .i64 v2.k,.bool v2.b,.int .i64 v2.n,.string v2.t,.string v2.x,.slice v2.p v2.len v2.cap]] W (zfb W (s.fit v0 v1 v2 u0 u1 u2)):=by
 have hp:=h.plain
 obtain ⟨h1,h2,h3,h4,h5,pv,pr,cv,cr,pp,cc,h6,h7⟩:=h
 exact matchAt sp l s pv pr cv cr pp cc W h6 h7 h4 h3 hp h1 h2 v0 v1 v2 (u3 u0 u1 u2) (q3 q0 q1 q2) i0 i1 i2 (b3 v0 v1 v2) rfl rfl rfl (fun v _ a ha=>ztc (hp a ha))
theorem countS (h:Sto W sp l s) (v0 v1 v2:V6) (u0 u1 u2:Val) (q0 q1 q2:List Val) (i0:Is W v0 u0 q0) (i1:Is W v1 u1 q1) (i2:Is W v2 u2 q2):
 Calls Tryz.prog 19 #[.pointer (some ⟨sp,0,none⟩),.agg #[.int .i64 v0.k,.bool v0.b,.int .i64 v0.n,.string v0.t,.string v0.x,.slice v0.p v0.len v0.cap,.int .i64 v1.k,.bool v1.b,.int .i64 v1.n,.string v1.t,.string v1.x,.slice v1.p v1.len v1.cap,.int .i64 v2.k,.bool v2.b,.int .i64 v2.n,.string v2.t,.string v2.x,.slice v2.p v2.len v2.cap]] W fun e w'=>e=.returned (.int .i64 ((s.fit v0 v1 v2 u0 u1 u2).length:Nat))∧Below W.heap.size W w':=by
 have hp:=h.plain
 obtain ⟨h1,h2,h3,h4,h5,pv,pr,cv,cr,pp,cc,h6,h7⟩:=h
 unfold SM.fit
 rw [List.length_map]
 exact countAt sp l s pv pr cv cr pp cc W h6 h7 h4 h3 h1 h2 v0 v1 v2 (u3 u0 u1 u2) (q3 q0 q1 q2) i0 i1 i2 (b3 v0 v1 v2) rfl rfl rfl (fun v _ a ha=>ztc (hp a ha))
theorem allS (h:Sto W sp l s):Calls Tryz.prog 15 #[.pointer (some ⟨sp,0,none⟩)] W (zrp W s):=by
 have hp:=h.plain
 obtain ⟨h1,h2,h3,h4,h5,pv,pr,cv,cr,pp,cc,h6,h7⟩:=h
 exact allAt sp s pv pr cv cr pp cc W h6 (h4.ok h3) hp (by have:=h4.nr;omega)
end
section
variable {l:List Tri3} {s:SM}
theorem zxx (s:SM):(List.range s.rs.length).map s.row=s.rs:=by
 refine List.ext_getElem (by simp) fun i h1 h2=>?_
 rw [List.getElem_map,List.getElem_range]
 unfold SM.row
 rw [List.getElem?_eq_getElem h2]
 rfl
theorem zzw (s:SM) (b:Nat→Bool) (u:Nat→Val) (j:R3→Bool):zb2 s b u j=s.rs.filter (fun r=>j r && s.hasB b u r):=by
 unfold zb2 SM.nums
 have e:(List.range s.rs.length).filter (fun n=>s.hasB b u ((s.rs[n]?).getD default))=(List.range s.rs.length).filter (s.hasB b u ∘ s.row):=rfl
 rw [e,← List.filter_map,zxx,List.filter_filter]
theorem zob (hl:zbf l s) (hok:∀ t∈l,zci t=true) {t:Tri3} (ht:t∈s.all):zqc t:=by
 obtain ⟨r,hr,rfl⟩:=List.mem_map.1 ht
 obtain ⟨t,h1,a1,a2,a3⟩:=hl.row r hr
 unfold SM.tri
 rw [a1,a2,a3]
 have:=zdm (hok t h1)
 exact ⟨this.1.1,this.2.1.1,this.2.2.1⟩
end
theorem t3_refl (t:Tri3):zik t t=true:=by
 unfold zik znv
 rw [zc5,zc5,zc5]
 rfl
theorem zca (l:List Tri3):zdv l l=true:=zf1 l l fun i h h2=>t3_refl _
end Go.Proofs.YtanbgdhmfjgihaaGreatDoor

/- FJ -/
namespace Go.Proofs.YtanbgdhmfjgihaaGreatDoor
open Go.RowKit
theorem zoc {W:World} {g o:Nat} {a b c:V6} (h:W.rangeAt g o [.int .i64 a.k,.bool a.b,.int .i64 a.n,.string a.t,.string a.x,.slice a.p a.len a.cap,.int .i64 b.k,.bool b.b,.int .i64 b.n,.string b.t,.string b.x,.slice b.p b.len b.cap,.int .i64 c.k,.bool c.b,.int .i64 c.n,.string c.t,.string c.x,.slice c.p c.len c.cap]):W.rangeAt g o [.int .i64 a.k,.bool a.b,.int .i64 a.n,.string a.t,.string a.x,.slice a.p a.len a.cap]:=fun i v hv=>by
 match i,hv with
 | 0,e=>exact h 0 v e
 | 1,e=>exact h 1 v e
 | 2,e=>exact h 2 v e
 | 3,e=>exact h 3 v e
 | 4,e=>exact h 4 v e
 | 5,e=>exact h 5 v e
 | i+6,e=>simp at e
theorem zod {W:World} {g o:Nat} {a b c:V6} (h:W.rangeAt g o [.int .i64 a.k,.bool a.b,.int .i64 a.n,.string a.t,.string a.x,.slice a.p a.len a.cap,.int .i64 b.k,.bool b.b,.int .i64 b.n,.string b.t,.string b.x,.slice b.p b.len b.cap,.int .i64 c.k,.bool c.b,.int .i64 c.n,.string c.t,.string c.x,.slice c.p c.len c.cap]):W.rangeAt g (o+12) [.int .i64 c.k,.bool c.b,.int .i64 c.n,.string c.t,.string c.x,.slice c.p c.len c.cap]:=fun i v hv=>by
 match i,hv with
 | 0,e=>exact h 12 v e
 | 1,e=>have:=h 13 v e;rwa [Nat.add_assoc]
 | 2,e=>have:=h 14 v e;rwa [Nat.add_assoc]
 | 3,e=>have:=h 15 v e;rwa [Nat.add_assoc]
 | 4,e=>have:=h 16 v e;rwa [Nat.add_assoc]
 | 5,e=>have:=h 17 v e;rwa [Nat.add_assoc]
 | i+6,e=>simp at e
theorem zzx (a b:Nat):((a:Int) != (b:Int))=!decide (a=b):=by
 by_cases h:a=b
 ·subst h
  simp
 ·have h2:¬ (a:Int)=b:=by omega
  simp [h,h2]
end Go.Proofs.YtanbgdhmfjgihaaGreatDoor

/- EL -/
namespace Go.Proofs.YtanbgdhmfjgihaaGreatDoor
open Go.RowKit
def ordT (a b:Tri3):Int:=triI a.s a.p a.o b.s b.p b.o
theorem zoe (a b:Tri3):ordT b a=-ordT a b:=by
 unfold ordT triI
 rw [zbn 1 a.s,zbn 1 a.p,zbn 1 a.o,zct,zct]
theorem zzy (a b c:Tri3):Tri (ordT a b) (ordT b c) (ordT a c):=(zco 1 _ _ _).lex ((zco 1 _ _ _).lex (zco 1 _ _ _))
theorem zqj (a:Tri3):ordT a a=0:=by
 have:=zoe a a
 omega
theorem ordT_eq {a b:Tri3} (ha:zci a=true) (hb:zci b=true) (h:ordT a b=0):a=b:=by
 unfold ordT triI at h
 obtain ⟨h1,h2⟩:=zn2 h
 obtain ⟨h2,h3⟩:=zn2 h2
 have pa:=zdm ha
 have pb:=zdm hb
 have e1:=(zd7 pa.1.1 pb.1.1).1 (zd4 1 _ _ 0 0 pa.1.2 pb.1.2 h1)
 have e2:=(zd7 pa.2.1.1 pb.2.1.1).1 (zd4 1 _ _ 0 0 pa.2.1.2 pb.2.1.2 h2)
 have e3:=(zd7 pa.2.2.1 pb.2.2.1).1 (zd4 1 _ _ 0 0 pa.2.2.2 pb.2.2.2 h3)
 obtain ⟨s,p,o⟩:=a
 obtain ⟨s2,p2,o2⟩:=b
 simp only at e1 e2 e3
 rw [e1,e2,e3]
def zmc (l:List Tri3):Prop:=l.Pairwise fun a b=>ordT a b < 0
theorem zmc.ext:{l m:List Tri3}→zmc l→zmc m→(∀ t,t∈l↔t∈m)→l=m
 | [],[],_,_,_=>rfl
 | [],b::m,_,_,h=>absurd ((h b).2 (List.mem_cons_self ..)) (by simp)
 | a::l,[],_,_,h=>absurd ((h a).1 (List.mem_cons_self ..)) (by simp)
 | a::l,b::m,hl,hm,h=>by
   unfold zmc at hl hm
   rw [List.pairwise_cons] at hl hm
   have hab:a=b:=by
    rcases List.mem_cons.1 ((h a).1 (List.mem_cons_self ..)) with e | e
    ·exact e
    ·rcases List.mem_cons.1 ((h b).2 (List.mem_cons_self ..)) with e2 | e2
     ·exact e2.symm
     ·have q1:=hm.1 a e
      have q2:=hl.1 b e2
      have q3:=zoe a b
      omega
   subst hab
   congr 1
   refine zmc.ext hl.2 hm.2 fun u=>?_
   constructor
   ·intro hu
    rcases List.mem_cons.1 ((h u).1 (List.mem_cons_of_mem _ hu)) with e | e
    ·subst e
     have:=hl.1 u hu
     rw [zqj] at this
     omega
    ·exact e
   ·intro hu
    rcases List.mem_cons.1 ((h u).2 (List.mem_cons_of_mem _ hu)) with e | e
    ·subst e
     have:=hm.1 u hu
     rw [zqj] at this
     omega
    ·exact e
def putT (out:List Tri3) (k:Nat) (x:Tri3):List Tri3:=out.take k++x::out.drop k
theorem ztd (out:List Tri3) (k:Nat) (x:Tri3) (hk:k≤out.length):(putT out k x).length=out.length+1:=by
 unfold putT
 simp
 omega
structure Ins (l:List Tri3) (i:Nat) (out:List Tri3):Prop where
 rise:zmc out
 mem:∀ t,t∈out↔t∈l.take i
 len:out.length≤i
theorem Ins.zero (l:List Tri3):Ins l 0 []:=⟨List.Pairwise.nil,by simp,Nat.le_refl _⟩
theorem zte {l:List Tri3} {i:Nat} (hi:i < l.length) (t:Tri3):t∈l.take (i+1)↔t∈l.take i∨t=l[i]:=by
 rw [List.take_succ_eq_append_getElem hi,List.mem_append,List.mem_singleton]
theorem Ins.skip {l out:List Tri3} {i:Nat} (h:Ins l i out) (hi:i < l.length) (hm:l[i]∈out):Ins l (i+1) out:=by
 refine ⟨h.rise,fun t=>?_,by have:=h.len;omega⟩
 rw [zte hi,← h.mem]
 constructor
 ·exact .inl
 ·rintro (e | e)
  ·exact e
  ·rw [e];exact hm
theorem Ins.put {l out:List Tri3} {i:Nat} (h:Ins l i out) (hi:i < l.length) (k:Nat) (hk:k≤out.length) (lo:∀ (h0:0 < k),ordT (out[k - 1]'(by omega)) l[i] < 0) (up:∀ (j:Nat) (hj:j < out.length),k≤j→0 < ordT out[j] l[i]):Ins l (i+1) (putT out k l[i]):=by
 have hr:=List.pairwise_iff_getElem.1 h.rise
 have lo':∀ (j:Nat) (hj:j < out.length),j < k→ordT out[j] l[i] < 0:=fun j hj hjk=>by
  have q:=lo (by omega)
  by_cases e:j=k - 1
  ·subst e;exact q
  ·exact (zzy _ _ _).tl (Int.le_of_lt (hr j (k - 1) hj (by omega) (by omega))) q
 refine ⟨?_,fun t=>?_,by rw [ztd _ _ _ hk];have:=h.len;omega⟩
 ·unfold zmc putT
  rw [List.pairwise_append,List.pairwise_cons]
  refine ⟨h.rise.sublist (List.take_sublist _ _),⟨fun b hb=>?_,h.rise.sublist (List.drop_sublist _ _)⟩,fun a ha b hb=>?_⟩
  ·obtain ⟨j,hj,rfl⟩:=List.getElem_of_mem hb
   rw [List.getElem_drop]
   have q:=up (k+j) (by simpa using Nat.add_lt_of_lt_sub' (by simpa using hj)) (by omega)
   have q2:=zoe (out[k+j]'(by simpa using Nat.add_lt_of_lt_sub' (by simpa using hj))) l[i]
   omega
  ·obtain ⟨j,hj,rfl⟩:=List.getElem_of_mem ha
   rw [List.getElem_take]
   simp only [List.length_take] at hj
   have q:=lo' j (by omega) (by omega)
   rcases List.mem_cons.1 hb with rfl | hb
   ·exact q
   ·obtain ⟨j2,hj2,rfl⟩:=List.getElem_of_mem hb
    rw [List.getElem_drop]
    simp only [List.length_drop] at hj2
    exact hr j (k+j2) (by omega) (by omega) (by omega)
 ·rw [zte hi,← h.mem]
  unfold putT
  rw [List.mem_append,List.mem_cons]
  conv=>rhs;rw [← List.take_append_drop k out,List.mem_append]
  constructor
  ·rintro (e | e | e)
   ·exact .inl (.inl e)
   ·exact .inr e
   ·exact .inl (.inr e)
  ·rintro ((e | e) | e)
   ·exact .inl e
   ·exact .inr (.inr e)
   ·exact .inr (.inl e)
section
variable {l:List Tri3} {s:SM}
theorem zxy (h:zbf l s) {t:Tri3} (ht:t∈l):s.tri (rowOf s.vs t).r3=t:=by
 have m1:t.s∈s.vs:=(h.mem _).2 (zds.2 ⟨t,ht,.inl rfl⟩)
 have m2:t.p∈s.vs:=(h.mem _).2 (zds.2 ⟨t,ht,.inr (.inl rfl)⟩)
 have m3:t.o∈s.vs:=(h.mem _).2 (zds.2 ⟨t,ht,.inr (.inr rfl)⟩)
 unfold SM.tri rowOf VR.r3
 simp only [Int.toNat_natCast]
 rw [zfa m1,zfa m2,zfa m3]
 rfl
theorem all_mem (h:zbf l s) (t:Tri3):t∈s.all↔t∈l:=by
 unfold SM.all
 rw [List.mem_map]
 constructor
 ·rintro ⟨r,hr,rfl⟩
  obtain ⟨t,ht,e⟩:=(h.rmem r).1 hr
  have:=zxy h ht
  rw [e,vr_r3] at this
  rw [this]
  exact ht
 ·intro ht
  exact ⟨_,(h.rmem _).2 ⟨t,ht,(z0w s.vs t).symm⟩,zxy h ht⟩
theorem zr2 (h:Rise s.vs) (i j:Nat) (hi:i < s.vs.length) (hj:j < s.vs.length):(i < j→za1 1 ((s.vs[i]?).getD nulV) ((s.vs[j]?).getD nulV) < 0)∧(i=j→za1 1 ((s.vs[i]?).getD nulV) ((s.vs[j]?).getD nulV)=0):=by
 rw [List.getElem?_eq_getElem hi,List.getElem?_eq_getElem hj,Option.getD_some,Option.getD_some]
 exact ⟨fun q=>h i j q hj,fun q=>by subst q;exact zb9 _⟩
theorem zzz (h:zbf l s) (hn:l.length≤65536):zmc s.all:=by
 have ok:=h.ok hn
 unfold zmc SM.all
 rw [List.pairwise_map]
 refine h.rows.imp_of_mem fun {a b} ha hb hab=>?_
 obtain ⟨a1,a2,a3⟩:=ok.r a ha
 obtain ⟨b1,b2,b3⟩:=ok.r b hb
 obtain ⟨c1,d1⟩:=zr2 h.rise a.a b.a a1 b1
 obtain ⟨c2,d2⟩:=zr2 h.rise a.b b.b a2 b2
 obtain ⟨c3,d3⟩:=zr2 h.rise a.c b.c a3 b3
 have hle:=zxa (Int.le_of_lt hab)
 have hne:¬ a=b:=fun e=>by subst e;exact R3.irr _ hab
 unfold R3.vr at hle
 simp only at hle
 unfold ordT triI SM.tri
 simp only
 obtain ⟨h1,h2⟩:=hle
 by_cases e1:a.a=b.a
 ·obtain ⟨h3,h4⟩:=h2 (by omega)
  rw [d1 e1,zbj]
  by_cases e2:a.b=b.b
  ·have h5:=h4 (by omega)
   rw [d2 e2,zbj]
   by_cases e3:a.c=b.c
   ·refine absurd ?_ hne
    obtain ⟨x,y,z⟩:=a
    obtain ⟨x2,y2,z2⟩:=b
    simp only at e1 e2 e3
    rw [e1,e2,e3]
   ·exact c3 (by omega)
  ·have q:=c2 (by omega)
   unfold lexI
   rw [if_neg (by omega)]
   exact q
 ·have q:=c1 (by omega)
  unfold lexI
  rw [if_neg (by omega)]
  exact q
theorem Ins.all (h:zbf l s) (hn:l.length≤65536) {out:List Tri3} (hi:Ins l l.length out):out=s.all:=by
 refine zmc.ext hi.rise (zzz h hn) fun t=>?_
 rw [hi.mem,List.take_length,all_mem h]
end
end Go.Proofs.YtanbgdhmfjgihaaGreatDoor
