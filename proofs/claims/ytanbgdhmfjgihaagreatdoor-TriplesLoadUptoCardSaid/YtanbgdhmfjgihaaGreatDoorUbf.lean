/- Texts of one kind, one behind the other: each says ahead of itself what it shows. -/
import Derived.RangeFuncNested
import Derived.RangeFuncBound
import Derived.RangeFuncCalls
import Derived.RangeFuncLeaves
import Derived.Shelf.Abstract
import Derived.Shelf.RegionOpen
import Derived.WalkKit
import Derived.OwnWalkIn
import Derived.TacticsInMore
import Derived.LoopNIn
import Derived.LoopIn
import Derived.Maps.OwnIn
import Derived.Sort.CutIn
import Derived.Test.YtanbgdhmfjgihaaGreatDoorUbc
import Derived.Test.YtanbgdhmfjgihaaGreatDoorUbe
import Derived.Deep.AppendLies
/- FD -/
namespace Go.Proofs
open Go.Shelf
namespace YtanbgdhmfjgihaaGreatDoor
open Go.RowKit
attribute [local go_sem] Oper.semAt_some
section
variable {F:Fence} {n:Nat} {ops:Array Oper} {rest:List Oper} {o:Oper} {a:Act} {w:World} {Q:Exit→Act→World→Prop}
theorem zdt (hF:∀ f,F.fn f) (v:Value) (w':World) (hw:Region.wanted o (yielded ops a.tmps)=true) (hd:∀ c,o.op≠.defer c) (hr:(execOp a.eval o).run Tryz.prog w=.ok (.value v) w')
 (h:wpListIn F n Tryz.prog ops Q rest (a.put o.dst v) w'):wpListIn F n Tryz.prog ops Q (o::rest) a w:=
 wpListIn_step fun K hK=>by
  rw [if_pos hw]
  exact ⟨fun f _=>hF f,by rw [Oper.semAt_plain F _ _ hd,hr];exact hK _ _ h⟩
theorem zqf (hF:∀ f,F.fn f) (hw:Region.wanted o (yielded ops a.tmps)=true) (hd:∀ c,o.op≠.defer c) {w':World} (hr:(execOp a.eval o).run Tryz.prog w=.ok .skip w')
 (h:wpListIn F n Tryz.prog ops Q rest (a.put o.dst undef) w'):wpListIn F n Tryz.prog ops Q (o::rest) a w:=
 wpListIn_step fun K hK=>by
  rw [if_pos hw]
  exact ⟨fun f _=>hF f,by rw [Oper.semAt_plain F _ _ hd,hr];exact hK _ _ h⟩
theorem zrz (hF:∀ f,F.fn f) (x:Operand) (g:Nat) (a0 a1 a2:Int) (hg:w.heap[g]?=some (.cells #[.int .i64 a0,.int .i64 a1,.int .i64 a2] 81))
 (hw:Region.wanted o (yielded ops a.tmps)=true) (ho:o.op=.load 81 x) (hx:a.eval x=.pointer (some ⟨g,0,none⟩))
 (h:wpListIn F n Tryz.prog ops Q rest (a.put o.dst (.agg #[.int .i64 a0,.int .i64 a1,.int .i64 a2])) w):wpListIn F n Tryz.prog ops Q (o::rest) a w:=
 zdt hF _ _ hw (by rw [ho];intro c hc;cases hc) (by
  unfold execOp
  simp only [ho,hx,Instr.loadAt,Instr.sureAddr,Sem.run_bind,Sem.run_pure,Result.andThen_ok,run_loadVar_row (P:=Tryz.prog) w g 81 81 _ (0,0) _ hg Tryz.underlying81 rfl zdy]) h
theorem zxp (hF:∀ f,F.fn f) (x:Operand) (g off:Nat) (a0 a1 a2:Int) (hr:w.rangeAt g off [.int .i64 a0,.int .i64 a1,.int .i64 a2])
 (hw:Region.wanted o (yielded ops a.tmps)=true) (ho:o.op=.load 81 x) (hx:a.eval x=.pointer (some ⟨g,off,none⟩))
 (h:wpListIn F n Tryz.prog ops Q rest (a.put o.dst (.agg #[.int .i64 a0,.int .i64 a1,.int .i64 a2])) w):wpListIn F n Tryz.prog ops Q (o::rest) a w:=
 zdt hF _ _ hw (by rw [ho];intro c hc;cases hc) (by
  unfold execOp
  simp only [ho,hx,Instr.loadAt,Instr.sureAddr,Sem.run_bind,Sem.run_pure,Result.andThen_ok,run_loadVar_mid (P:=Tryz.prog) w g off 81 _ _ hr Tryz.underlying81 rfl zdy]) h
theorem zlq (hF:∀ f,F.fn f) (x y:Operand) (g:Nat) (a0 a1 a2:Int) {c:Array Value} (hg:w.heap[g]?=some (.cells c 81)) (hs:c.size=3)
 (hw:Region.wanted o (yielded ops a.tmps)=true) (ho:o.op=.store 81 x y) (hx:a.eval x=.pointer (some ⟨g,0,none⟩)) (hy:a.eval y=.agg #[.int .i64 a0,.int .i64 a1,.int .i64 a2])
 (h:∀ w',Only g w w'→w'.heap[g]?=some (.cells #[.int .i64 a0,.int .i64 a1,.int .i64 a2] 81)→wpListIn F n Tryz.prog ops Q rest (a.put o.dst undef) w'):wpListIn F n Tryz.prog ops Q (o::rest) a w:=
 zqf hF hw (by rw [ho];intro c hc;cases hc) (by
  unfold execOp
  simp only [ho,hx,hy,Instr.storeAt,Instr.sureAddr,Sem.run_bind,Sem.run_pure,Result.andThen_ok,run_storeVar_row (P:=Tryz.prog) w g 81 81 c #[.int .i64 a0,.int .i64 a1,.int .i64 a2] hg (by exact zdy) (by rw [hs];rfl) (by simp [Value.oneCell'])]) (h _ (Only.setRow w _) (za4 hg))
theorem zr0 (hF:∀ f,F.fn f) (x:Operand) (g:Nat) (v0 v1 v2:V6) (hg:Way w g v0 v1 v2)
 (hw:Region.wanted o (yielded ops a.tmps)=true) (ho:o.op=.load 63 x) (hx:a.eval x=.pointer (some ⟨g,0,none⟩))
 (h:wpListIn F n Tryz.prog ops Q rest (a.put o.dst (.agg #[.int .i64 v0.k,.bool v0.b,.int .i64 v0.n,.string v0.t,.string v0.x,.slice v0.p v0.len v0.cap,.int .i64 v1.k,.bool v1.b,.int .i64 v1.n,.string v1.t,.string v1.x,.slice v1.p v1.len v1.cap,.int .i64 v2.k,.bool v2.b,.int .i64 v2.n,.string v2.t,.string v2.x,.slice v2.p v2.len v2.cap])) w):wpListIn F n Tryz.prog ops Q (o::rest) a w:=
 zdt hF _ _ hw (by rw [ho];intro c hc;cases hc) (by
  unfold execOp
  simp only [ho,hx,Instr.loadAt,Instr.sureAddr,Sem.run_bind,Sem.run_pure,Result.andThen_ok,run_loadVar_row (P:=Tryz.prog) w g 63 63 _ (0,0) _ hg Tryz.underlying63 rfl zxc]) h
end
theorem zmb {ops:Array Oper} {rest:List Oper} {op:Oper} {a:Act} {w:World} {Q:Exit→Act→World→Prop} (x y:Operand) (g:Nat) (v0 v1 v2:V6) {c:Array Value} (hg:w.heap[g]?=some (.cells c 63)) (hs:c.size=18)
 (hgd:op.guard=none) (ho:op.op=.store 63 x y) (hx:a.eval x=.pointer (some ⟨g,0,none⟩)) (hy:a.eval y=.agg #[.int .i64 v0.k,.bool v0.b,.int .i64 v0.n,.string v0.t,.string v0.x,.slice v0.p v0.len v0.cap,.int .i64 v1.k,.bool v1.b,.int .i64 v1.n,.string v1.t,.string v1.x,.slice v1.p v1.len v1.cap,.int .i64 v2.k,.bool v2.b,.int .i64 v2.n,.string v2.t,.string v2.x,.slice v2.p v2.len v2.cap])
 (h:∀ w',Only g w w'→Way w' g v0 v1 v2→wpList Tryz.prog ops Q rest (a.put op.dst undef) w'):wpList Tryz.prog ops Q (op::rest) a w:=
 wpList_plain hgd fun _ hK=>by
  unfold Oper.wp execOp
  simp only [ho,hx,hy,Instr.storeAt,Instr.sureAddr,Sem.run_bind,Sem.run_pure,Result.andThen_ok,run_storeVar_row (P:=Tryz.prog) w g 63 63 c #[.int .i64 v0.k,.bool v0.b,.int .i64 v0.n,.string v0.t,.string v0.x,.slice v0.p v0.len v0.cap,.int .i64 v1.k,.bool v1.b,.int .i64 v1.n,.string v1.t,.string v1.x,.slice v1.p v1.len v1.cap,.int .i64 v2.k,.bool v2.b,.int .i64 v2.n,.string v2.t,.string v2.x,.slice v2.p v2.len v2.cap] hg (by exact zxc) (by rw [hs];rfl) (by simp [Value.oneCell'])]
  exact hK _ _ (h _ (Only.setRow w _) (za4 hg))
theorem zis:∀ f,Fence.wide.fn f:=fun _=>trivial
theorem zcy.belowF {W W':World} {sp:Nat} {s:SM} {pv pr:Option Addr} {cv cr:Nat} {pp:Nat→Option Addr} {cc:Nat→Nat} (k:zcy W sp s pv pr cv cr pp cc) (b:Below W.heap.size W W'):zcy W' sp s pv pr cv cr pp cc:=
 ⟨(b.block _ (zac k.h)).trans k.h,k.v.below b,k.r.below b,fun i hi=>(k.l i hi).below b⟩
structure ItIn (w:World) (sp g2 g5:Nat) (v0 v1 v2:V6) (W:World):Prop where
 bel:Below w.heap.size w W
 c2:W.heap[g2]?=some (.cells #[.pointer (some ⟨sp,0,none⟩)] 29)
 way:Way W g5 v0 v1 v2
theorem ItIn.below {w W W':World} {sp g2 g5:Nat} {v0 v1 v2:V6} (h:ItIn w sp g2 g5 v0 v1 v2 W) (b:Below W.heap.size W W'):ItIn w sp g2 g5 v0 v1 v2 W':=
 ⟨h.bel.trans (b.mono h.bel.size),(b.block _ (zac h.c2)).trans h.c2,h.way.below b⟩
def zxq (w:World) (sp:Nat) (v0 v1 v2:V6) (e:Ending) (w':World):Prop:=∃ g2 g5,e=.returned (.func (.func 88) #[] #[.pointer (some ⟨g2,0,none⟩),.pointer (some ⟨g5,0,none⟩)])∧ItIn w sp g2 g5 v0 v1 v2 w'∧w.heap.size≤g2∧w.heap.size≤g5
set_option maxHeartbeats 3200000 in
set_option maxRecDepth 20000 in
theorem zqg (sp:Nat) (v0 v1 v2:V6) (w:World):Calls Tryz.prog 51 #[.pointer (some ⟨sp,0,none⟩),.agg #[.int .i64 v0.k,.bool v0.b,.int .i64 v0.n,.string v0.t,.string v0.x,.slice v0.p v0.len v0.cap,.int .i64 v1.k,.bool v1.b,.int .i64 v1.n,.string v1.t,.string v1.x,.slice v1.p v1.len v1.cap,.int .i64 v2.k,.bool v2.b,.int .i64 v2.n,.string v2.t,.string v2.x,.slice v2.p v2.len v2.cap]] w (zxq w sp v0 v1 v2):=by
 obtain ⟨W0,hW0⟩:∃ W0,W0=(w.alloc (.cells #[.pointer (some ⟨sp,0,none⟩)] 29)).alloc (.cells #[.int .i64 v0.k,.bool v0.b,.int .i64 v0.n,.string v0.t,.string v0.x,.slice v0.p v0.len v0.cap,.int .i64 v1.k,.bool v1.b,.int .i64 v1.n,.string v1.t,.string v1.x,.slice v1.p v1.len v1.cap,.int .i64 v2.k,.bool v2.b,.int .i64 v2.n,.string v2.t,.string v2.x,.slice v2.p v2.len v2.cap] 45):=⟨_,rfl⟩
 have b0:Below w.heap.size w W0:=by rw [hW0];exact zdx _ _ _
 have c0:W0.heap[w.heap.size]?=some (.cells #[.pointer (some ⟨sp,0,none⟩)] 29):=by rw [hW0];exact zau _ (zag _ _ rfl)
 have p0:W0.heap[w.heap.size+1]?=some (.cells #[.int .i64 v0.k,.bool v0.b,.int .i64 v0.n,.string v0.t,.string v0.x,.slice v0.p v0.len v0.cap,.int .i64 v1.k,.bool v1.b,.int .i64 v1.n,.string v1.t,.string v1.x,.slice v1.p v1.len v1.cap,.int .i64 v2.k,.bool v2.b,.int .i64 v2.n,.string v2.t,.string v2.x,.slice v2.p v2.len v2.cap] 45):=by rw [hW0];exact zag _ _ (by simp)
 have r0:W0.rangeAt (w.heap.size+1) 0 [.int .i64 v0.k,.bool v0.b,.int .i64 v0.n,.string v0.t,.string v0.x,.slice v0.p v0.len v0.cap]:=fun i v hv=>by
  rw [Nat.zero_add]
  match i,hv with
  | 0,e | 1,e | 2,e | 3,e | 4,e | 5,e=>exact zab p0 _ e
  | i+6,e=>simp at e
 have r1:W0.rangeAt (w.heap.size+1) 6 [.int .i64 v1.k,.bool v1.b,.int .i64 v1.n,.string v1.t,.string v1.x,.slice v1.p v1.len v1.cap]:=fun i v hv=>by
  match i,hv with
  | 0,e | 1,e | 2,e | 3,e | 4,e | 5,e=>exact zab p0 (6+_) e
  | i+6,e=>simp at e
 have r2:W0.rangeAt (w.heap.size+1) 12 [.int .i64 v2.k,.bool v2.b,.int .i64 v2.n,.string v2.t,.string v2.x,.slice v2.p v2.len v2.cap]:=fun i v hv=>by
  match i,hv with
  | 0,e | 1,e | 2,e | 3,e | 4,e | 5,e=>exact zab p0 (12+_) e
  | i+6,e=>simp at e
 have HW:=Lib.hid hW0
 have HX:=Lib.hid (And.intro b0 c0)
 clear hW0 b0 c0 p0
 go_enter Tryz.func51,Tryz.ntmps51
 go_upto_region 1 with fail
 rw [← HW.out]
 go_wp2_with (first
  |((with_reducible refine zam (.tmp 6) (w.heap.size+1) 0 v0 r0 ?_ ?_ ?_ ?_);rfl;rfl;rfl)
  |((with_reducible refine zam (.tmp 8) (w.heap.size+1) 6 v1 r1 ?_ ?_ ?_ ?_);rfl;rfl;rfl)
  |((with_reducible refine zam (.tmp 10) (w.heap.size+1) 12 v2 r2 ?_ ?_ ?_ ?_);rfl;rfl;rfl)
  |((with_reducible refine zmb (.tmp 5) (.tmp 12) W0.heap.size v0 v1 v2 (zag _ _ rfl) rfl ?_ ?_ ?_ ?_ ?_);rfl;rfl;rfl;rfl;intro wX hoX BX))
 have bX:Below W0.heap.size W0 wX:=zai (zap W0 _) hoX (Nat.le_refl _) (by simp)
 have HF:Hid (zxq w sp v0 v1 v2 (.returned (.func (.func 88) #[] #[.pointer (some ⟨w.heap.size,0,none⟩),.pointer (some ⟨W0.heap.size,0,none⟩)])) wX):=Lib.hid
  ⟨_,_,rfl,⟨HX.out.1.trans (bX.mono HX.out.1.size),(bX.block _ (zac HX.out.2)).trans HX.out.2,BX⟩,Nat.le_refl _,HX.out.1.size⟩
 clear hoX BX bX
 go_wp2_with fail
 go_ret
 exact HF.out
def zqh (B g2 g5:Nat) (W W':World):Prop:=Below B W W'∧W'.heap[g2]?=W.heap[g2]?∧W'.heap[g5]?=W.heap[g5]?
theorem zxr {B g2 g5:Nat} {A C D:World} (h:zqh B g2 g5 A C) (k:zqh B g2 g5 C D):zqh B g2 g5 A D:=⟨h.1.trans k.1,k.2.1.trans h.2.1,k.2.2.trans h.2.2⟩
theorem zxs {B g2 g5:Nat} {w:World} (hn:B≤w.heap.size) (h2:g2 < w.heap.size) (h5:g5 < w.heap.size) (W:World) (l:Nat) (o o':Obj) (hl:w.heap.size≤l) (h:W.heap[l]?=some o) (hc:o.isCells=false) (hk:o.isWalk=false):zqh B g2 g5 W (W.putObj l o'):=
 ⟨belowK_b hn W l o o' hl h hc hk,World.putObj_heap_other (by omega),World.putObj_heap_other (by omega)⟩
theorem ItIn.keep {w W W':World} {sp g2 g5:Nat} {v0 v1 v2:V6} (h:ItIn w sp g2 g5 v0 v1 v2 W) (b:zqh w.heap.size g2 g5 W W'):ItIn w sp g2 g5 v0 v1 v2 W':=
 ⟨h.bel.trans b.1,b.2.1.trans h.c2,b.2.2.trans h.way⟩
abbrev SRow (s:SM):={ x:R3 // x∈s.rs }
theorem zxt {α:Type} {J:List α→World→Prop} {B:Nat} (hJ:AbidesFrom B J) {pre:List α} {A C:World} (h:J pre A) (b:Below A.heap.size A C):J pre C:=
 hJ pre A C none h ⟨b.os,b.tape,b.output,b.size,fun k hk _=>b.block k hk⟩ (fun r e=>by cases e)
def SM.row (s:SM) (n:Nat):R3:=(s.rs[n]?).getD default
def jnB (v0 v1 v2:V6) (r:R3):Bool:=zlm v0 v1 v2 (r.a:Nat) (r.b:Nat) (r.c:Nat)
def zcl (s:SM) (b:Nat→Bool) (u:Nat→Val) (j:R3→Bool) (k:Nat):List R3:=(((s.nums b u).take k).map s.row).filter j
def zb2 (s:SM) (b:Nat→Bool) (u:Nat→Val) (j:R3→Bool):List R3:=((s.nums b u).map s.row).filter j
section
variable {s:SM} {b:Nat→Bool} {u:Nat→Val} {j:R3→Bool}
theorem zr1 {k:Nat} (h:k < (s.nums b u).length) (hj:j (s.row (s.nums b u)[k])=true):zcl s b u j (k+1)=zcl s b u j k++[s.row (s.nums b u)[k]]:=by
 unfold zcl
 rw [List.take_succ_eq_append_getElem h,List.map_append,List.filter_append]
 simp [hj]
theorem zzt {k:Nat} (h:k < (s.nums b u).length) (hj:j (s.row (s.nums b u)[k])=false):zcl s b u j (k+1)=zcl s b u j k:=by
 unfold zcl
 rw [List.take_succ_eq_append_getElem h,List.map_append,List.filter_append]
 simp [hj]
theorem fit_all {k:Nat} (h:(s.nums b u).length≤k):zcl s b u j k=zb2 s b u j:=by
 unfold zcl zb2
 rw [List.take_of_length_le h]
theorem zxu (k:Nat):zcl s b u j k <+: zb2 s b u j:=by
 unfold zcl zb2
 exact ((List.take_prefix k _).map _).filter _
theorem fit_len {k:Nat} (h:k < (s.nums b u).length) (hj:j (s.row (s.nums b u)[k])=true):(zcl s b u j k).length < (zb2 s b u j).length:=by
 have h1:=(zxu (s:=s) (b:=b) (u:=u) (j:=j) (k+1)).length_le
 rw [zr1 h hj] at h1
 simp at h1
 omega
end
def zs9 (s:SM) (J:List (SRow s)→World→Prop) (w:World) (sp g2 g5:Nat) (v0 v1 v2:V6) (L:List R3) (wr:World):Prop:=(∃ L':List (SRow s),L'.map Subtype.val=L∧J L' wr)∧ItIn w sp g2 g5 v0 v1 v2 wr
set_option maxHeartbeats 6400000 in
set_option maxRecDepth 20000 in
theorem zta (sp:Nat) (l:List Tri3) (s:SM) (pv pr:Option Addr) (cv cr:Nat) (pp:Nat→Option Addr) (cc:Nat→Nat) (w:World) (h0:zcy w sp s pv pr cv cr pp cc) (hcc:∀ k,k < 6→(s.ls k).length≤cc k) (hl:zbf l s) (hn:l.length≤65536) (hG:Gd w) (hT:Tab w)
 (v0 v1 v2:V6) (u:Nat→Val) (q:Nat→List Val) (i0:Is w v0 (u 0) (q 0)) (i1:Is w v1 (u 1) (q 1)) (i2:Is w v2 (u 2) (q 2)) (b:Nat→Bool) (hb0:b 0=decide (v0.k=0)) (hb1:b 1=decide (v1.k=0)) (hb2:b 2=decide (v2.k=0))
 (hs:∀ v,b v=false→∀ a∈s.vs,za7 a (u v)=true↔a=u v) (g2 g5:Nat) (w1:World) (hit:ItIn w sp g2 g5 v0 v1 v2 w1):
 SeqStopsK Fence.wide 3 Tryz.prog 88 #[.pointer (some ⟨g2,0,none⟩),.pointer (some ⟨g5,0,none⟩)] (fun r:SRow s=>#[.agg #[.int .i64 (r.1.a:Nat),.int .i64 (r.1.b:Nat),.int .i64 (r.1.c:Nat)]])
  (zqh w.heap.size g2 g5) (fun ys=>ys.map Subtype.val=zb2 s b u (jnB v0 v1 v2)) (fun pre=>pre.map Subtype.val <+: zb2 s b u (jnB v0 v1 v2)) (zb2 s b u (jnB v0 v1 v2)).length w1:=by
 intro y J Jx W hW hJ hJx hY hJ0
 have hitW:=hit.below hW
 have k0:=h0.l (ahd b) (zs4 b)
 have hav:=zzs sp l s pv pr cv cr pp cc W w (zcy.belowF h0 hitW.bel) hcc hl hn (hG.below hitW.bel) (hT.below hitW.bel) v0 v1 v2 u q (i0.below hitW.bel) (i1.below hitW.bel) (i2.below hitW.bel) b hb0 hb1 hb2 k0 hs
 have hnum:∀ x∈s.nums b u,x < s.rs.length:=fun x hx=>List.mem_range.1 (List.mem_filter.1 hx).1
 have hnr:s.rs.length≤65536:=by have:=hl.nr;omega
 have c2:=zab hitW.c2 0 rfl
 have way:=hitW.way
 obtain ⟨X,hX⟩:∃ X,X=zb2 s b u (jnB v0 v1 v2):=⟨_,rfl⟩
 obtain ⟨nn,hnn⟩:∃ nn,nn=(s.nums b u).length:=⟨_,rfl⟩
 rw [← hX] at hY ⊢
 have hnnb:nn≤65536:=by
  rw [hnn]
  refine Nat.le_trans (List.length_filter_le _ _) ?_
  rw [List.length_range]
  exact hnr
 have HAV:=Lib.hid hav
 have HI:=Lib.hid hitW
 have HS:=Lib.hid h0
 have HJ:=Lib.hid hJ
 have HY:=Lib.hid hY
 have HJ0:=Lib.hid hJ0
 have HX:=Lib.hid hX
 have HN:=Lib.hid hnn
 have HM:=Lib.hid hnum
 clear hav hitW h0 hJ hJx hY hJ0 hX hnn hnum hit hW k0 hcc hl hG hT i0 i1 i2 hb0 hb1 hb2 hs
 refine callsIn_of_wp Tryz.func88 rfl trivial ?_ rfl
 simp only [Tryz.ntmps88,List.size_toArray,List.length_cons,List.length_nil,Nat.reduceAdd,Nat.reduceSub,Array.replicate_succ,Array.replicate_zero,List.push_toArray,List.append_toArray,List.nil_append,List.cons_append]
 gi_wp2_with (first
  |((with_reducible refine zr0 zis (.tmp 2) g5 v0 v1 v2 way ?_ ?_ ?_ ?_);rfl;rfl;rfl)
  |(refine ⟨trivial,?_⟩;gi_at_call 89;(with_reducible refine (callsIn_wide.2 HAV.out).mono ?_);rintro e w2 ⟨p,cap,rfl,hna,hb2⟩;rw [← HN.out]))
 have inv0:Hid (zs9 s J w sp g2 g5 v0 v1 v2 (zcl s b u (jnB v0 v1 v2) 0) w2):=Lib.hid ⟨⟨[],rfl,zxt HJ.out HJ0.out hb2⟩,HI.out.below hb2⟩
 have HNA:=Lib.hid hna
 clear hna hb2 c2 way
 gi_loopw [11] (fun i wr=>∃ k:Nat,k≤nn∧i=.int .i64 k∧Hid (zs9 s J w sp g2 g5 v0 v1 v2 (zcl s b u (jnB v0 v1 v2) k) wr)) (fun i _=>nn - (intOf i).toNat)
 case atStart=>exact ⟨0,Nat.zero_le _,rfl,inv0⟩
 case round=>
  clear inv0
  obtain ⟨k,hk,rfl,HV⟩:=hrel
  by_cases hlt:(k:Int) < nn
  ·have hk1:k < (s.nums b u).length:=by have:=HN.out;omega
   obtain ⟨m,hm⟩:∃ m,m=(s.nums b u)[k]:=⟨_,rfl⟩
   have hmr:m < s.rs.length:=by rw [hm];exact HM.out _ (List.getElem_mem hk1)
   obtain ⟨gn,on,rfl,hcell⟩:=HNA.out (by intro e;rw [e] at hk1;exact absurd hk1 (by simp))
   have ck0:=hcell k hk1
   rw [← hm] at ck0
   have hrne:s.rs≠[]:=by intro e;rw [e] at hmr;exact absurd hmr (by simp)
   obtain ⟨gr,fr,epr,hrr⟩:=HS.out.r hrne
   subst epr
   obtain ⟨x,hx⟩:∃ x,x=s.rs[m]:=⟨_,rfl⟩
   have rr0:=hrr m hmr
   rw [← hx] at rr0
   have hrow:s.row (s.nums b u)[k]=x:=by rw [← hm,hx];unfold SM.row;rw [List.getElem?_eq_getElem hmr];rfl
   have hbel:=HV.out.2.bel
   have ck:wr.cell? ⟨gn,on+k,none⟩=some (.int .i64 m):=(hbel.cell (p:=⟨gn,on+k,none⟩) (World.block_lt_of_cell? w _ ck0)).trans ck0
   have cs:wr.cell? ⟨sp,1,none⟩=some (.slice (some ⟨gr,fr,none⟩) s.rs.length cr):=(hbel.cell (p:=⟨sp,1,none⟩) (World.block_lt_of_cell? w _ (zab HS.out.h 1 rfl))).trans (zab HS.out.h 1 rfl)
   have rr:wr.rangeAt gr (fr+m*3) [.int .i64 (x.a:Nat),.int .i64 (x.b:Nat),.int .i64 (x.c:Nat)]:=zaf rr0 hbel
   have c2:=zab HV.out.2.c2 0 rfl
   have hmi:(m:Int) < s.rs.length:=by omega
   have HROW:Hid (∀ h:k < (s.nums b u).length,s.row ((s.nums b u)[k]'h)=x):=Lib.hid fun _=>hrow
   have HJA:Hid (∀ W,Calls Tryz.prog 90 #[.agg #[.int .i64 v0.k,.bool v0.b,.int .i64 v0.n,.string v0.t,.string v0.x,.slice v0.p v0.len v0.cap,.int .i64 v1.k,.bool v1.b,.int .i64 v1.n,.string v1.t,.string v1.x,.slice v1.p v1.len v1.cap,.int .i64 v2.k,.bool v2.b,.int .i64 v2.n,.string v2.t,.string v2.x,.slice v2.p v2.len v2.cap],.agg #[.int .i64 (x.a:Nat),.int .i64 (x.b:Nat),.int .i64 (x.c:Nat)]] W fun e w'=>e=.returned (.bool (jnB v0 v1 v2 x))∧Below W.heap.size W w'):=Lib.hid fun W=>joinAt v0 v1 v2 _ _ _ W
   have HK1:=Lib.hid hk1
   have HXM:Hid (x∈s.rs):=Lib.hid (by rw [hx];exact List.getElem_mem _)
   clear hrow hcell ck0 hrr rr0 hx hm hbel hrne hk1 hmr
   generalize s.rs.length=rl at*
   cases hj:jnB v0 v1 v2 x with
   | false=>
     rw [hj] at HJA
     gi_wp2_with (first
      |((with_reducible refine zxp zis (.tmp 20) gr (fr+m*3) x.a x.b x.c rr ?_ ?_ ?_ ?_);rfl;rfl;rfl)
      |((with_reducible refine zlq zis (.tmp 6) (.tmp 21) wr.heap.size x.a x.b x.c (zag _ _ rfl) rfl ?_ ?_ ?_ ?_ ?_);rfl;rfl;rfl;rfl;intro w5 ho5 R5;have z5:Below wr.heap.size wr w5:=zai (zap wr _) ho5 (Nat.le_refl _) (by simp);have way5:=HV.out.2.way.below z5;clear ho5)
      |((with_reducible refine zr0 zis (.tmp 2) g5 v0 v1 v2 way5 ?_ ?_ ?_ ?_);rfl;rfl;rfl)
      |((with_reducible refine zrz zis (.tmp 6) wr.heap.size x.a x.b x.c R5 ?_ ?_ ?_ ?_);rfl;rfl;rfl)
      |(refine ⟨trivial,?_⟩;gi_at_call 90;(with_reducible refine (callsIn_wide.2 (HJA.out _)).mono ?_);rintro e w6 ⟨rfl,hb6⟩;have z6:=z5.trans (hb6.mono z5.size);clear hb6))
     have HV6:Hid (zs9 s J w sp g2 g5 v0 v1 v2 (zcl s b u (jnB v0 v1 v2) (k+1)) w6):=Lib.hid (by
      rw [zzt HK1.out (by rw [HROW.out HK1.out];exact hj)]
      obtain ⟨⟨L',hL',hJ'⟩,hI'⟩:=HV.out
      exact ⟨⟨L',hL',zxt HJ.out hJ' z6⟩,hI'.below z6⟩)
     clear z5 z6 way5 R5 rr cs ck
     refine ⟨fun f h=>(by cases h),?_⟩
     gi_wp2
     go_roundw
     case rel=>exact ⟨k+1,by omega,by go_num,HV6⟩
     case measure=>simp [intOf];omega
   | true=>
     rw [hj] at HJA
     have HLEN:=Lib.hid (fit_len (j:=jnB v0 v1 v2) HK1.out (by rw [HROW.out HK1.out];exact hj))
     gi_wp2_with (first
      |((with_reducible refine zxp zis (.tmp 20) gr (fr+m*3) x.a x.b x.c rr ?_ ?_ ?_ ?_);rfl;rfl;rfl)
      |((with_reducible refine zlq zis (.tmp 6) (.tmp 21) wr.heap.size x.a x.b x.c (zag _ _ rfl) rfl ?_ ?_ ?_ ?_ ?_);rfl;rfl;rfl;rfl;intro w5 ho5 R5;have z5:Below wr.heap.size wr w5:=zai (zap wr _) ho5 (Nat.le_refl _) (by simp);have way5:=HV.out.2.way.below z5;clear ho5)
      |((with_reducible refine zr0 zis (.tmp 2) g5 v0 v1 v2 way5 ?_ ?_ ?_ ?_);rfl;rfl;rfl)
      |((with_reducible refine zrz zis (.tmp 6) wr.heap.size x.a x.b x.c R5 ?_ ?_ ?_ ?_);rfl;rfl;rfl)
      |(refine ⟨trivial,?_⟩;gi_at_call 90;refine Hid.out ?_))
     refine Lib.hid ?_
     refine (callsIn_wide.2 (HJA.out _)).mono ?_
     rintro e w6 ⟨rfl,hb6⟩
     replace R5:=(hb6.block _ (zac R5)).trans R5
     have z6:=z5.trans (hb6.mono z5.size)
     obtain ⟨⟨L',hL',hJ'⟩,hI'⟩:=HV.out
     obtain ⟨fn,tmps,assign,body,hy,hR⟩:=HY.out L' ⟨x,HXM.out⟩ _ (zxt HJ.out hJ' z6) (by have:=HLEN.out;rw [← hL',List.length_map] at this;rw [HX.out];exact this)
     try dsimp only at hy
     have HR:=Lib.hid hR
     have HI6:=Lib.hid (hI'.below z6)
     have HL':=Lib.hid hL'
     clear hb6 hR hL' hJ' hI'
     gi_wp2_with (first
      |((with_reducible refine zrz zis (.tmp 6) wr.heap.size x.a x.b x.c R5 ?_ ?_ ?_ ?_);rfl;rfl;rfl))
     refine HR.out.mono ?_
     rintro e W3 (⟨rfl,hJ3,hk3⟩ | ⟨rfl,hJx3⟩)
     ·have HV6:Hid (zs9 s J w sp g2 g5 v0 v1 v2 (zcl s b u (jnB v0 v1 v2) (k+1)) W3):=Lib.hid (by
       rw [zr1 HK1.out (by rw [HROW.out HK1.out];exact hj),HROW.out HK1.out]
       exact ⟨⟨_,by rw [List.map_append,HL'.out];rfl,hJ3⟩,HI6.out.keep hk3⟩)
      clear z5 z6 way5 R5 rr cs ck hJ3 hk3 hy c2
      gi_wp2
      go_roundw
      case rel=>exact ⟨k+1,by omega,by go_num,HV6⟩
      case measure=>simp [intOf];omega
     ·have HJ3:=Lib.hid hJx3
      have HPR:Hid ((L'++[(⟨x,HXM.out⟩:SRow s)]).map Subtype.val <+: X):=Lib.hid (by
       have:=zxu (s:=s) (b:=b) (u:=u) (j:=jnB v0 v1 v2) (k+1)
       rw [zr1 HK1.out (by rw [HROW.out HK1.out];exact hj),HROW.out HK1.out] at this
       rw [List.map_append,HL'.out,HX.out]
       exact this)
      clear z5 z6 way5 R5 rr cs ck hJx3 hy c2
      gi_wp2
      refine bodyPost_ret (results_none rfl _ _ _) rfl ?_
      exact ⟨⟨_,rfl⟩,.inr ⟨_,HPR.out,HJ3.out⟩⟩
  ·have hfin:∃ L':List (SRow s),L'.map Subtype.val=X∧J L' wr:=by
    rw [HX.out,← fit_all (k:=k) (by have:=HN.out;omega)]
    exact HV.out.1
   have HF:=Lib.hid hfin
   clear hfin HV
   gi_wp2
   go_end0
   exact ⟨⟨_,rfl⟩,.inl HF.out⟩
end YtanbgdhmfjgihaaGreatDoor
end Go.Proofs

/- FE -/
namespace Go.Proofs
open Go.Shelf
namespace YtanbgdhmfjgihaaGreatDoor
open Go.RowKit
attribute [local go_sem] Oper.semAt_some
theorem zqi:(Tryz.prog.info? 45).map (·.size)=some 18:=by kernel_rfl
theorem inPat {F:Fence} {n:Nat} {ops:Array Oper} {rest:List Oper} {o:Oper} {a:Act} {w:World} {Q:Exit→Act→World→Prop} (hF:∀ f,F.fn f) (x:Operand) (g:Nat) (v0 v1 v2:V6) (hg:w.heap[g]?=some (.cells #[.int .i64 v0.k,.bool v0.b,.int .i64 v0.n,.string v0.t,.string v0.x,.slice v0.p v0.len v0.cap,.int .i64 v1.k,.bool v1.b,.int .i64 v1.n,.string v1.t,.string v1.x,.slice v1.p v1.len v1.cap,.int .i64 v2.k,.bool v2.b,.int .i64 v2.n,.string v2.t,.string v2.x,.slice v2.p v2.len v2.cap] 45))
 (hw:Region.wanted o (yielded ops a.tmps)=true) (ho:o.op=.load 45 x) (hx:a.eval x=.pointer (some ⟨g,0,none⟩))
 (h:wpListIn F n Tryz.prog ops Q rest (a.put o.dst (.agg #[.int .i64 v0.k,.bool v0.b,.int .i64 v0.n,.string v0.t,.string v0.x,.slice v0.p v0.len v0.cap,.int .i64 v1.k,.bool v1.b,.int .i64 v1.n,.string v1.t,.string v1.x,.slice v1.p v1.len v1.cap,.int .i64 v2.k,.bool v2.b,.int .i64 v2.n,.string v2.t,.string v2.x,.slice v2.p v2.len v2.cap])) w):wpListIn F n Tryz.prog ops Q (o::rest) a w:=
 zdt hF _ _ hw (by rw [ho];intro c hc;cases hc) (by
  unfold execOp
  simp only [ho,hx,Instr.loadAt,Instr.sureAddr,Sem.run_bind,Sem.run_pure,Result.andThen_ok,run_loadVar_row (P:=Tryz.prog) w g 45 45 _ (0,0) _ hg Tryz.underlying45 rfl zqi]) h
theorem ItIn.from {w W0 W:World} {sp g2 g5:Nat} {v0 v1 v2:V6} (h:ItIn W0 sp g2 g5 v0 v1 v2 W) (b:Below w.heap.size w W0):ItIn w sp g2 g5 v0 v1 v2 W:=⟨b.trans (h.bel.mono b.size),h.c2,h.way⟩
theorem zlr {l:List Tri3} {s:SM} (hl:zbf l s) (hn:l.length≤65536) (b:Nat→Bool) (u:Nat→Val) (j:R3→Bool):(zb2 s b u j).length≤65536:=by
 have h1:=hl.nr
 unfold zb2 SM.nums
 refine Nat.le_trans (List.length_filter_le _ _) ?_
 rw [List.length_map]
 refine Nat.le_trans (List.length_filter_le _ _) ?_
 rw [List.length_range]
 omega
set_option maxHeartbeats 6400000 in
set_option maxRecDepth 20000 in
theorem countAt (sp:Nat) (l:List Tri3) (s:SM) (pv pr:Option Addr) (cv cr:Nat) (pp:Nat→Option Addr) (cc:Nat→Nat) (w:World) (h0:zcy w sp s pv pr cv cr pp cc) (hcc:∀ k,k < 6→(s.ls k).length≤cc k) (hl:zbf l s) (hn:l.length≤65536) (hG:Gd w) (hT:Tab w)
 (v0 v1 v2:V6) (u:Nat→Val) (q:Nat→List Val) (i0:Is w v0 (u 0) (q 0)) (i1:Is w v1 (u 1) (q 1)) (i2:Is w v2 (u 2) (q 2)) (b:Nat→Bool) (hb0:b 0=decide (v0.k=0)) (hb1:b 1=decide (v1.k=0)) (hb2:b 2=decide (v2.k=0))
 (hs:∀ v,b v=false→∀ a∈s.vs,za7 a (u v)=true↔a=u v):
 Calls Tryz.prog 19 #[.pointer (some ⟨sp,0,none⟩),.agg #[.int .i64 v0.k,.bool v0.b,.int .i64 v0.n,.string v0.t,.string v0.x,.slice v0.p v0.len v0.cap,.int .i64 v1.k,.bool v1.b,.int .i64 v1.n,.string v1.t,.string v1.x,.slice v1.p v1.len v1.cap,.int .i64 v2.k,.bool v2.b,.int .i64 v2.n,.string v2.t,.string v2.x,.slice v2.p v2.len v2.cap]] w fun e w'=>e=.returned (.int .i64 ((zb2 s b u (jnB v0 v1 v2)).length:Nat))∧Below w.heap.size w w':=by
 have hlen:=zlr hl hn b u (jnB v0 v1 v2)
 have hst:=fun g2 g5 w1 hit=>zta sp l s pv pr cv cr pp cc w h0 hcc hl hn hG hT v0 v1 v2 u q i0 i1 i2 b hb0 hb1 hb2 hs g2 g5 w1 hit
 obtain ⟨X,hX⟩:∃ X,X=zb2 s b u (jnB v0 v1 v2):=⟨_,rfl⟩
 rw [← hX] at hst hlen ⊢
 obtain ⟨W0,hW0⟩:∃ W0,W0=(w.alloc (.cells #[.int .i64 v0.k,.bool v0.b,.int .i64 v0.n,.string v0.t,.string v0.x,.slice v0.p v0.len v0.cap,.int .i64 v1.k,.bool v1.b,.int .i64 v1.n,.string v1.t,.string v1.x,.slice v1.p v1.len v1.cap,.int .i64 v2.k,.bool v2.b,.int .i64 v2.n,.string v2.t,.string v2.x,.slice v2.p v2.len v2.cap] 45)).alloc (.cells #[.int .i64 0] 3):=⟨_,rfl⟩
 have b0:Below w.heap.size w W0:=by rw [hW0];exact zdx _ _ _
 have p0:W0.heap[w.heap.size]?=some (.cells #[.int .i64 v0.k,.bool v0.b,.int .i64 v0.n,.string v0.t,.string v0.x,.slice v0.p v0.len v0.cap,.int .i64 v1.k,.bool v1.b,.int .i64 v1.n,.string v1.t,.string v1.x,.slice v1.p v1.len v1.cap,.int .i64 v2.k,.bool v2.b,.int .i64 v2.n,.string v2.t,.string v2.x,.slice v2.p v2.len v2.cap] 45):=by rw [hW0];exact zau _ (zag _ _ rfl)
 have n0:Boxed W0 (w.heap.size+1) 3 (.int .i64 0):=by rw [hW0];exact zag _ _ (by simp)
 have HST:=Lib.hid hst
 have HB:=Lib.hid b0
 have HN:=Lib.hid n0
 have HW:=Lib.hid hW0
 clear hst h0 hcc hl hG hT i0 i1 i2 hb0 hb1 hb2 hs hX hn
 refine (callsIn_wide (n:=4)).1 ?_
 refine callsIn_of_wp_marks Tryz.func19 rfl trivial ?_ rfl
 simp only [Tryz.ntmps19,List.size_toArray,List.length_cons,List.length_nil,Nat.reduceAdd,Nat.reduceSub,Array.replicate_succ,Array.replicate_zero,List.push_toArray,List.append_toArray,List.nil_append,List.cons_append]
 gi_upto_region 2 with fail
 try rw [← HW.out]
 gi_wp2_with (first
  |((with_reducible refine inPat zis (.tmp 3) w.heap.size v0 v1 v2 p0 ?_ ?_ ?_ ?_);rfl;rfl;rfl)
  |(refine ⟨trivial,?_⟩;gi_at_call 51;refine Hid.out ?_))
 refine Lib.hid ?_
 refine (callsIn_wide.2 (zqg sp v0 v1 v2 _)).mono ?_
 rintro e w1 hfp
 rw [← HW.out] at hfp
 obtain ⟨g2,g5,rfl,hit,h2,h5⟩:=hfp
 have hs0:=HB.out.size
 have hs1:w.heap.size+1 < W0.heap.size:=HN.out.lt
 have b1:=hit.bel
 have hit2:=hit.from HB.out
 have hg2:=zac hit.c2
 have hg5:=zac hit.way
 have HX:=Lib.hid (HST.out g2 g5 w1 hit2)
 have n1:Boxed w1 (w.heap.size+1) 3 (.int .i64 0):=(b1.block _ hs1).trans HN.out
 have HB1:=Lib.hid hit2.bel
 have hbs:=hit2.bel.size
 have HN1:=Lib.hid n1
 clear hit hit2 b1 p0 HST n1
 gi_wp2
 refine wpIn_rangeFunc_ownG (gf:=88) (lb:=#[.pointer (some ⟨g2,0,none⟩),.pointer (some ⟨g5,0,none⟩)]) rfl (by decide) rfl trivial (enters_of Tryz.func88 (by kernel_rfl) rfl) HX.out zxr (zxs hbs hg2 hg5) (Below.refl _ _) (fun _=>rfl)
  (fun pre W=>Boxed W (w.heap.size+1) 3 (.int .i64 (pre.length:Nat))∧Below w.heap.size w W)
  (fun _ _ _=>False)
  (OwnFrom.and (Own.from (boxed_own (w.heap.size+1) 3 (fun pre:List (SRow s)=>.int .i64 (pre.length:Nat))) _) (ownFrom_below (Nat.le_refl _) hbs))
  (fun _ _ _ _ _ hs _ _=>hs)
  ⟨HN1.out,HB1.out⟩
  ?act1 ?assign ?body ?done ?stop
 case assign=>
  intro l x W K hK
  gi_wp2
  exact hK
 case body=>
  rintro l pre x W ⟨hv,hB⟩ hlt
  have hc:=hv.cell
  have hf:=hv.frozen
  have hpl:(pre.length:Int) < 65536:=by omega
  have HV:=Lib.hid hv
  have HBB:=Lib.hid hB
  have hws:=hB.size
  clear hv hB
  gi_wp2
  refine ⟨(KeepsOthers.setCell _ _ _).from _,⟨(Below.refl _ W).setCell (p:=⟨w.heap.size+1,0,none⟩) (Nat.le_succ _) _,Below.heap_setCell _ _ _ _ (by simp;omega),Below.heap_setCell _ _ _ _ (by simp;omega)⟩,?_,HBB.out.setCell (p:=⟨w.heap.size+1,0,none⟩) (Nat.le_succ _) _⟩
  have:=HV.out.set (.int .i64 ((pre.length:Int)+1))
  rw [List.length_append]
  exact this
 case done=>
  rintro D ys W hD hys ⟨hv,hB⟩ hK
  have HYS:=Lib.hid hys
  clear hys
  have hc:=hv.cell
  have HBB:=Lib.hid hB
  have HK:=Lib.hid hK
  clear hv hB
  gi_wp2
  refine ⟨by simp,.inl ⟨_,_,rfl,run_takeDeferred HK.out,?_⟩⟩
  exact ⟨_,results_tmp rfl _ _ _,by rw [← HYS.out,List.length_map];rfl,HBB.out.trans (belowK_b (w:=w) (Nat.le_refl _) W D _ _ (by omega) HK.out rfl rfl)⟩
 case stop=>
  rintro D c pre W _ _ h _
  exact h.elim
end YtanbgdhmfjgihaaGreatDoor
end Go.Proofs

/- FF -/
namespace Go.Proofs
open Go.Shelf
namespace YtanbgdhmfjgihaaGreatDoor
open Go.RowKit
attribute [local go_sem] Oper.semAt_some
section
variable {n l:Nat} {Q:Exit→Act→World→Prop}
theorem oper_in (hQ:¬ LetsOut Q) {o:Oper} (hd:∀ c,o.op≠.defer c) {a:Act} {w:World} {K:Act→World→Prop} (h:o.wp Tryz.prog a w K Q):o.wpIn (Fence.wide.inRound l) n Tryz.prog a w K Q:=by
 refine ⟨fun _ _=>trivial,?_⟩
 rw [Oper.semAt_plain _ _ _ hd]
 unfold Oper.wp at h
 generalize (execOp a.eval o).run Tryz.prog w=r at h
 have hdep:(Fence.wide.inRound l).depth.isSome=true→1≤n:=fun h=>by cases h
 match r,h with
 | .ok (.value v) w',h=>exact h
 | .ok .skip w',h=>exact h
 | .ok (.defer d) w',h=>exact h
 | .ok (.enter f args) w',h=>exact ⟨hdep,CallsIn.inRound l (callsIn_wide.2 h)⟩
 | .ok (.row row args) w',h=>exact ⟨hdep,fun c cs _=>by
    obtain ⟨v,w2,hr,hs⟩:=h c cs
    exact ⟨v,w2,hr,stepsIn_wide.2 hs⟩⟩
 | .ok (.round _ _ _ _ _) _,h=>exact h.elim
 | .halt (.panic v) w',h=>exact h
theorem wpOp_in (hQ:¬ LetsOut Q) {ops:Array Oper} (hd:∀ (i:Nat) (o:Oper),ops[i]?=some o→∀ c,o.op≠.defer c) {i:Nat} {K K':Act→World→Prop} (hK:∀ a w,K a w→K' a w) {a:Act} {w:World} (h:wpOp Tryz.prog ops Q i K a w):wpOpIn (Fence.wide.inRound l) n Tryz.prog ops Q i K' a w:=by
 unfold wpOp at h
 unfold wpOpIn
 cases ho:ops[i]? with
 | none=>rw [ho] at h;exact hK _ _ h
 | some o=>
   rw [ho] at h
   simp only at h ⊢
   by_cases hw:Region.wanted o (yielded ops a.tmps)=true
   ·rw [if_pos hw] at h ⊢
    rcases h with h | h
    ·exact Oper.wpIn_mono hK (oper_in hQ (hd i o ho) h)
    ·exact absurd h.2 hQ
   ·rw [if_neg hw] at h ⊢
    exact ⟨fun _ _=>trivial,hK _ _ h⟩
theorem ztb (hQ:¬ LetsOut Q) {ops:Array Oper} (hd:∀ (i:Nat) (o:Oper),ops[i]?=some o→∀ c,o.op≠.defer c):∀ (fuel:Nat) (listed:Array Bool) (a:Act) (w:World),wpAny Tryz.prog .any ops Q fuel listed a w→wpAnyIn (Fence.wide.inRound l) n Tryz.prog .any ops Q fuel listed a w
 | 0,_,_,_,h=>h
 | fuel+1,_,_,_,h=>⟨h.1,fun i hi=>wpOp_in hQ hd (fun a' w' h'=>ztb hQ hd fuel _ a' w' h') (h.2 i hi)⟩
theorem zxv (hQ:¬ LetsOut Q) {id:Nat} {ops:Array Oper} (hd:(ops.all fun o=>match o.op with | .defer _=>false | _=>true)=true) {S:World→Prop} {a:Act} {w:World} (hm:Tryz.prog.follows .mixedOrders=true) (hS:S w.drew)
 (h:S w.drew→wpAnyH Tryz.prog .any ops Q S ops.size (Array.replicate ops.size false) a w.drew):(Code.region id ops true).wpIn (Fence.wide.inRound l) n Tryz.prog Q a w:=by
 refine wpIn_region_any hm (ztb hQ (fun i o ho c hc=>?_) _ _ _ _ (wpAny_of_held _ _ _ _ (h hS)))
 have:=(Array.all_eq_true_iff_forall_mem.1 hd) o (Array.mem_of_getElem? ho)
 rw [hc] at this
 cases this
end
theorem wideR (l:Nat):∀ f,(Fence.wide.inRound l).fn f:=fun _=>trivial
theorem zzu {w:World} {g:Nat} {a b c:Value} (h:w.heap[g]?=some (.cells #[a,b,c] 81)):w.rangeAt g 0 [a,b,c]:=fun i v hv=>by
 rw [Nat.zero_add]
 exact zab h i (by simpa using hv)
theorem zxw {w:World} {base size n g:Nat} {e:TypeId} {v:Value} {xs:List Value} (h:w.ownsRow base e size v n xs) (hz:v.ownBlock=some g) {c:Array Value} {t:TypeId} (hg:w.heap[g]?=some (.cells c t)) (ht:t≠e):False:=by
 rcases h.2 with ⟨rfl,_⟩ | ⟨g',cap,cur,rfl,_,hh,_⟩
 ·cases hz
 ·obtain rfl:g'=g:=by simpa [Value.ownBlock] using hz
  rw [hg] at hh
  cases hh
  exact ht rfl
theorem zfl (a b:List Tri3):flat (a++b)=flat a++flat b:=by unfold flat;rw [List.flatMap_append]
theorem zls {W W2 w4:World} {nb B n size:Nat} {e:TypeId} {v:Value} {xs:List Value} (own3:W2.ownsRow nb e size v n xs) (L2:Below W.heap.size W W2) (hg4:W2.grownBy w4 v.ownBlock):KeepsFrom B W w4:=
 ⟨Nat.le_trans L2.size hg4.size,fun k o _ hk ho=>by
  have h2:=(L2.block k (zac hk)).trans hk
  refine (hg4.block k (zac h2) (fun e=>?_)).trans h2
  rcases own3.2 with ⟨rfl,_⟩ | ⟨g',cap,cur,rfl,_,hh,_⟩
  ·cases e
  ·obtain rfl:k=g':=by simpa [Value.ownBlock] using e
   rw [hh] at h2
   cases h2
   cases ho⟩
structure MatI (s:SM) (B5 nb:Nat) (T:List Tri3) (k:Nat) (W:World) (v:Value) (d:List VE):Prop where
 box:Boxed W B5 22 v
 own:W.ownsRow nb 41 18 v k (d.flatMap VE.enc)
 val:d.map VE.val=flat T
def MatP (w:World) (s:SM) (sp B5 nb:Nat) (pre:List (SRow s)) (W:World):Prop:=((∃ v d,MatI s B5 nb ((pre.map Subtype.val).map s.tri) pre.length W v d)∧Boxed W w.heap.size 29 (.pointer (some ⟨sp,0,none⟩))∧nb≤W.heap.size)∧Below w.heap.size w W
theorem mat_own (s:SM) (B5 nb:Nat):Own (fun (pre:List (SRow s)) W=>∃ v d,MatI s B5 nb ((pre.map Subtype.val).map s.tri) pre.length W v d):=by
 rintro pre W W' row ⟨v,d,h1,h2,h3⟩ hg hrow
 obtain ⟨v2,hv2,hr2,_⟩:=holdsRow_own nb B5 22 41 18 (fun _:Unit=>pre.length) (fun _=>d.flatMap VE.enc) (fun _ _=>True) () W W' row ⟨v,h1,h2,trivial⟩ hg hrow
 exact ⟨v2,d,hv2,hr2,h3⟩
def zfb (w:World) (T:List Tri3) (e:Ending) (w':World):Prop:=∃ L,e=.returned L∧Tris w' L T∧Below w.heap.size w w'∧(∀ g,L.ownBlock=some g→w.heap.size≤g)∧∃ xs,w'.ownsRow w.heap.size 41 18 L T.length xs
theorem mat_end {w W:World} {s:SM} {B5 nb:Nat} {T:List Tri3} {k:Nat} {v:Value} {d:List VE} (h:MatI s B5 nb T k W v d) (hk:k=T.length) (hb:Below w.heap.size w W) (hnb:w.heap.size≤nb):zfb w T (.returned v) W:=by
 obtain ⟨_,hown,hd⟩:=h
 refine ⟨v,rfl,?_,hb,fun g hg=>Nat.le_trans hnb (hown.lt g hg).1,_,by rw [← hk];exact ⟨hown.1,hown.2.imp id fun ⟨g,cap,cur,e1,h1,h2⟩=>⟨g,cap,cur,e1,Nat.le_trans hnb h1,h2⟩⟩⟩
 rcases hown.2 with ⟨rfl,h0⟩ | ⟨g,cap,cur,rfl,hg,hh,_⟩
 ·exact ⟨none,0,by rw [← hk,h0],fun hne=>absurd (List.length_eq_zero_iff.1 (by omega)) hne⟩
 ·refine ⟨some ⟨g,0,none⟩,cap,by rw [hk],fun _=>⟨g,0,rfl,?_⟩⟩
  rw [← hd]
  refine zb0 W g d 0 fun t u hu=>?_
  have ht:t < k*18:=by
   have:=(List.getElem?_eq_some_iff.1 hu).1
   rw [hown.1] at this
   exact this
  rw [Nat.zero_add,hown.cellAt t ht]
  exact hu
def MatX {s:SM} (nb:Nat) (A:SRow s→Nat→Act) (x:SRow s) (a':Act) (W:World):Prop:=∃ Bx,nb≤Bx∧W.heap[Bx]?=some (.cells #[.int .i64 (x.1.a:Nat),.int .i64 (x.1.b:Nat),.int .i64 (x.1.c:Nat)] 81)∧a'=A x Bx
theorem zzv {s:SM} (nb:Nat) (A:SRow s→Nat→Act) (x:SRow s) (a':Act):Own (fun (_:Unit) W=>MatX nb A x a' W):=by
 rintro _ W W' row ⟨Bx,h1,h2,h3⟩ hg hrow
 refine ⟨Bx,h1,(hg.block Bx (zac h2) (fun e=>?_)).trans h2,h3⟩
 obtain ⟨o,ho,hc⟩:=hrow Bx e.symm
 rw [h2] at ho
 cases ho
 cases hc
end YtanbgdhmfjgihaaGreatDoor
end Go.Proofs
