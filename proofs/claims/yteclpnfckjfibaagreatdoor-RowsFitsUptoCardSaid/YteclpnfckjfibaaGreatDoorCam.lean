/- Texts of one kind, one behind the other: each says ahead of itself what it shows. -/
import Derived.Test.YteclpnfckjfibaaGreatDoorCal
import Derived.RangeFuncNested
import Derived.RangeFuncBound
import Derived.RangeFuncCalls
import Derived.RangeFuncLeaves
import Derived.Shelf.Abstract
import Derived.Shelf.RegionOpen
import Derived.WalkKit
import Derived.OwnWalkIn
import Derived.TacticsInMore
import Derived.LoopNIn
import Derived.LoopIn
import Derived.Maps.OwnIn
import Derived.Sort.CutIn
import Derived.Test.YteclpnfckjfibaaGreatDoorCag
/- NP -/
namespace Go.Proofs.YteclpnfckjfibaaGreatDoor
open Go.RowKit
theorem zpm (q s:List Val) (hl:q.length=s.length) (f1:zct q) (f2:zct s) (m1:zdz q 0=true) (m2:zdz s 0=true) (h:zar q=zar s):q=s:=by
 have h1:=zij 0 (by omega) q (zk4 q) f1 m1 []
 have h2:=zij 0 (by omega) s (zk4 s) f2 m2 []
 rw [h,hl,h2] at h1
 simpa using h1.symm
theorem zfo:(l:List Val)→(∀ v∈l,mayP v 0=true)→zdz l 0=true
 | [],_=>by unfold zdz;rfl
 | v::r,h=>by
   unfold zdz
   rw [h v (by simp),zfo r fun u hu=>h u (by simp [hu])]
   rfl
theorem zlx:(l:List Val)→(∀ v∈l,zn4 v)→zct l
 | [],_=>by unfold zct;trivial
 | v::r,h=>by
   unfold zct
   exact ⟨h v (by simp),zlx r fun u hu=>h u (by simp [hu])⟩
theorem zly {sh:List (Nat × Nat)} {r:List Val} {v:Val} (hin:∀ p∈sh,p.1 < r.length) (h:v∈zbw sh r):v∈r:=by
 unfold zbw at h
 rw [List.map_map] at h
 obtain ⟨p,hp,rfl⟩:=List.mem_map.1 h
 show atV r p.1∈r
 rw [zhz (hin p hp)]
 exact List.getElem_mem _
theorem zru:(sh:List (Nat × Nat))→(a b:List Val)→(zbw sh a).all isB=true→(zbi sh b).all isB=true→(fitB sh a b=true↔zbw sh a=zbi sh b)
 | [],a,b,_,_=>by simp [fitB,zbw,zbi]
 | p::sh,a,b,ha,hb=>by
   have ha':isB (atV a p.1)=true∧(zbw sh a).all isB=true:=by simpa [zbw] using ha
   have hb':isB (atV b p.2)=true∧(zbi sh b).all isB=true:=by simpa [zbi] using hb
   have ih:=zru sh a b ha'.2 hb'.2
   have e1:zbw (p::sh) a=atV a p.1::zbw sh a:=rfl
   have e2:zbi (p::sh) b=atV b p.2::zbi sh b:=rfl
   have e3:fitB (p::sh) a b=(fit1 a b p && fitB sh a b):=rfl
   have e4:fit1 a b p=zcy (atV a p.1) (atV b p.2):=by simp [fit1,ha'.1,hb'.1]
   have e5:zcy (atV a p.1) (atV b p.2)=true↔atV a p.1=atV b p.2:=⟨zzj _ _,fun h=>by rw [h];exact zii _⟩
   rw [e1,e2,e3,e4,Bool.and_eq_true,e5,ih,List.cons.injEq]
def fitN (sh:List (Nat × Nat)) (r:List Val) (rows:List (List Val)):List Nat:=(rows.zipIdx.filter fun p=>fitB sh r p.1).map (·.2)
theorem leI_nat (l:List (List Val × Nat)) (h:l.Pairwise (fun p q=>p.2≤q.2)):(l.map fun p=>(p.2:Int)).Pairwise (fun x y=>leI x y=true):=by
 rw [List.pairwise_map]
 exact h.imp fun h=>by simpa [leI] using h
theorem z17 (rows:List (List Val)) (k:Nat):(rows.zipIdx k).Pairwise (fun p q=>p.2≤q.2):=by
 induction rows generalizing k with
 | nil=>exact List.Pairwise.nil
 | cons a l ih=>
   rw [List.zipIdx_cons]
   refine List.Pairwise.cons (fun p hp=>?_) (ih (k+1))
   have:=(List.mem_zipIdx hp).1
   show k≤p.2
   omega
theorem zzk (sh:List (Nat × Nat)) (rows:List (List Val)) (r:List Val) (hin:∀ x∈rows,∀ p∈sh,p.1 < r.length∧p.2 < x.length) (hA:(zbw sh r).all isB=true)
 (fr:∀ v∈r,zn4 v) (fx:∀ x∈rows,∀ v∈x,zn4 v) (mr:∀ v∈r,mayP v 0=true) (mx:∀ x∈rows,∀ v∈x,mayP v 0=true) (hsh:∀ p∈sh,p.1 < r.length):
 zy6 sh rows r (zar (zbw sh r))=(fitN sh r rows).map fun i:Nat=>(i:Int):=by
 have key:∀ p∈rows.zipIdx,(zbi sh p.1).all isB=true→(decide (zar (zbi sh p.1)=zar (zbw sh r))=fitB sh r p.1):=fun p hp hb=>by
  have hpr:p.1∈rows:=by
   have:=List.mem_zipIdx' hp
   rw [this.2]
   exact List.getElem_mem _
  have h:=zru sh r p.1 hA hb
  have ge:zar (zbi sh p.1)=zar (zbw sh r)↔zbw sh r=zbi sh p.1:=⟨fun e=>(zpm _ _ (by simp [zbw,zbi]) (zlx _ fun v hv=>fx _ hpr v (zlu (fun p hp=>(hin _ hpr p hp).2) hv)) (zlx _ fun v hv=>fr v (zly hsh hv)) (zfo _ fun v hv=>mx _ hpr v (zlu (fun p hp=>(hin _ hpr p hp).2) hv)) (zfo _ fun v hv=>mr v (zly hsh hv)) e).symm,fun e=>by rw [e]⟩
  rw [Bool.eq_iff_iff,decide_eq_true_iff,ge,h]
 have e1:grp (evI sh rows) (zar (zbw sh r))=((rows.zipIdx.filter fun p=>(zbi sh p.1).all isB && fitB sh r p.1).map fun p=>(p.2:Int)):=by
  unfold grp evI
  have hl:∀ l:List (List Val × Nat),(∀ p∈l,p∈rows.zipIdx)→(((l.filterMap fun p=>if (zbi sh p.1).all isB then some (zar (zbi sh p.1),(p.2:Int)) else none).filter fun e=>decide (e.1=zar (zbw sh r))).map (·.2))=((l.filter fun p=>(zbi sh p.1).all isB && fitB sh r p.1).map fun p=>(p.2:Int)):=by
   intro l
   induction l with
   | nil=>intro _;rfl
   | cons p l ih=>
     intro hm
     have ih:=ih fun q hq=>hm q (by simp [hq])
     have hk:=key p (hm p (by simp))
     rw [List.filterMap_cons,List.filter_cons]
     cases hb:(zbi sh p.1).all isB with
     | false=>
       simp only [Bool.false_eq_true,if_false,Bool.false_and]
       exact ih
     | true=>
       simp only [if_true,Bool.true_and]
       rw [List.filter_cons,hk hb]
       cases fitB sh r p.1 with
       | false=>simp only [Bool.false_eq_true,if_false];exact ih
       | true=>simp only [if_true,List.map_cons];rw [ih]
  exact hl _ fun _ h=>h
 have e2:(zbj sh rows).filter (fun z=>fitB sh r (zix rows z))=((rows.zipIdx.filter fun p=>!(zbi sh p.1).all isB && fitB sh r p.1).map fun p=>(p.2:Int)):=by
  unfold zbj
  have hl:∀ l:List (List Val × Nat),(∀ p∈l,p∈rows.zipIdx)→((l.filterMap fun p=>if (zbi sh p.1).all isB then none else some (p.2:Int)).filter fun z=>fitB sh r (zix rows z))=((l.filter fun p=>!(zbi sh p.1).all isB && fitB sh r p.1).map fun p=>(p.2:Int)):=by
   intro l
   induction l with
   | nil=>intro _;rfl
   | cons p l ih=>
     intro hm
     have ih:=ih fun q hq=>hm q (by simp [hq])
     have hro:zix rows (p.2:Int)=p.1:=by
      have:=List.mem_zipIdx' (hm p (by simp))
      unfold zix
      rw [Int.toNat_natCast,this.2]
      simp [this.1]
     rw [List.filterMap_cons,List.filter_cons]
     cases hb:(zbi sh p.1).all isB with
     | true=>
       simp only [if_true,Bool.not_true,Bool.false_and,Bool.false_eq_true,if_false]
       exact ih
     | false=>
       simp only [Bool.false_eq_true,if_false,Bool.not_false,Bool.true_and]
       rw [List.filter_cons,hro]
       cases fitB sh r p.1 with
       | false=>simp only [Bool.false_eq_true,if_false];exact ih
       | true=>simp only [if_true,List.map_cons];rw [ih]
  exact hl _ fun _ h=>h
 unfold zy6 fitN
 rw [e1,e2,List.map_map]
 show _=(rows.zipIdx.filter fun p=>fitB sh r p.1).map fun p=>(p.2:Int)
 have f1:(rows.zipIdx.filter fun p=>(zbi sh p.1).all isB && fitB sh r p.1)=(rows.zipIdx.filter fun p=>fitB sh r p.1).filter fun p=>(zbi sh p.1).all isB:=by rw [List.filter_filter]
 have f2:(rows.zipIdx.filter fun p=>!(zbi sh p.1).all isB && fitB sh r p.1)=(rows.zipIdx.filter fun p=>fitB sh r p.1).filter fun p=>!(zbi sh p.1).all isB:=by rw [List.filter_filter]
 have hs:(rows.zipIdx.filter fun p=>fitB sh r p.1).Pairwise (fun p q=>p.2≤q.2):=(z17 rows 0).sublist List.filter_sublist
 rw [f1,f2]
 generalize (rows.zipIdx.filter fun p=>fitB sh r p.1)=F at*
 have hperm:(F.filter (fun p=>(zbi sh p.1).all isB)++F.filter (fun p=>!(zbi sh p.1).all isB)).Perm F:=List.filter_append_perm _ F
 split
 ·rename_i h0
  have h0':F.filter (fun p=>!(zbi sh p.1).all isB)=[]:=List.map_eq_nil_iff.1 h0
  have:F.filter (fun p=>(zbi sh p.1).all isB)=F:=by
   rw [List.filter_eq_self]
   intro p hp
   have:=List.filter_eq_nil_iff.1 h0' p hp
   simpa using this
  rw [this]
 ·refine List.Perm.eq_of_pairwise (le:=fun x y=>leI x y=true) (fun a b _ _ h1 h2=>leI_an a b h1 h2) (List.pairwise_mergeSort leI_tr leI_to _) (leI_nat F hs) ((List.mergeSort_perm _ leI).trans ?_)
  rw [← List.map_append]
  exact hperm.map _
end Go.Proofs.YteclpnfckjfibaaGreatDoor

/- IT -/
namespace Go.Proofs
open Go.Shelf
namespace YteclpnfckjfibaaGreatDoor
open Go.RowKit
attribute [local go_sem] Oper.semAt_some
theorem zfy:∀ f,Fence.wide.fn f:=fun _=>trivial
section
variable {F:Fence} {n:Nat} {ops:Array Oper} {rest:List Oper} {o:Oper} {a:Act} {w:World} {Q:Exit→Act→World→Prop}
theorem zh5 (hF:∀ f,F.fn f) (v:Value) (w':World) (hw:Region.wanted o (yielded ops a.tmps)=true) (hd:∀ c,o.op≠.defer c) (hr:(execOp a.eval o).run Tryz.prog w=.ok (.value v) w')
 (h:wpListIn F n Tryz.prog ops Q rest (a.put o.dst v) w'):wpListIn F n Tryz.prog ops Q (o::rest) a w:=
 wpListIn_step fun K hK=>by
  rw [if_pos hw]
  exact ⟨fun f _=>hF f,by rw [Oper.semAt_plain F _ _ hd,hr];exact hK _ _ h⟩
theorem zqo (hF:∀ f,F.fn f) (x:Operand) (g off:Nat) (A B:Value) (hr:w.rangeAt g off [A,B])
 (hw:Region.wanted o (yielded ops a.tmps)=true) (ho:o.op=.load 87 x) (hx:a.eval x=.pointer (some ⟨g,off,none⟩))
 (h:wpListIn F n Tryz.prog ops Q rest (a.put o.dst (.agg #[A,B])) w):wpListIn F n Tryz.prog ops Q (o::rest) a w:=
 zh5 hF _ _ hw (by rw [ho];intro c hc;cases hc) (by
  unfold execOp
  simp only [ho,hx,Instr.loadAt,Instr.sureAddr,Sem.run_bind,Sem.run_pure,Result.andThen_ok,run_loadVar_mid (P:=Tryz.prog) w g off 87 _ _ hr Tryz.underlying87 rfl zme]) h
theorem ztg (hF:∀ f,F.fn f) (x:Operand) (g:Nat) (A B R M L:Value) (hg:w.heap[g]?=some (.cells #[A,B,R,M,L] 90))
 (hw:Region.wanted o (yielded ops a.tmps)=true) (ho:o.op=.load 90 x) (hx:a.eval x=.pointer (some ⟨g,0,none⟩))
 (h:wpListIn F n Tryz.prog ops Q rest (a.put o.dst (.agg #[A,B,R,M,L])) w):wpListIn F n Tryz.prog ops Q (o::rest) a w:=
 zh5 hF _ _ hw (by rw [ho];intro c hc;cases hc) (by
  unfold execOp
  simp only [ho,hx,Instr.loadAt,Instr.sureAddr,Sem.run_bind,Sem.run_pure,Result.andThen_ok,run_loadVar_row (P:=Tryz.prog) w g 90 90 _ (0,0) _ hg Tryz.underlying90 rfl zh2]) h
end
theorem zrv {α:Type} {J:List α→World→Prop} {B:Nat} (hJ:AbidesFrom B J) {pre:List α} {A C:World} (h:J pre A) (b:Below A.heap.size A C):J pre C:=
 hJ pre A C none h ⟨b.os,b.tape,b.output,b.size,fun k hk _=>b.block k hk⟩ (fun r e=>by cases e)
def KpO (N:Nat) (Ow:World→Nat→Prop) (A B:World):Prop:=
 A.heap.size≤B.heap.size∧(∀ k o,A.heap[k]?=some o→¬ Ow A k→(k < N∨o.isCells=true)→B.heap[k]?=some o)∧∀ k,k < A.heap.size→Ow B k→Ow A k
def OwN (N:Nat) (Ow:World→Nat→Prop):Prop:=∀ (A B:World) (k:Nat),Below N A B→Ow B k→Ow A k
section
variable {N:Nat} {Ow:World→Nat→Prop}
theorem zth {A B C:World} (h:KpO N Ow A B) (k:KpO N Ow B C):KpO N Ow A C:=
 ⟨Nat.le_trans h.1 k.1,fun i o e q c=>k.2.1 i o (h.2.1 i o e q c) (fun x=>q (h.2.2 i (Array.getElem?_eq_some_iff.1 e).1 x)) c,fun i hi x=>h.2.2 i hi (k.2.2 i (Nat.lt_of_lt_of_le hi h.1) x)⟩
theorem kpO_b {w:World} (hN:N≤w.heap.size) (ho:OwN N Ow) (W:World) (l:Nat) (o o':Obj) (hl:w.heap.size≤l) (h:W.heap[l]?=some o) (hc:o.isCells=false) (_:o.isWalk=false):KpO N Ow W (W.putObj l o'):=
 have hb:Below N W (W.putObj l o'):=(Below.refl N W).grown (grownBy_putObj' W l o') (by have:=(Array.getElem?_eq_some_iff.1 h).1;omega) (fun k e=>by cases e;omega)
 ⟨hb.size,fun k p e _ c=>by
  have hk:k≠l:=by
   intro q
   subst q
   rw [h] at e
   cases e
   rcases c with c | c
   ·omega
   ·rw [hc] at c;cases c
  exact (World.putObj_heap_other hk).trans e,fun k _ x=>ho _ _ _ hb x⟩
theorem KpO.of_below {A B:World} (b:Below A.heap.size A B) (hN:N≤A.heap.size) (ho:OwN N Ow):KpO N Ow A B:=
 ⟨b.size,fun k _ e _ _=>(b.block k (Array.getElem?_eq_some_iff.1 e).1).trans e,fun _ _ x=>ho _ _ _ (b.mono hN) x⟩
theorem KpO.refl (A:World):KpO N Ow A A:=⟨Nat.le_refl _,fun _ _ e _ _=>e,fun _ _ x=>x⟩
theorem KpO.cells {A B:World} (h:KpO N Ow A B) {k:Nat} {c:Array Value} {t:TypeId} (e:A.heap[k]?=some (.cells c t)) (q:¬ Ow A k):B.heap[k]?=some (.cells c t):=h.2.1 k _ e q (.inr rfl)
theorem KpO.cell {A B:World} (h:KpO N Ow A B) {k o:Nat} {v:Value} (e:A.cell? ⟨k,o,none⟩=some v) (q:¬ Ow A k):B.cell? ⟨k,o,none⟩=some v:=by
 have hb:=World.block_lt_of_cell? A (a:=⟨k,o,none⟩) e
 cases hh:A.heap[k]? with
 | none=>rw [Array.getElem?_eq_none_iff] at hh;exact absurd hb (by simpa using hh)
 | some ob=>
   refine (World.cell?_of_block (w:=A) (a:=⟨k,o,none⟩) ?_).trans e
   show B.heap[k]?=A.heap[k]?
   rw [hh]
   refine h.2.1 k ob hh q (.inr ?_)
   cases ob with
   | cells c t=>rfl
   | _=>simp [World.cell?,hh] at e
end
abbrev RowN (rows:List (List Val)):={ i:Nat // i < rows.length }
structure CSet (w:World) (N:Nat) (Ow:World→Nat→Prop) (P:Nat→Prop) (sh:List (Nat × Nat)) (rows:List (List Val)) (A B R u:Value) (r:List Val) (us:Nat→Value):Prop where
 ow:OwN N Ow
 hN:N≤w.heap.size
 hP:∀ k,P k→k < N∧¬ Ow w k
 sh:ShIn w P sh A B
 rw_:zag rowE w P R rows
 u:zag valE w P u r
 us:∀ i (h:i < rows.length),∃ g off cap,R=.slice (some ⟨g,off,none⟩) rows.length cap∧P g∧w.cell? ⟨g,off+i,none⟩=some (us i)∧zag valE w P (us i) rows[i]∧rows[i].length≤2097152
theorem CSet.stay {w W:World} {N:Nat} {Ow:World→Nat→Prop} {P:Nat→Prop} {sh:List (Nat × Nat)} {rows:List (List Val)} {A B R u:Value} {r:List Val} {us:Nat→Value} (c:CSet w N Ow P sh rows A B R u r us) (h:KpO N Ow w W):zem P P w W:=fun k hk=>by
 have hl:k < w.heap.size:=Nat.lt_of_lt_of_le (c.hP k hk).1 c.hN
 refine ⟨hk,?_⟩
 rw [Array.getElem?_eq_getElem hl]
 exact h.2.1 k _ (Array.getElem?_eq_getElem hl) (c.hP k hk).2 (.inl (c.hP k hk).1)
theorem CSet.move {w W:World} {N:Nat} {Ow:World→Nat→Prop} {P:Nat→Prop} {sh:List (Nat × Nat)} {rows:List (List Val)} {A B R u:Value} {r:List Val} {us:Nat→Value} (c:CSet w N Ow P sh rows A B R u r us) (h:KpO N Ow w W):CSet W N Ow P sh rows A B R u r us:=
 have s:=c.stay h
 ⟨c.ow,Nat.le_trans c.hN h.1,fun k hk=>⟨(c.hP k hk).1,fun x=>(c.hP k hk).2 (h.2.2 k (Nat.lt_of_lt_of_le (c.hP k hk).1 c.hN) x)⟩,c.sh.stays s,c.rw_.stays s,c.u.stays s,fun i hi=>by
  obtain ⟨g,off,cap,e,hg,hc,hs,hl⟩:=c.us i hi
  exact ⟨g,off,cap,e,hg,s.cell hg _ hc,hs.stays s,hl⟩⟩
theorem CSet.old {w:World} {N:Nat} {Ow:World→Nat→Prop} {P:Nat→Prop} {sh:List (Nat × Nat)} {rows:List (List Val)} {A B R u:Value} {r:List Val} {us:Nat→Value} (c:CSet w N Ow P sh rows A B R u r us):zem P (Old w) w w:=fun k hk=>⟨Nat.lt_of_lt_of_le (c.hP k hk).1 c.hN,rfl⟩
section
variable {sh:List (Nat × Nat)} {rows:List (List Val)} {r:List Val}
def fitU (sh:List (Nat × Nat)) (r:List Val) (rows:List (List Val)) (k:Nat):List Nat:=((rows.zipIdx.take k).filter fun p=>fitB sh r p.1).map (·.2)
theorem zrw {k:Nat} (h:k < rows.length):fitU sh r rows (k+1)=fitU sh r rows k++(if fitB sh r rows[k]=true then [k] else []):=by
 unfold fitU
 have hz:k < rows.zipIdx.length:=by simpa using h
 rw [List.take_succ_eq_append_getElem hz,List.filter_append,List.map_append,List.getElem_zipIdx]
 rw [List.filter_cons]
 simp only [List.filter_nil,Nat.zero_add]
 cases fitB sh r rows[k] <;> rfl
theorem zqp {k:Nat} (h:k < rows.length) (hj:fitB sh r rows[k]=true):fitU sh r rows (k+1)=fitU sh r rows k++[k]:=by rw [zrw h,if_pos hj]
theorem zzl {k:Nat} (h:k < rows.length) (hj:fitB sh r rows[k]=false):fitU sh r rows (k+1)=fitU sh r rows k:=by rw [zrw h,if_neg (by rw [hj];decide),List.append_nil]
theorem z18 {k:Nat} (h:rows.length≤k):fitU sh r rows k=fitN sh r rows:=by
 unfold fitU fitN
 rw [List.take_of_length_le (by simpa using h)]
theorem zuu (k:Nat):fitU sh r rows k <+: fitN sh r rows:=((List.take_prefix k _).filter _).map _
theorem fitU_lt {k:Nat} (h:k < rows.length) (hj:fitB sh r rows[k]=true):(fitU sh r rows k).length < (fitN sh r rows).length:=by
 have h1:=(zuu (sh:=sh) (r:=r) (rows:=rows) (k+1)).length_le
 rw [zqp h hj] at h1
 simp at h1
 omega
theorem fitN_lt:∀ i∈fitN sh r rows,i < rows.length:=fun i hi=>by
 unfold fitN at hi
 obtain ⟨p,hp,rfl⟩:=List.mem_map.1 hi
 exact (List.mem_zipIdx' (List.mem_filter.1 hp).1).1
theorem zuv:(fitN sh r rows).length≤rows.length:=by
 unfold fitN
 rw [List.length_map]
 refine Nat.le_trans (List.length_filter_le _ _) ?_
 rw [List.length_zipIdx]
 exact Nat.le_refl _
end
def z33 {rows:List (List Val)} (N:Nat) (Ow:World→Nat→Prop) (J Jx:List (RowN rows)→World→Prop) (pre:List (RowN rows)) (x:RowN rows) (W1:World) (e:Ending) (W':World):Prop:=
 (e=.returned (.bool true)∧J (pre++[x]) W'∧KpO N Ow W1 W')∨(e=.returned (.bool false)∧Jx (pre++[x]) W')
def z19 {rows:List (List Val)} (sh:List (Nat × Nat)) (r:List Val) (J Jx:List (RowN rows)→World→Prop) (e:Ending) (W':World):Prop:=
 (∃ v,e=.returned v)∧((∃ xs:List (RowN rows),xs.map Subtype.val=fitN sh r rows∧J xs W')∨∃ pre:List (RowN rows),pre.map Subtype.val <+: fitN sh r rows∧Jx pre W')
def z2a {rows:List (List Val)} (N:Nat) (Ow:World→Nat→Prop) (J:List (RowN rows)→World→Prop) (W1:World) (L:List Nat) (wr:World):Prop:=KpO N Ow W1 wr∧∃ L':List (RowN rows),L'.map Subtype.val=L∧J L' wr
set_option maxHeartbeats 6400000 in
set_option maxRecDepth 20000 in
theorem lookAt (sh:List (Nat × Nat)) (rows:List (List Val)) (A B R L u:Value) (mb:Nat) (r:List Val) (us:Nat→Value) (W:World) (N:Nat) (Ow:World→Nat→Prop) (P:Nat→Prop) (c:CSet W N Ow P sh rows A B R u r us) (oN:∀ k,Ow W k→k < W.heap.size)
 (hin:∀ x∈rows,∀ p∈sh,p.1 < r.length∧p.2 < x.length) (hsn:sh.length≤2097152) (hrn:r.length≤2097152) (hn:rows.length≤2097152) (l:Nat) (J Jx:List (RowN rows)→World→Prop) (hJ:AbidesFrom W.heap.size J) (hJ0:J [] W)
 (hY:∀ m pre (x:RowN rows) W1,J pre W1→pre.length < (fitN sh r rows).length→YieldAt Fence.wide m Tryz.prog l #[us x.1] W1 (z33 N Ow J Jx pre x W1)):
 CallsIn Fence.wide 3 Tryz.prog 128 #[.agg #[A,B,R,.map (some mb),L],u,.func (.yield l) #[] #[]] W (z19 sh r J Jx):=by
 obtain ⟨pA,kA,pB,kB,rfl,rfl⟩:=c.sh.slice
 obtain ⟨pR,kR,rfl⟩:=c.rw_.slice
 obtain ⟨pu,ku,rfl⟩:=c.u.slice
 obtain ⟨W1,hW1⟩:∃ W1,W1=W.alloc (.cells #[.slice pA sh.length kA,.slice pB sh.length kB,.slice pR rows.length kR,.map (some mb),L] 90):=⟨_,rfl⟩
 have b1:Below W.heap.size W W1:=by rw [hW1];exact za5 _ _
 have u1:W1.heap[W.heap.size]?=some (.cells #[.slice pA sh.length kA,.slice pB sh.length kB,.slice pR rows.length kR,.map (some mb),L] 90):=by rw [hW1];exact zaf _ _ rfl
 have k1:KpO N Ow W W1:=KpO.of_below b1 c.hN c.ow
 have q1:¬ Ow W1 W.heap.size:=fun x=>absurd (oN _ (c.ow _ _ _ (b1.mono c.hN) x)) (by omega)
 have inv0:Hid (z2a N Ow J W1 (fitU sh r rows 0) W1):=Lib.hid ⟨KpO.refl _,[],rfl,zrv hJ hJ0 b1⟩
 have HC:=Lib.hid (c.move k1)
 have HW:=Lib.hid hW1
 have HU:=Lib.hid (And.intro u1 q1)
 have HJ:=Lib.hid hJ
 have HY:=Lib.hid hY
 have HIN:=Lib.hid hin
 have c2:=zad u1 2 rfl
 clear hW1 b1 u1 k1 q1 hJ hJ0 hY hin c oN
 obtain ⟨nn,hnn⟩:∃ nn,nn=rows.length:=⟨_,rfl⟩
 have HN:=Lib.hid hnn
 clear hnn
 refine callsIn_of_wp Tryz.func128 rfl trivial ?_ rfl
 simp only [Tryz.ntmps128,List.size_toArray,List.length_cons,List.length_nil,Nat.reduceAdd,Nat.reduceSub,Array.replicate_succ,Array.replicate_zero,List.push_toArray,List.append_toArray,List.nil_append,List.cons_append]
 gi_upto_region 1 with fail
 rw [← HW.out,← HN.out]
 rw [← HN.out] at c2
 gi_wp2_with fail
 clear c2
 gi_loopw [11] (fun i wr=>∃ k:Nat,k≤nn∧i=.int .i64 k∧Hid (z2a N Ow J W1 (fitU sh r rows k) wr)) (fun i _=>nn - (intOf i).toNat)
 case atStart=>exact ⟨0,Nat.zero_le _,rfl,inv0⟩
 case round=>
  clear inv0
  obtain ⟨k,hk,rfl,HV⟩:=hrel
  by_cases hlt:(k:Int) < nn
  ·have hk1:k < rows.length:=by have:=HN.out;omega
   have hkp:=HV.out.1
   have cw:=HC.out.move hkp
   obtain ⟨gR,oR,cap,eR,hgR,hcell,hsu,hxl⟩:=cw.us k hk1
   injection eR with eR1 eR2 eR3
   subst eR1
   obtain ⟨pv,rl,kv,huk⟩:∃ pv rl kv,us k=.slice pv rl kv:=by
    obtain ⟨a,b,c⟩:=hsu.slice
    exact ⟨a,_,b,c⟩
   have HUK:=Lib.hid huk
   rw [huk] at hcell hsu
   have u1:=hkp.cells HU.out.1 HU.out.2
   have r01:wr.rangeAt W.heap.size 0 [.slice pA sh.length kA,.slice pB sh.length kB]:=zeb u1 0 _ (fun j v hv=>by
    match j,hv with
    | 0,e | 1,e=>simpa using e
    | j+2,e=>simp at e)
   obtain ⟨q,hq⟩:∃ q,q=fitB sh r (rows[k]'hk1):=⟨_,rfl⟩
   have HF:Hid (Calls Tryz.prog 86 #[.agg #[.slice pA sh.length kA,.slice pB sh.length kB],.slice pu r.length ku,.slice pv rl kv] wr fun e w'=>e=.returned (.bool q)∧Below wr.heap.size wr w'):=Lib.hid (by rw [hq];exact fitAt sh _ _ _ _ r rows[k] wr (cw.sh.stays cw.old) (cw.u.stays cw.old) (hsu.stays cw.old) (fun p hp=>HIN.out _ (List.getElem_mem hk1) p hp) hsn hrn hxl)
   have HK1:=Lib.hid hk1
   have HCW:=Lib.hid cw
   clear hsu cw hkp u1 hgR hxl huk eR2 eR3
   have HJJ:=Lib.hid hq
   clear hq
   cases q with
   | false=>
     have hj:=HJJ.out.symm
     clear HJJ
     have HJJ:=Lib.hid hj
     clear hj
     gi_wp2_with (first
      |((with_reducible refine zqo zfy (.tmp 15) W.heap.size 0 _ _ r01 ?_ ?_ ?_ ?_);rfl;rfl;rfl)
      |(refine ⟨trivial,?_⟩;gi_at_call 86;(with_reducible refine (callsIn_wide.2 HF.out).mono ?_);rintro e w6 ⟨rfl,hb6⟩))
     have HV6:Hid (z2a N Ow J W1 (fitU sh r rows (k+1)) w6):=Lib.hid (by
      rw [zzl HK1.out HJJ.out]
      obtain ⟨hk0,L',hL',hJ'⟩:=HV.out
      exact ⟨zth hk0 (KpO.of_below hb6 HCW.out.hN HCW.out.ow),L',hL',zrv HJ.out hJ' hb6⟩)
     clear hb6 r01 hcell
     refine ⟨fun f h=>(by cases h),?_⟩
     gi_wp2
     go_roundw
     case rel=>exact ⟨k+1,by omega,by go_num,HV6⟩
     case measure=>simp [intOf];omega
   | true=>
     have hj:=HJJ.out.symm
     clear HJJ
     have HJJ:=Lib.hid hj
     clear hj
     have HLEN:=Lib.hid (fitU_lt HK1.out HJJ.out)
     gi_wp2_with (first
      |((with_reducible refine zqo zfy (.tmp 15) W.heap.size 0 _ _ r01 ?_ ?_ ?_ ?_);rfl;rfl;rfl)
      |(refine ⟨trivial,?_⟩;gi_at_call 86;refine Hid.out ?_))
     refine Lib.hid ?_
     refine (callsIn_wide.2 HF.out).mono ?_
     rintro e w6 ⟨rfl,hb6⟩
     obtain ⟨hk0,L',hL',hJ'⟩:=HV.out
     obtain ⟨fn,tmps,assign,body,hy,hR⟩:=HY.out 2 L' ⟨k,HK1.out⟩ _ (zrv HJ.out hJ' hb6) (by have:=HLEN.out;rw [← hL',List.length_map] at this;exact this)
     try dsimp only at hy
     rw [HUK.out] at hy
     have HR:=Lib.hid hR
     have HK6:=Lib.hid (zth hk0 (KpO.of_below hb6 HCW.out.hN HCW.out.ow))
     have HL':=Lib.hid hL'
     clear hb6 hR hL' hJ' hk0 r01 hcell
     gi_wp2_with fail
     refine HR.out.mono ?_
     rintro e W3 (⟨rfl,hJ3,hk3⟩ | ⟨rfl,hJx3⟩)
     ·have HV6:Hid (z2a N Ow J W1 (fitU sh r rows (k+1)) W3):=Lib.hid (by
       rw [zqp HK1.out HJJ.out]
       exact ⟨zth HK6.out hk3,_,by rw [List.map_append,HL'.out];rfl,hJ3⟩)
      clear hJ3 hk3 hy
      gi_wp2
      go_roundw
      case rel=>exact ⟨k+1,by omega,by go_num,HV6⟩
      case measure=>simp [intOf];omega
     ·have HJ3:=Lib.hid hJx3
      have HPR:Hid ((L'++[(⟨k,HK1.out⟩:RowN rows)]).map Subtype.val <+: fitN sh r rows):=Lib.hid (by
       have:=zuu (sh:=sh) (r:=r) (rows:=rows) (k+1)
       rw [zqp HK1.out HJJ.out] at this
       rw [List.map_append,HL'.out]
       exact this)
      clear hJx3 hy
      gi_wp2
      refine bodyPost_ret (results_none rfl _ _ _) rfl ?_
      exact ⟨⟨_,rfl⟩,.inr ⟨_,HPR.out,HJ3.out⟩⟩
  ·have hfin:∃ L':List (RowN rows),L'.map Subtype.val=fitN sh r rows∧J L' wr:=by
    rw [← z18 (k:=k) (by have:=HN.out;omega)]
    exact HV.out.2
   have HF:=Lib.hid hfin
   clear hfin HV
   gi_wp2
   go_end0
   exact ⟨⟨_,rfl⟩,.inl HF.out⟩
end YteclpnfckjfibaaGreatDoor
end Go.Proofs

/- IC -/
namespace Go.Proofs
open Go.Shelf
namespace YteclpnfckjfibaaGreatDoor
open Go.RowKit
attribute [local go_sem] Oper.semAt_some
section
variable {F:Fence} {n:Nat} {Q:Exit→Act→World→Prop}
def zk5 (F:Fence):Prop:=F=Fence.wide∨∃ l,F=Fence.wide.inRound l
theorem oper_in (hF:zk5 F) (_hQ:¬ LetsOut Q) {o:Oper} (hd:∀ c,o.op≠.defer c) {a:Act} {w:World} {K:Act→World→Prop} (h:o.wp Tryz.prog a w K Q):o.wpIn F n Tryz.prog a w K Q:=by
 refine ⟨fun _ _=>by rcases hF with rfl | ⟨l,rfl⟩ <;> trivial,?_⟩
 rw [Oper.semAt_plain _ _ _ hd]
 unfold Oper.wp at h
 generalize (execOp a.eval o).run Tryz.prog w=r at h
 have hdep:F.depth.isSome=true→1≤n:=fun h=>by rcases hF with rfl | ⟨l,rfl⟩ <;> cases h
 match r,h with
 | .ok (.value v) w',h=>exact h
 | .ok .skip w',h=>exact h
 | .ok (.defer d) w',h=>exact h
 | .ok (.enter f args) w',h=>exact ⟨hdep,by
    rcases hF with rfl | ⟨l,rfl⟩
    ·exact callsIn_wide.2 h
    ·exact CallsIn.inRound l (callsIn_wide.2 h)⟩
 | .ok (.row row args) w',h=>exact ⟨hdep,fun c cs _=>by
    obtain ⟨v,w2,hr,hs⟩:=h c cs
    rcases hF with rfl | ⟨l,rfl⟩ <;> exact ⟨v,w2,hr,stepsIn_wide.2 hs⟩⟩
 | .ok (.round _ _ _ _ _) _,h=>exact h.elim
 | .halt (.panic v) w',h=>exact h
theorem wpOp_in (hF:zk5 F) (hQ:¬ LetsOut Q) {ops:Array Oper} (hd:∀ (i:Nat) (o:Oper),ops[i]?=some o→∀ c,o.op≠.defer c) {i:Nat} {K K':Act→World→Prop} (hK:∀ a w,K a w→K' a w) {a:Act} {w:World} (h:wpOp Tryz.prog ops Q i K a w):wpOpIn F n Tryz.prog ops Q i K' a w:=by
 unfold wpOp at h
 unfold wpOpIn
 cases ho:ops[i]? with
 | none=>rw [ho] at h;exact hK _ _ h
 | some o=>
   rw [ho] at h
   simp only at h ⊢
   by_cases hw:Region.wanted o (yielded ops a.tmps)=true
   ·rw [if_pos hw] at h ⊢
    rcases h with h | h
    ·exact Oper.wpIn_mono hK (oper_in hF hQ (hd i o ho) h)
    ·exact absurd h.2 hQ
   ·rw [if_neg hw] at h ⊢
    exact ⟨fun _ _=>by rcases hF with rfl | ⟨l,rfl⟩ <;> trivial,hK _ _ h⟩
theorem zqq (hF:zk5 F) (hQ:¬ LetsOut Q) {ops:Array Oper} (hd:∀ (i:Nat) (o:Oper),ops[i]?=some o→∀ c,o.op≠.defer c):∀ (fuel:Nat) (listed:Array Bool) (a:Act) (w:World),wpAny Tryz.prog .any ops Q fuel listed a w→wpAnyIn F n Tryz.prog .any ops Q fuel listed a w
 | 0,_,_,_,h=>h
 | fuel+1,_,_,_,h=>⟨h.1,fun i hi=>wpOp_in hF hQ hd (fun a' w' h'=>zqq hF hQ hd fuel _ a' w' h') (h.2 i hi)⟩
theorem zrx (hF:zk5 F) (hQ:¬ LetsOut Q) {id:Nat} {ops:Array Oper} (hd:(ops.all fun o=>match o.op with | .defer _=>false | _=>true)=true) {S:World→Prop} {a:Act} {w:World} (hm:Tryz.prog.follows .mixedOrders=true) (hS:S w.drew)
 (h:S w.drew→wpAnyH Tryz.prog .any ops Q S ops.size (Array.replicate ops.size false) a w.drew):(Code.region id ops true).wpIn F n Tryz.prog Q a w:=by
 refine wpIn_region_any hm (zqq hF hQ (fun i o ho c hc=>?_) _ _ _ _ (wpAny_of_held _ _ _ _ (h hS)))
 have:=(Array.all_eq_true_iff_forall_mem.1 hd) o (Array.mem_of_getElem? ho)
 rw [hc] at this
 cases this
end
theorem wideR (l:Nat):∀ f,(Fence.wide.inRound l).fn f:=fun _=>trivial
theorem zzm {α:Type} {J:List α→World→Prop} {B B':Nat} (h:AbidesFrom B J) (k:B≤B'):AbidesFrom B' J:=fun s W W' row hs hg hr=>h s W W' row hs hg fun r e=>⟨Nat.le_trans k (hr r e).1,(hr r e).2⟩
theorem range5 {w:World} {g:Nat} {A B R M L:Value} (h:w.heap[g]?=some (.cells #[A,B,R,M,L] 90)):w.rangeAt g 0 [A,B,R,M,L]:=zeb h 0 _ (fun j u hu=>by
 match j,hu with
 | 0,e | 1,e | 2,e | 3,e | 4,e=>simpa using e
 | j+5,e=>simp at e)
theorem zry {w:World} {P:Nat→Prop}:{xs:List Value}→(l:List Val)→RowE valE w P xs l→∀ v∈l,zn4 v
 | _,[],_,v,h=>by cases h
 | _,a::l,hr,v,h=>by
   unfold RowE at hr
   obtain ⟨c,ys,rfl,hc,hr⟩:=hr
   rcases List.mem_cons.1 h with rfl | h
   ·obtain ⟨k,b,n,t,x,q⟩:=v
    obtain ⟨L,rfl,hf,hq⟩:=hc
    unfold zn4
    exact ⟨hf,Held.fine q (zbb.held q hq)⟩
   ·exact zry l hr v h
theorem zag.fine {w:World} {P:Nat→Prop} {u:Value} {l:List Val} (h:zag valE w P u l):∀ v∈l,zn4 v:=by
 intro v hv
 obtain ⟨p,cap,rfl,h⟩:=h
 obtain ⟨g,off,xs,rfl,_,_,hr⟩:=h (by intro e;subst e;cases hv)
 exact zry l hr v hv
theorem zzn {w:World} {P:Nat→Prop} {R:Value} {rows:List (List Val)} (h:zag rowE w P R rows):∃ us:Nat→Value,∀ i (h:i < rows.length),∃ g off cap,R=.slice (some ⟨g,off,none⟩) rows.length cap∧P g∧w.cell? ⟨g,off+i,none⟩=some (us i)∧zag valE w P (us i) rows[i]∧rows[i].length≤2097152:=by
 obtain ⟨g0,o0,hgo⟩:∃ g0 o0,∀ g off cap,R=.slice (some ⟨g,off,none⟩) rows.length cap→g=g0∧off=o0:=by
  obtain ⟨p,cap,rfl,_⟩:=h
  match p with
  | none=>exact ⟨0,0,fun g off c e=>by cases e⟩
  | some ⟨g0,o0,t⟩=>exact ⟨g0,o0,fun g off c e=>by cases e;exact ⟨rfl,rfl⟩⟩
 refine ⟨fun i=>(w.cell? ⟨g0,o0+i,none⟩).getD undef,fun i hi=>?_⟩
 obtain ⟨g,off,cap,c,e,hg,hr,ha⟩:=h.at_ i hi
 obtain ⟨rfl,rfl⟩:=hgo _ _ _ e
 obtain ⟨v,rfl,hs,_,hl⟩:=hr
 have hc:w.cell? ⟨g,off+i,none⟩=some v:=by
  have:=ha 0 _ rfl
  simpa [rowE] using this
 refine ⟨g,off,cap,e,hg,?_,?_,hl⟩
 ·show _=some ((w.cell? ⟨g,off+i,none⟩).getD undef)
  rw [hc]
  rfl
 ·show zag valE w P ((w.cell? ⟨g,off+i,none⟩).getD undef) _
  rw [hc]
  exact hs
set_option maxHeartbeats 1600000 in
theorem zmj (pA pB pR pL pu:Option Addr) (nA kA nB kB nR kR nL kL nu ku mb:Nat) (w:World):Calls Tryz.prog 77 #[.agg #[.slice pA nA kA,.slice pB nB kB,.slice pR nR kR,.map (some mb),.slice pL nL kL],.slice pu nu ku] w fun e w'=>
 e=.returned (.func (.func 127) #[] #[.pointer (some ⟨w.heap.size+1,0,none⟩),.pointer (some ⟨w.heap.size,0,none⟩)])∧w'=(w.alloc (.cells #[.slice pA nA kA,.slice pB nB kB,.slice pR nR kR,.map (some mb),.slice pL nL kL] 90)).alloc (.cells #[.slice pu nu ku] 43):=by
 obtain ⟨W1,hW1⟩:∃ W1,W1=(w.alloc (.cells #[.slice pA nA kA,.slice pB nB kB,.slice pR nR kR,.map (some mb),.slice pL nL kL] 90)).alloc (.cells #[.slice pu nu ku] 43):=⟨_,rfl⟩
 have HW:=Lib.hid hW1
 clear hW1
 go_enter Tryz.func77,Tryz.ntmps77
 go_upto_region 1 with fail
 rw [← HW.out]
 go_wp2_with fail
 go_ret
 exact ⟨rfl,HW.out⟩
def NumI {rows:List (List Val)} (N:Nat) (Ow:World→Nat→Prop) (J:List (RowN rows)→World→Prop) (V0:World) (L:List Nat) (wr:World):Prop:=KpO N Ow V0 wr∧∃ L':List (RowN rows),L'.map Subtype.val=L∧J L' wr
set_option maxHeartbeats 12800000 in
set_option maxRecDepth 20000 in
theorem zn6 (sh:List (Nat × Nat)) (rows:List (List Val)) (A B R L u:Value) (mb:Nat) (r:List Val) (us:Nat→Value) (w:World) (Ow:World→Nat→Prop) (P:Nat→Prop) (g2 g3:Nat) (hG:Gd w) (ow:OwN w.heap.size Ow) (oN:∀ k,Ow w k→k < w.heap.size) (hP:∀ k,P k→k < w.heap.size∧¬ Ow w k)
 (hx:IxIn sh rows A B R mb L P w) (hu:zag valE w P u r) (hus:∀ i (h:i < rows.length),∃ g off cap,R=.slice (some ⟨g,off,none⟩) rows.length cap∧P g∧w.cell? ⟨g,off+i,none⟩=some (us i)∧zag valE w P (us i) rows[i]∧rows[i].length≤2097152)
 (h2:w.heap[g2]?=some (.cells #[A,B,R,.map (some mb),L] 90)) (h3:w.heap[g3]?=some (.cells #[u] 43)) (n2:¬ Ow w g2) (n3:¬ Ow w g3) (hin:∀ x∈rows,∀ p∈sh,p.1 < r.length∧p.2 < x.length) (hin1:∀ p∈sh,p.1 < r.length) (hmr:∀ v∈r,mayP v 0=true) (hmx:∀ x∈rows,∀ v∈x,mayP v 0=true) (hwt:13*wAll (zbw sh r)≤700000000)
 (hsn:sh.length≤2097152) (hrn:r.length≤2097152) (hn:rows.length≤2097152):
 SeqStopsK Fence.wide 3 Tryz.prog 127 #[.pointer (some ⟨g3,0,none⟩),.pointer (some ⟨g2,0,none⟩)] (fun x:RowN rows=>#[us x.1]) (KpO w.heap.size Ow) (fun ys=>ys.map Subtype.val=fitN sh r rows) (fun pre=>pre.map Subtype.val <+: fitN sh r rows) (fitN sh r rows).length w:=by
 intro l J Jx W hW hJ hJx hY hJ0
 have HY:Hid (∀ m pre (x:RowN rows) W1,J pre W1→pre.length < (fitN sh r rows).length→YieldAt Fence.wide m Tryz.prog l #[us x.1] W1 (z33 w.heap.size Ow J Jx pre x W1)):=Lib.hid fun m pre x W1 a b=>by
  obtain ⟨fn,tmps,assign,body,h,hR⟩:=hY pre x W1 a b
  exact ⟨fn,tmps,assign,body,h,hR.1,fun c cs _=>hR.2 c cs (fun d h=>by cases h)⟩
 have hrise:=fun hA=>zzk sh rows r hin hA hu.fine (fun x hx v hv=>by
  obtain ⟨i,hi,rfl⟩:=List.getElem_of_mem hx
  obtain ⟨_,_,_,_,_,_,hs,_⟩:=hus i hi
  exact hs.fine v hv) hmr hmx hin1
 have HRI:=Lib.hid hrise
 clear hrise hY hJx
 have hc:CSet w w.heap.size Ow P sh rows A B R u r us:=⟨ow,Nat.le_refl _,hP,hx.shd,hx.rws,hu,hus⟩
 obtain ⟨pA,kA,pB,kB,rfl,rfl⟩:=hx.shd.slice
 obtain ⟨pR,kR,rfl⟩:=hx.rws.slice
 obtain ⟨pL,kL,rfl⟩:=hx.loose.1.slice
 obtain ⟨pu,ku,rfl⟩:=hu.slice
 have hWk:KpO w.heap.size Ow w W:=⟨hW.size,fun k o e _ _=>(hW.block k (zaa e)).trans e,fun k _ x=>ow _ _ _ hW x⟩
 have cW:=hc.move hWk
 have h2W:=(hW.block _ (zaa h2)).trans h2
 have h3W:=(hW.block _ (zaa h3)).trans h3
 have hsa:zag intE W (Old W) (.slice pA sh.length kA) ((sh.map (·.1)).map fun i:Nat=>(i:Int)):=by
  have:=(cW.sh.stays cW.old).a
  rwa [List.map_map]
 have HC:=Lib.hid (zs5 r (sh.map (·.1)) (.slice pu r.length ku) (.slice pA sh.length kA) W (cW.u.stays cW.old) hsa (fun i hi=>by
  obtain ⟨p,hp,rfl⟩:=List.mem_map.1 hi
  exact hin1 p hp) (by simpa using hsn))
 have HGW:=Lib.hid (hG.below hW)
 have HCW:=Lib.hid cW
 have HWB:=Lib.hid hW
 have HIX:=Lib.hid hx
 have HB:=Lib.hid (And.intro h2W h3W)
 have HP:=Lib.hid (And.intro ow (And.intro oN (And.intro hP (And.intro n2 n3))))
 have HJ:=Lib.hid hJ
 have HJ0:=Lib.hid hJ0
 have HIN:=Lib.hid hin
 have HMA:=Lib.hid (fun v (hv:v∈zbw sh r)=>hmr v (zly hin1 hv))
 have ca:=zad h2W 0 rfl
 have cu:=zad h3W 0 rfl
 clear hc cW hWk hsa hG hW hx h2 h3 h2W h3W n2 n3 hP oN ow hJ hJ0 hin hu hus hin1 hmr hmx
 refine callsIn_of_wp Tryz.func127 rfl trivial ?_ rfl
 simp only [Tryz.ntmps127,List.size_toArray,List.length_cons,List.length_nil,Nat.reduceAdd,Nat.reduceSub,Array.replicate_succ,Array.replicate_zero,List.push_toArray,List.append_toArray,List.nil_append,List.cons_append]
 gi_upto_region 1 with (first
  |(refine ⟨trivial,?_⟩;gi_at_call 125;(with_reducible refine (callsIn_wide.2 HC.out).mono ?_);rintro e w3 ⟨V,xs,rfl,hown,hrow,hb3⟩))
 have hown2:=hown
 rw [List.length_map,List.length_map] at hown2
 obtain ⟨pV,kV,rfl⟩:=zau hown2
 have hsl:zag valE w3 (Old w3) (.slice pV sh.length kV) (zbw sh r):=zbz hown hrow (fun g hg=>Nat.lt_of_lt_of_le hg hb3.size) (fun g e=>(hown.lt g e).2)
 have hcl:(zbw sh r).length=sh.length:=by simp [zbw]
 have HE:=Lib.hid (znp isB (zbw sh r) _ w3 hsl (by rw [hcl];exact hsn) (fun x _ W' c _ hr=>(zd0 x W' c (Old W') hr).mono (by rintro e w' ⟨rfl,h⟩;exact ⟨rfl,h.is⟩)))
 obtain ⟨q,hq⟩:∃ q,q=(zbw sh r).all isB:=⟨_,rfl⟩
 rw [← hq] at HE
 have HSL:=Lib.hid (And.intro hsl hcl)
 have HQ:=Lib.hid hq
 have HB3:=Lib.hid hb3
 have h23:=(hb3.block _ (zaa HB.out.1)).trans HB.out.1
 have h33:=(hb3.block _ (zaa HB.out.2)).trans HB.out.2
 clear hown hown2 hrow hsl hq ca cu hcl HC
 cases q with
 | false=>
   gi_upto_region 2 with (first
    |(refine ⟨trivial,?_⟩;gi_at_call 55;(with_reducible refine (callsIn_wide.2 HE.out).mono ?_);rintro e w4 ⟨rfl,hb4⟩))
   have b4:=zab HB3.out hb4 HB3.out.size
   have h24:=(hb4.block _ (zaa h23)).trans h23
   have h34:=(hb4.block _ (zaa h33)).trans h33
   have c34:=zad h34 0 rfl
   have hz4:=b4.size
   have HK4:=Lib.hid (KpO.of_below b4 HWB.out.size HP.out.1)
   have HB4:=Lib.hid b4
   clear hb4 hb3 b4 h23 h33 h34
   gi_wp2_with (first
    |((with_reducible refine ztg zfy (.tmp 2) g2 _ _ _ _ _ h24 ?_ ?_ ?_ ?_);rfl;rfl;rfl)
    |(refine ⟨trivial,?_⟩;gi_at_call 128;refine Hid.out ?_))
   refine Lib.hid ?_
   refine (callsIn_wide.2 (callsIn_wide.1 (lookAt sh rows _ _ _ _ _ mb r us w4 w.heap.size Ow P (HCW.out.move HK4.out) (fun k x=>Nat.lt_of_lt_of_le (HP.out.2.1 k (HP.out.1 _ _ _ (HWB.out.trans (HB4.out.mono HWB.out.size)) x)) (Nat.le_trans HWB.out.size hz4)) HIN.out hsn hrn hn l J Jx (zzm HJ.out hz4) (zrv HJ.out HJ0.out HB4.out) HY.out))).mono ?_
   rintro e w5 ⟨⟨v,rfl⟩,hres⟩
   have HRES:=Lib.hid hres
   clear hres h24 c34
   gi_wp2
   refine bodyPost_ret (results_none rfl _ _ _) rfl ?_
   exact ⟨⟨_,rfl⟩,HRES.out⟩
 | true=>
   obtain ⟨ek,hek⟩:∃ ek,ek=zar (zbw sh r):=⟨_,rfl⟩
   have HKL:Hid (ek.length≤900000000):=Lib.hid (by
    rw [hek]
    have:=zdu (zbw sh r)
    omega)
   have HEN:Hid (∀ w',Below w3.heap.size w3 w'→Calls Tryz.prog 69 #[.slice pV sh.length kV] w' fun e w2=>e=.returned (.string (bsB ek))∧Below w'.heap.size w' w2):=Lib.hid fun w' h=>by
    rw [hek]
    exact zls (zbw sh r) _ w' (HGW.out.below (zab HB3.out h HB3.out.size)) (HSL.out.1.stays (zae h)) HMA.out hwt (by rw [HSL.out.2];exact hsn)
   have HRI2:Hid (zy6 sh rows r ek=(fitN sh r rows).map fun i:Nat=>(i:Int)):=Lib.hid (by rw [hek];exact HRI.out HQ.out.symm)
   clear hek
   gi_upto_region 3 with (first
    |(refine ⟨trivial,?_⟩;gi_at_call 55;(with_reducible refine (callsIn_wide.2 HE.out).mono ?_);rintro e w4 ⟨rfl,hb4⟩))
   have h24:=(hb4.block _ (zaa h23)).trans h23
   have h34:=(hb4.block _ (zaa h33)).trans h33
   have HB4:=Lib.hid hb4
   clear hb4 hb3 h23 h33 HE
   refine zrx (.inl rfl) (by rintro ⟨a,w,⟨v,e⟩,_⟩;cases e) (by kernel_rfl) (S:=fun W'=>W'.heap[g2]?=some (.cells #[.slice pA sh.length kA,.slice pB sh.length kB,.slice pR rows.length kR,.map (some mb),.slice pL (zbj sh rows).length kL] 90)∧W'.heap[g3]?=some (.cells #[.slice pu r.length ku] 43)) (by kernel_rfl) ⟨h24,h34⟩ (fun hh=>?_)
   have bq:Below w4.heap.size w4 w4.drew:=(Below.refl _ _).drew
   have b4:=zab HB4.out bq HB4.out.size
   have bW:=zab HB3.out b4 HB3.out.size
   clear h24 h34 bq
   generalize w4.drew=wD at*
   refine tk (i:=0) (v:=.agg #[.slice pA sh.length kA,.slice pB sh.length kB,.slice pR rows.length kR,.map (some mb),.slice pL (zbj sh rows).length kL]) rfl (yieldsIf_load_mid (by rfl) 90 (.tmp 2) rfl g2 0 rfl [.slice pA sh.length kA,.slice pB sh.length kB,.slice pR rows.length kR,.map (some mb),.slice pL (zbj sh rows).length kL] _ (fun W h=>range5 h.1) Tryz.underlying90 rfl zh2) (hh) ?_
   refine tk (i:=1) (v:=.slice pu r.length ku) rfl (Or.inl ⟨by rfl,fun W' h=>by have c0:=zad h.2 0 rfl;go_simp⟩) (hh) ?_
   refine tg (i:=2) (.slice pV sh.length kV) rfl (hh) ?_
   refine tg (i:=6) (.int .i64 0) rfl (hh) ?_
   refine tr 3 rfl (fun K hK=>?_)
   try rw [if_pos (by rfl)]
   go_simp
   refine (HEN.out _ b4).mono ?_
   rintro e0 wE ⟨rfl,hbE⟩
   have hh3:wE.heap[g2]?=some (.cells #[.slice pA sh.length kA,.slice pB sh.length kB,.slice pR rows.length kR,.map (some mb),.slice pL (zbj sh rows).length kL] 90)∧wE.heap[g3]?=some (.cells #[.slice pu r.length ku] 43):=⟨(hbE.block _ (zaa hh.1)).trans hh.1,(hbE.block _ (zaa hh.2)).trans hh.2⟩
   have bE:=zab bW hbE bW.size
   have bwE:=HWB.out.trans (bE.mono HWB.out.size)
   have HSZ:=Lib.hid bwE.size
   have HNU:=Lib.hid (zy7 sh rows _ _ _ _ (.slice pu r.length ku) mb r ek wE P (fun k hk=>Nat.lt_of_lt_of_le (HP.out.2.2.1 k hk).1 bwE.size) (HIX.out.stays fun k hk=>⟨hk,bwE.block k (HP.out.2.2.1 k hk).1⟩) ((HCW.out.u.stays HCW.out.old).stays (zae bE)) HKL.out HIN.out hsn hrn hn)
   clear hbE bwE
   refine hK.out _ _ (hh3) (fun _=>?_)
   clear hK K
   try simp only [putS]
   refine tr 4 rfl (fun K hK=>?_)
   try rw [if_pos (by rfl)]
   go_simp
   refine HNU.out.mono ?_
   rintro e0 w6 ⟨VN,rfl,hsN,hb6⟩
   rw [HRI2.out] at hsN
   obtain ⟨pN,kN,eVN⟩:=hsN.slice
   subst eVN
   rw [List.length_map] at hsN
   have HSN:=Lib.hid hsN
   have hh6:w6.heap[g2]?=some (.cells #[.slice pA sh.length kA,.slice pB sh.length kB,.slice pR rows.length kR,.map (some mb),.slice pL (zbj sh rows).length kL] 90)∧w6.heap[g3]?=some (.cells #[.slice pu r.length ku] 43):=⟨(hb6.block _ (zaa hh3.1)).trans hh3.1,(hb6.block _ (zaa hh3.2)).trans hh3.2⟩
   have b6:=zab bE hb6 bE.size
   try rw [List.length_map]
   clear hsN hb6
   refine hK.out _ _ (hh6) (fun _=>?_)
   clear hK K
   try simp only [putS]
   refine tg (i:=5) (.int .i64 ((fitN sh r rows).length:Nat)) rfl (hh6) ?_
   refine wpAnyH_done (by kernel_rfl) ?_ _
   gi_wp2_with fail
   have hlen:(fitN sh r rows).length≤2097152:=Nat.le_trans zuv hn
   obtain ⟨nn,hnn⟩:∃ nn,nn=(fitN sh r rows).length:=⟨_,rfl⟩
   have inv0:Hid (NumI w.heap.size Ow J w6 ((fitN sh r rows).take 0) w6):=Lib.hid ⟨KpO.refl _,[],rfl,zrv HJ.out HJ0.out b6⟩
   have HN:=Lib.hid hnn
   rw [← hnn] at hlen ⊢
   have HB6:=Lib.hid (HWB.out.trans (b6.mono HWB.out.size))
   have HK6:=Lib.hid (KpO.of_below b6 HWB.out.size HP.out.1)
   have H26:=Lib.hid hh6.1
   clear hnn bW b6 hh hh3 hh6 HEN HNU
   gi_loopw [25] (fun i wr=>∃ k:Nat,k≤nn∧i=.int .i64 k∧Hid (NumI w.heap.size Ow J w6 ((fitN sh r rows).take k) wr)) (fun i _=>nn - (intOf i).toNat)
   case atStart=>exact ⟨0,Nat.zero_le _,rfl,inv0⟩
   case round=>
    clear inv0
    obtain ⟨k,hk,rfl,HV⟩:=hrel
    by_cases hlt:(k:Int) < nn
    ·have hk1:k < (fitN sh r rows).length:=by have:=HN.out;omega
     obtain ⟨m,hm⟩:∃ m,m=(fitN sh r rows)[k]:=⟨_,rfl⟩
     have hmr:m < rows.length:=by rw [hm];exact fitN_lt _ (List.getElem_mem hk1)
     have hkp:=HV.out.1
     have cw:=HCW.out.move (zth HK6.out hkp)
     have hnot:∀ g,(P g∨wE.heap.size≤g)→¬ Ow w6 g:=fun g hg x=>by
      have hx:=HP.out.1 _ _ _ HB6.out x
      rcases hg with hg | hg
      ·exact (HP.out.2.2.1 g hg).2 hx
      ·exact absurd (HP.out.2.1 g hx) (by have:=HSZ.out;omega)
     obtain ⟨gN,oN,kN,c,eN,hgN,hrel,hra⟩:=HSN.out.at_ k (by simpa using hk1)
     injection eN with eN1 eN2 eN3
     subst eN1
     have ck:wr.cell? ⟨gN,oN+k,none⟩=some (.int .i64 m):=by
      obtain ⟨rfl,_⟩:=hrel
      have:=hra 0 _ rfl
      refine hkp.cell ?_ (hnot gN hgN)
      rw [hm]
      simpa [intE] using this
     obtain ⟨gR,oR,cap,eR,hgR,hcell,hsu,hxl⟩:=cw.us m hmr
     injection eR with eR1 eR2 eR3
     subst eR1
     obtain ⟨pv,rl,kv,huk⟩:∃ pv rl kv,us m=.slice pv rl kv:=by
      obtain ⟨a,b,c⟩:=hsu.slice
      exact ⟨a,_,b,c⟩
     have HUK:=Lib.hid huk
     rw [huk] at hcell
     have h2r:=hkp.cells H26.out (fun x=>HP.out.2.2.2.1 (HP.out.1 _ _ _ HB6.out x))
     have c2:=zad h2r 2 rfl
     have hmi:(m:Int) < rows.length:=by omega
     have hmo:m < 2097152:=by omega
     have htk:(fitN sh r rows).take (k+1)=(fitN sh r rows).take k++[m]:=by rw [List.take_succ_eq_append_getElem hk1,← hm]
     have HTK:=Lib.hid htk
     have htl:((fitN sh r rows).take k).length < (fitN sh r rows).length:=by rw [List.length_take];omega
     obtain ⟨hk0,L',hL',hJ'⟩:=HV.out
     obtain ⟨fn,tmps,assign,body,hy,hR⟩:=HY.out 2 L' ⟨m,hmr⟩ _ hJ' (by rw [← hL',List.length_map] at htl;exact htl)
     try dsimp only at hy
     rw [HUK.out] at hy
     have HR:=Lib.hid hR
     have HK0:=Lib.hid hk0
     have HL':=Lib.hid hL'
     have HMR:=Lib.hid hmr
     clear hR hL' hJ' hk0 hsu hxl hgR eR2 eR3 eN2 eN3 hra hrel hgN hnot htk htl cw hkp h2r hm hk1 huk
     gi_wp2_with fail
     refine HR.out.mono ?_
     rintro e W3 (⟨rfl,hJ3,hk3⟩ | ⟨rfl,hJx3⟩)
     ·have HV6:Hid (NumI w.heap.size Ow J w6 ((fitN sh r rows).take (k+1)) W3):=Lib.hid (by
       rw [HTK.out]
       exact ⟨zth HK0.out hk3,_,by rw [List.map_append,HL'.out];rfl,hJ3⟩)
      clear hJ3 hk3 hy ck hcell c2
      gi_wp2
      go_roundw
      case rel=>exact ⟨k+1,by omega,by go_num,HV6⟩
      case measure=>simp [intOf];omega
     ·have HJ3:=Lib.hid hJx3
      have HPR:Hid ((L'++[(⟨m,HMR.out⟩:RowN rows)]).map Subtype.val <+: fitN sh r rows):=Lib.hid (by
       rw [List.map_append,HL'.out]
       have:=List.take_prefix (k+1) (fitN sh r rows)
       rw [HTK.out] at this
       exact this)
      clear hJx3 hy ck hcell c2
      gi_wp2
      refine bodyPost_ret (results_none rfl _ _ _) rfl ?_
      exact ⟨⟨_,rfl⟩,.inr ⟨_,HPR.out,HJ3.out⟩⟩
    ·have hfin:∃ L':List (RowN rows),L'.map Subtype.val=fitN sh r rows∧J L' wr:=by
      have h:=HV.out.2
      rwa [List.take_of_length_le (by have:=HN.out;omega)] at h
     have HF:=Lib.hid hfin
     clear hfin HV
     gi_wp2
     go_end0
     exact ⟨⟨_,rfl⟩,.inl HF.out⟩
end YteclpnfckjfibaaGreatDoor
end Go.Proofs

/- TK -/
namespace Go.Proofs
open Go.Shelf
namespace YteclpnfckjfibaaGreatDoor
open Go.RowKit
attribute [local go_sem] Oper.semAt_some
def firstI (b:Bool) (z:Int):Prop:=(b=true∧0≤z)∨(b=false∧z=-1)
set_option maxHeartbeats 3200000 in
theorem z2b (q:Val→Bool) (l:List Val) (v:Value) (w:World) (h:zag valE w (Old w) v l) (hn:l.length≤2097152)
 (each:∀ x∈l,∀ W c,Below w.heap.size w W→valE.rel W (Old W) c x→Calls Tryz.prog 126 #[.agg c.toArray] W fun e w'=>e=.returned (.bool (q x))∧Below W.heap.size W w'):
 Calls Tryz.prog 179 #[v,.func (.func 126) #[] #[]] w fun e w'=>(∃ z,e=.returned (.int .i64 z)∧firstI (l.any q) z)∧Below w.heap.size w w':=by
 obtain ⟨n,hln⟩:∃ n,n=l.length:=⟨_,rfl⟩
 obtain ⟨p,cap,rfl⟩:=h.slice
 rw [← hln] at hn
 obtain ⟨ans,hans⟩:∃ ans,ans=l.any q:=⟨_,rfl⟩
 have HN:=Lib.hid hans
 rw [← hans]
 have HL:=Lib.hid hln
 have HH:=Lib.hid h
 have HE:=Lib.hid each
 rw [← hln]
 clear h hln each hans
 go_enter Tryz.func179,Tryz.ntmps179
 go_wp2_with fail
 go_loopg [8] n (fun gg s8 wr=>∃ j:Nat,j+gg=n∧s8=.int .i64 j∧Hid (Below w.heap.size w wr)∧Hid (∀ i (h:i < l.length),i < j→q l[i]=false))
 case atStart=>exact ⟨0,by omega,rfl,Lib.hid (Below.refl _ _),Lib.hid (fun i _ h=>absurd h (by omega))⟩
 case round=>
  obtain ⟨j,hjg,rfl,HB,HA⟩:=hrel
  by_cases hlt:(j:Int) < n
  ·have hj1:j < l.length:=by have:=HL.out;omega
   have hbel:=HB.out
   obtain ⟨g,off,cap',c,e0,hg,hrl,hra⟩:=(HH.out.stays (zae hbel)).at_ j hj1
   injection e0 with e1 e2 e3
   subst e1
   replace hra:wr.rangeAt g (off+j*6) c:=hra
   have hlen:c.length=6:=valE.len hrl
   have hbs:=hbel.size
   obtain ⟨r,hr⟩:∃ r,r=q l[j]:=⟨_,rfl⟩
   have HR:=Lib.hid (And.intro hrl hra)
   have hcall:=HE.out l[j] (List.getElem_mem hj1) wr c hbel hrl
   rw [← hr] at hcall
   have HC:=Lib.hid hcall
   have HR2:=Lib.hid hr
   clear hrl hra e2 e3 hbel hcall hr
   cases r with
   | false=>
     go_wp2_with (first
      |((with_reducible refine zaw (.tmp 14) g (off+j*6) 48 c 6 _ HR.out.2 hlen Tryz.underlying48 rfl zao ?_ ?_ ?_ ?_);rfl;rfl;rfl)
      |(go_at_call 126;(with_reducible refine HC.out.mono ?_);rintro e w3 ⟨rfl,hb3⟩))
     have HB2:Hid (Below w.heap.size w w3):=Lib.hid (HB.out.trans (hb3.mono hbs))
     clear hb3
     go_wp2_with fail
     go_roundg (gk - 1)
     case measure=>omega
     case rel=>
      refine ⟨j+1,by omega,by go_num,HB2,Lib.hid fun i h hi=>?_⟩
      by_cases e:i=j
      ·subst e;exact HR2.out.symm
      ·exact HA.out i h (by omega)
   | true=>
     have hany:ans=true:=by
      rw [HN.out]
      exact List.any_eq_true.2 ⟨l[j],List.getElem_mem hj1,HR2.out.symm⟩
     have HAN:=Lib.hid hany
     clear hany
     go_wp2_with (first
      |((with_reducible refine zaw (.tmp 14) g (off+j*6) 48 c 6 _ HR.out.2 hlen Tryz.underlying48 rfl zao ?_ ?_ ?_ ?_);rfl;rfl;rfl)
      |(go_at_call 126;(with_reducible refine HC.out.mono ?_);rintro e w3 ⟨rfl,hb3⟩))
     have HB2:Hid (Below w.heap.size w w3):=Lib.hid (HB.out.trans (hb3.mono hbs))
     clear hb3
     go_wp2_with fail
     go_ret
     exact ⟨⟨_,rfl,.inl ⟨HAN.out,by omega⟩⟩,HB2.out⟩
  ·have hany:ans=false:=by
    rw [HN.out]
    refine List.any_eq_false.2 fun x hx=>?_
    obtain ⟨i,hi,rfl⟩:=List.getElem_of_mem hx
    rw [HA.out i hi (by have:=HL.out;omega)]
    decide
   have HAN:=Lib.hid hany
   clear hany
   go_wp2_with fail
   go_ret
   exact ⟨⟨_,rfl,.inr ⟨HAN.out,rfl⟩⟩,HB.out⟩
set_option maxHeartbeats 3200000 in
theorem some133 (q:Val→Bool) (l:List Val) (v:Value) (w:World) (h:zag valE w (Old w) v l) (hn:l.length≤2097152)
 (each:∀ x∈l,∀ W c,Below w.heap.size w W→valE.rel W (Old W) c x→Calls Tryz.prog 126 #[.agg c.toArray] W fun e w'=>e=.returned (.bool (q x))∧Below W.heap.size W w'):
 Calls Tryz.prog 133 #[v,.func (.func 126) #[] #[]] w fun e w'=>e=.returned (.bool (l.any q))∧Below w.heap.size w w':=by
 have HI:=Lib.hid (z2b q l v w h hn each)
 obtain ⟨p,cap,rfl⟩:=h.slice
 generalize l.any q=b at*
 generalize l.length=n at*
 clear h each
 go_enter Tryz.func133,Tryz.ntmps133
 go_wp2_with (first |(go_at_call 179;refine Hid.out ?_))
 refine Lib.hid ?_
 refine HI.out.mono ?_
 rintro e w1 ⟨⟨z,rfl,hz⟩,hb⟩
 have HB:=Lib.hid hb
 clear hb
 rcases hz with ⟨rfl,hz⟩ | ⟨rfl,rfl⟩
 ·go_wp2_with fail
  go_ret
  exact ⟨by first | rfl | simp [hz],HB.out⟩
 ·go_wp2_with fail
  go_ret
  exact ⟨by first | rfl | simp,HB.out⟩
theorem zfp {fn:Func} {p:Tmp} {ty:TypeId} (h:fn.results=#[.cell p ty]) (tmps:Array Value) (w:World) (g:Nat) (b:Bool) (hp:tmps.getD p undef=.pointer (some ⟨g,0,none⟩)) (hg:Boxed w g 4 (.bool b)) (ht:ty=4):(results fn tmps).run Tryz.prog w=.ok (.bool b) w:=by
 subst ht
 have hc:=hg.cell
 have hp':tmps[p]?.getD undef=.pointer (some ⟨g,0,none⟩):=by simpa using hp
 simp only [results,h]
 simp [Sem.run_bind,Result.andThen,hp',go_sem,hc]
def zfq (sh:List (Nat × Nat)) (r:List Val) (rows:List (List Val)):Bool:=rows.any fun x=>fitB sh r x && zeo sh r x
theorem zzo {sh:List (Nat × Nat)} {r:List Val} {rows:List (List Val)} (h:(zbw sh r).any isB=false):zfq sh r rows=false:=by
 unfold zfq
 refine List.any_eq_false.2 fun x _=>?_
 have:zeo sh r x=false:=by
  unfold zeo
  refine List.any_eq_false.2 fun p hp=>?_
  have:=List.any_eq_false.1 h (atV r p.1) (List.mem_map.2 ⟨p.1,List.mem_map.2 ⟨p,hp,rfl⟩,rfl⟩)
  unfold zqd
  simp [this]
 simp [this]
theorem z2c {sh:List (Nat × Nat)} {r:List Val} {rows:List (List Val)} {pre:List (RowN rows)} (hp:pre.map Subtype.val <+: fitN sh r rows) {x:RowN rows} (hx:x∈pre) (hm:zeo sh r (rows[x.1]'x.2)=true):zfq sh r rows=true:=by
 unfold zfq
 refine List.any_eq_true.2 ⟨rows[x.1]'x.2,List.getElem_mem _,?_⟩
 have h1:x.1∈fitN sh r rows:=hp.subset (List.mem_map.2 ⟨x,hx,rfl⟩)
 unfold fitN at h1
 obtain ⟨p,hp,e⟩:=List.mem_map.1 h1
 obtain ⟨hp1,hp2⟩:=List.mem_filter.1 hp
 have h2:=(List.mem_zipIdx' hp1).2
 have h3:p.1=rows[x.1]'x.2:=by rw [h2];simp only [e]
 rw [← h3,hp2,h3,hm]
 rfl
theorem take_no {sh:List (Nat × Nat)} {r:List Val} {rows:List (List Val)} {xs:List (RowN rows)} (hp:xs.map Subtype.val=fitN sh r rows) (hm:∀ x∈xs,zeo sh r (rows[x.1]'x.2)=false):zfq sh r rows=false:=by
 unfold zfq
 refine List.any_eq_false.2 fun y hy=>?_
 obtain ⟨i,hi,rfl⟩:=List.getElem_of_mem hy
 cases hf:fitB sh r rows[i] with
 | false=>simp
 | true=>
   have h1:i∈fitN sh r rows:=by
    unfold fitN
    refine List.mem_map.2 ⟨(rows[i],i),List.mem_filter.2 ⟨?_,hf⟩,rfl⟩
    rw [List.mem_zipIdx_iff_getElem?]
    exact List.getElem?_eq_getElem hi
   rw [← hp] at h1
   obtain ⟨x,hx,e⟩:=List.mem_map.1 h1
   have:=hm x hx
   simp only [e] at this
   simp [this]
theorem zmk {B:Nat} {W W':World} (h:Below W.heap.size W W'):KeepsFrom B W W':=⟨h.size,fun k _o _ hk _=>(h.block k (zaa hk)).trans hk⟩
set_option maxHeartbeats 12800000 in
set_option maxRecDepth 20000 in
theorem zzp (sh:List (Nat × Nat)) (rows:List (List Val)) (A B R L u:Value) (mb:Nat) (r:List Val) (w:World) (P:Nat→Prop) (hPo:∀ k,P k→k < w.heap.size) (hG:Gd w) (hx:IxIn sh rows A B R mb L P w) (hu:zag valE w P u r)
 (hin:∀ x∈rows,∀ p∈sh,p.1 < r.length∧p.2 < x.length) (hin1:∀ p∈sh,p.1 < r.length) (hmr:∀ v∈r,mayP v 0=true) (hmx:∀ x∈rows,∀ v∈x,mayP v 0=true) (hwt:13*wAll (zbw sh r)≤700000000)
 (hsn:sh.length≤2097152) (hrn:r.length≤2097152) (hn:rows.length≤2097152):
 Calls Tryz.prog 81 #[.agg #[A,B,R,.map (some mb),L],u] w fun e w'=>e=.returned (.bool (zfq sh r rows))∧Below w.heap.size w w':=by
 obtain ⟨us,hus⟩:=zzn hx.rws
 obtain ⟨pA,kA,pB,kB,rfl,rfl⟩:=hx.shd.slice
 obtain ⟨pR,kR,rfl⟩:=hx.rws.slice
 obtain ⟨pL,kL,rfl⟩:=hx.loose.1.slice
 obtain ⟨pu,ku,rfl⟩:=hu.slice
 obtain ⟨W1,hW1⟩:∃ W1,W1=((w.alloc (.cells #[.slice pA sh.length kA,.slice pB sh.length kB,.slice pR rows.length kR,.map (some mb),.slice pL (zbj sh rows).length kL] 90)).alloc (.cells #[.slice pu r.length ku] 43)).alloc (.cells #[.bool false] 4):=⟨_,rfl⟩
 have b1:Below w.heap.size w W1:=by rw [hW1];exact (zdb _ _ _).alloc (by simp;omega) _
 have s1:W1.heap.size=w.heap.size+3:=by rw [hW1];simp
 have u2:W1.heap[w.heap.size]?=some (.cells #[.slice pA sh.length kA,.slice pB sh.length kB,.slice pR rows.length kR,.map (some mb),.slice pL (zbj sh rows).length kL] 90):=by rw [hW1];exact zap _ (zap _ (zaf _ _ rfl))
 have u3:W1.heap[w.heap.size+1]?=some (.cells #[.slice pu r.length ku] 43):=by rw [hW1];exact zap _ (zaf _ _ (by simp))
 have n4:Boxed W1 (w.heap.size+1+1) 4 (.bool false):=by rw [hW1];exact zaf _ _ (by simp)
 have hx1:IxIn sh rows _ _ _ mb _ P W1:=hx.stays fun k hk=>⟨hk,b1.block k (hPo k hk)⟩
 have hu1:zag valE W1 P _ r:=hu.stays fun k hk=>⟨hk,b1.block k (hPo k hk)⟩
 have hPo1:zem P (Old W1) W1 W1:=fun k hk=>⟨Nat.lt_of_lt_of_le (hPo k hk) b1.size,rfl⟩
 have hsa:zag intE W1 (Old W1) (.slice pA sh.length kA) ((sh.map (·.1)).map fun i:Nat=>(i:Int)):=by
  have:=(hx1.shd.stays hPo1).a
  rwa [List.map_map]
 have HC:=Lib.hid (zs5 r (sh.map (·.1)) (.slice pu r.length ku) (.slice pA sh.length kA) W1 (hu1.stays hPo1) hsa (fun i hi=>by
  obtain ⟨p,hp,rfl⟩:=List.mem_map.1 hi
  exact hin1 p hp) (by simpa using hsn))
 have HG:=Lib.hid (hG.below b1)
 have HX:=Lib.hid (And.intro hx1 (And.intro hu1 hPo))
 have HUS:=Lib.hid fun i (h:i < rows.length)=>(by
  obtain ⟨g,off,cap,e,hg,hc,hs,hl⟩:=hus i h
  exact ⟨g,off,cap,e,hg,(b1.cell (p:=⟨g,off+i,none⟩) (World.block_lt_of_cell? w _ hc)).trans hc,hs.stays fun k hk=>⟨hk,b1.block k (hPo k hk)⟩,hl⟩:∃ g off cap,Value.slice pR rows.length kR=.slice (some ⟨g,off,none⟩) rows.length cap∧P g∧W1.cell? ⟨g,off+i,none⟩=some (us i)∧zag valE W1 P (us i) rows[i]∧rows[i].length≤2097152)
 have HB:=Lib.hid (And.intro b1 s1)
 have HU:=Lib.hid (And.intro u2 (And.intro u3 n4))
 have HM:=Lib.hid (And.intro hin (And.intro hin1 (And.intro hmr hmx)))
 have HW:=Lib.hid hW1
 have c2:=zad u2 0 rfl
 have c3:=zad u3 0 rfl
 obtain ⟨ans,hans⟩:∃ ans,ans=zfq sh r rows:=⟨_,rfl⟩
 rw [← hans]
 have HANS:=Lib.hid hans
 clear hans hW1 b1 u2 u3 n4 hx hu hx1 hu1 hPo1 hsa hus hin hin1 hmr hmx hG hPo
 refine (callsIn_wide (n:=4)).1 ?_
 refine callsIn_of_wp_marks Tryz.func81 rfl trivial ?_ rfl
 simp only [Tryz.ntmps81,List.size_toArray,List.length_cons,List.length_nil,Nat.reduceAdd,Nat.reduceSub,Array.replicate_succ,Array.replicate_zero,List.push_toArray,List.append_toArray,List.nil_append,List.cons_append]
 gi_upto_region 1 with fail
 rw [← HW.out]
 gi_wp2_with (first
  |(refine ⟨trivial,?_⟩;gi_at_call 125;(with_reducible refine (callsIn_wide.2 HC.out).mono ?_);rintro e w3 ⟨V,xs,rfl,hown,hrow,hb3⟩;refine Hid.out ?_))
 have hown2:=hown
 rw [List.length_map,List.length_map] at hown2
 obtain ⟨pV,kV,rfl⟩:=zau hown2
 have hsl:zag valE w3 (Old w3) (.slice pV sh.length kV) (zbw sh r):=zbz hown hrow (fun g hg=>Nat.lt_of_lt_of_le hg hb3.size) (fun g e=>(hown.lt g e).2)
 have hcl:(zbw sh r).length=sh.length:=by simp [zbw]
 have HE:=Lib.hid (some133 isB (zbw sh r) _ w3 hsl (by rw [hcl];exact hsn) (fun x _ W' c _ hr=>(zd0 x W' c (Old W') hr).mono (by rintro e w' ⟨rfl,h⟩;exact ⟨rfl,h.is⟩)))
 obtain ⟨q,hq⟩:∃ q,q=(zbw sh r).any isB:=⟨_,rfl⟩
 rw [← hq] at HE
 have HQ:=Lib.hid hq
 have HB3:=Lib.hid hb3
 clear hown hown2 hrow hsl hq c2 c3 hcl HC hb3
 refine Lib.hid ?_
 cases q with
 | false=>
   have HNO:=Lib.hid (HANS.out.trans (zzo (rows:=rows) HQ.out.symm))
   gi_upto_region 2 with (first
    |(refine ⟨trivial,?_⟩;gi_at_call 133;(with_reducible refine (callsIn_wide.2 HE.out).mono ?_);rintro e w4 ⟨rfl,hb4⟩))
   have b4:=zab HB3.out hb4 HB3.out.size
   have n4:Boxed w4 (w.heap.size+1+1) 4 (.bool false):=(b4.block _ HU.out.2.2.lt).trans HU.out.2.2
   have c4:=n4.cell
   have f4:=n4.frozen
   have bw4:=HB.out.1.trans (b4.mono HB.out.1.size)
   have HF:Hid (Boxed (w4.setCell ⟨w.heap.size+1+1,0,none⟩ (.bool false)) (w.heap.size+1+1) 4 (.bool false)∧Below w.heap.size w (w4.setCell ⟨w.heap.size+1+1,0,none⟩ (.bool false))):=Lib.hid ⟨n4.set _,bw4.setCell (p:=⟨w.heap.size+1+1,0,none⟩) (show w.heap.size≤w.heap.size+1+1 by omega) _⟩
   clear b4 n4 bw4 hb4
   gi_wp2
   exact ⟨_,zfp rfl _ _ _ false rfl HF.out.1 rfl,by rw [HNO.out],HF.out.2⟩
 | true=>
   gi_upto_region 3 with (first
    |(refine ⟨trivial,?_⟩;gi_at_call 133;(with_reducible refine (callsIn_wide.2 HE.out).mono ?_);rintro e w4 ⟨rfl,hb4⟩))
   have b4:=zab HB3.out hb4 HB3.out.size
   have h24:=(b4.block _ (zaa HU.out.1)).trans HU.out.1
   have h34:=(b4.block _ (zaa HU.out.2.1)).trans HU.out.2.1
   have c34:=zad h34 0 rfl
   have HB4:=Lib.hid b4
   clear hb4 b4
   gi_wp2_with (first
    |((with_reducible refine ztg zfy (.tmp 2) w.heap.size _ _ _ _ _ h24 ?_ ?_ ?_ ?_);rfl;rfl;rfl)
    |(refine ⟨trivial,?_⟩;gi_at_call 77;refine Hid.out ?_))
   refine Lib.hid ?_
   refine (callsIn_wide.2 (zmj pA pB pR pL pu sh.length kA sh.length kB rows.length kR (zbj sh rows).length kL r.length ku mb w4)).mono ?_
   rintro e w5 ⟨rfl,hw5⟩
   have b45:Below w4.heap.size w4 w5:=by rw [hw5];exact zdb _ _ _
   have b5:=zab HB4.out b45 HB4.out.size
   have v2:w5.heap[w4.heap.size]?=some (.cells #[.slice pA sh.length kA,.slice pB sh.length kB,.slice pR rows.length kR,.map (some mb),.slice pL (zbj sh rows).length kL] 90):=by rw [hw5];exact zap _ (zaf _ _ rfl)
   have v3:w5.heap[w4.heap.size+1]?=some (.cells #[.slice pu r.length ku] 43):=by rw [hw5];exact zaf _ _ (by simp)
   have s5:w5.heap.size=w4.heap.size+2:=by rw [hw5];simp
   have hs15:=b5.size
   have hs14:=HB4.out.size
   have st5:zem P P W1 w5:=fun k hk=>⟨hk,b5.block k (Nat.lt_of_lt_of_le (HX.out.2.2 k hk) HB.out.1.size)⟩
   have HST:=Lib.hid (zn6 sh rows _ _ _ _ _ mb r us w5 (fun _ k=>k=w.heap.size+1+1) P w4.heap.size (w4.heap.size+1) (HG.out.below b5) (fun _ _ _ _ h=>h) (fun k h=>by omega) (fun k hk=>⟨by have:=HX.out.2.2 k hk;omega,by have:=HX.out.2.2 k hk;omega⟩) (HX.out.1.stays st5) (HX.out.2.1.stays st5) (fun i hi=>by
    obtain ⟨g,off,cap,e,hg,hc,hs,hl⟩:=HUS.out i hi
    exact ⟨g,off,cap,e,hg,st5.cell hg _ hc,hs.stays st5,hl⟩) v2 v3 (by omega) (by omega) HM.out.1 HM.out.2.1 HM.out.2.2.1 HM.out.2.2.2 hwt hsn hrn hn)
   have HB5:=Lib.hid b5
   clear hw5 b45 v2 v3 st5 h24 h34 c34 b5
   gi_wp2
   refine wpIn_rangeFunc_ownG (gf:=127) (lb:=#[.pointer (some ⟨w4.heap.size+1,0,none⟩),.pointer (some ⟨w4.heap.size,0,none⟩)]) rfl (by decide) rfl trivial (enters_of Tryz.func127 (by kernel_rfl) rfl) HST.out zth (kpO_b (Nat.le_refl _) (fun _ _ _ _ h=>h)) (Below.refl _ _) (fun _=>rfl)
    (fun pre W=>(∀ x∈pre,zeo sh r (rows[x.1]'x.2)=false)∧Below W1.heap.size w5 W)
    (fun c pre W=>(c=.ret∧∃ x∈pre,zeo sh r (rows[x.1]'x.2)=true)∧Boxed W (w.heap.size+1+1) 4 (.bool true)∧Below w.heap.size w W)
    (OwnFrom.and (ownFrom_pure _ _) (ownFrom_below hs15 hs15))
    (fun c=>OwnFrom.and (ownFrom_pure _ _) (OwnFrom.and (Own.from (boxed_own (w.heap.size+1+1) 4 (fun _:List (RowN rows)=>.bool true)) _) (ownFrom_below (Nat.le_refl _) (by omega))))
    ⟨(fun x hx=>by cases hx),Below.refl _ _⟩
    ?act1 ?assign ?body ?done ?stop
   case assign=>
    intro l x W K hK
    gi_wp2
    exact hK
   case body=>
    rintro l pre x W ⟨hpre,hbW5⟩ hlt
    have hbW:=HB5.out.trans hbW5
    have HW5:=Lib.hid hbW5
    have hs5W:=hbW5.size
    clear hbW5
    have h2W:=(hbW.block _ (zaa HU.out.1)).trans HU.out.1
    have h3W:=(hbW.block _ (zaa HU.out.2.1)).trans HU.out.2.1
    have n4W:Boxed W (w.heap.size+1+1) 4 (.bool false):=(hbW.block _ HU.out.2.2.lt).trans HU.out.2.2
    have c3:=zad h3W 0 rfl
    have r01:W.rangeAt w.heap.size 0 [.slice pA sh.length kA,.slice pB sh.length kB]:=zeb h2W 0 _ (fun j v hv=>by
     match j,hv with
     | 0,e | 1,e=>simpa using e
     | j+2,e=>simp at e)
    have stW:zem P (Old W) W1 W:=fun k hk=>by
     have h1:=Nat.lt_of_lt_of_le (HX.out.2.2 k hk) HB.out.1.size
     exact ⟨Nat.lt_of_lt_of_le h1 hbW.size,hbW.block k h1⟩
    obtain ⟨g,off,cap,_,_,_,hsx,hxl⟩:=HUS.out x.1 x.2
    obtain ⟨q,hq⟩:∃ q,q=zeo sh r (rows[x.1]'x.2):=⟨_,rfl⟩
    have HME:Hid (Calls Tryz.prog 134 #[.agg #[.slice pA sh.length kA,.slice pB sh.length kB],.slice pu r.length ku,us x.1] W fun e w'=>e=.returned (.bool q)∧Below W.heap.size W w'):=Lib.hid (by rw [hq];exact meetAt sh _ _ _ _ r _ W (HX.out.1.shd.stays stW) (HX.out.2.1.stays stW) (hsx.stays stW) (fun p hp=>HM.out.1 _ (List.getElem_mem x.2) p hp) hsn hrn hxl)
    have HQQ:=Lib.hid hq
    have HPRE:=Lib.hid hpre
    have HBW:=Lib.hid hbW
    have HN4:=Lib.hid n4W
    have hsW:=hbW.size
    clear h2W h3W stW hsx hxl hq hpre hbW n4W
    cases q with
    | false=>
      gi_wp2_with (first
       |((with_reducible refine zqo (wideR l) (.tmp 17) w.heap.size 0 _ _ r01 ?_ ?_ ?_ ?_);rfl;rfl;rfl)
       |(refine ⟨trivial,?_⟩;gi_at_call 134;(with_reducible refine (CallsIn.inRound l (callsIn_wide.2 HME.out)).mono ?_);rintro e w6 ⟨rfl,hb6⟩))
      exact ⟨zmk hb6,KpO.of_below hb6 (by omega) (fun _ _ _ _ h=>h),fun y hy=>by
       rcases List.mem_append.1 hy with hy | hy
       ·exact HPRE.out y hy
       ·rw [List.mem_singleton.1 hy];exact HQQ.out.symm,HW5.out.trans (hb6.mono HBW.out.size)⟩
    | true=>
      gi_wp2_with (first
       |((with_reducible refine zqo (wideR l) (.tmp 17) w.heap.size 0 _ _ r01 ?_ ?_ ?_ ?_);rfl;rfl;rfl)
       |(refine ⟨trivial,?_⟩;gi_at_call 134;(with_reducible refine (CallsIn.inRound l (callsIn_wide.2 HME.out)).mono ?_);rintro e w6 ⟨rfl,hb6⟩;have n46:Boxed w6 (w.heap.size+1+1) 4 (.bool false):=(hb6.block _ HN4.out.lt).trans HN4.out;have c46:=n46.cell;have f46:=n46.frozen))
      have bw6:=HB.out.1.trans ((HBW.out.trans (hb6.mono HBW.out.size)).mono HB.out.1.size)
      exact ⟨(zmk hb6).trans ((KeepsOthers.setCell _ _ _).from _),⟨rfl,x,by simp,HQQ.out.symm⟩,n46.set _,bw6.setCell (p:=⟨w.heap.size+1+1,0,none⟩) (show w.heap.size≤w.heap.size+1+1 by omega) _⟩
   case done=>
    rintro D ys W hD hys ⟨hpre,hbW5⟩ hK
    have hbW:=HB5.out.trans hbW5
    clear hbW5
    have HNO:=Lib.hid (HANS.out.trans (take_no hys hpre))
    have n4:Boxed W (w.heap.size+1+1) 4 (.bool false):=(hbW.block _ HU.out.2.2.lt).trans HU.out.2.2
    have c4:=n4.cell
    have f4:=n4.frozen
    have hDb:D≠w.heap.size+1+1:=by omega
    have hK2:(W.setCell ⟨w.heap.size+1+1,0,none⟩ (.bool false)).heap[D]?=some (.deferred (some [])):=(Below.heap_setCell _ _ _ _ hDb).trans hK
    have HF:Hid (Boxed ((W.setCell ⟨w.heap.size+1+1,0,none⟩ (.bool false)).putObj D (.deferred none)) (w.heap.size+1+1) 4 (.bool false)∧Below w.heap.size w ((W.setCell ⟨w.heap.size+1+1,0,none⟩ (.bool false)).putObj D (.deferred none))):=Lib.hid
     ⟨(World.putObj_heap_other (fun e=>hDb e.symm)).trans (n4.set _),((HB.out.1.trans (hbW.mono HB.out.1.size)).setCell (p:=⟨w.heap.size+1+1,0,none⟩) (show w.heap.size≤w.heap.size+1+1 by omega) _).trans (belowK_b (w:=w) (Nat.le_refl _) _ D _ _ (by omega) hK2 rfl rfl)⟩
    have HK:=Lib.hid hK2
    clear hpre hbW hys hK hK2 n4
    gi_wp2
    refine ⟨by simp,.inl ⟨_,_,rfl,run_takeDeferred HK.out,?_⟩⟩
    exact ⟨_,zfp rfl _ _ _ false rfl HF.out.1 rfl,by rw [HNO.out],HF.out.2⟩
   case stop=>
    rintro D c pre W hD hpre ⟨⟨rfl,x,hx,hm⟩,hbox,hbW⟩ hK
    have HNO:=Lib.hid (HANS.out.trans (z2c hpre hx hm))
    have hDb:D≠w.heap.size+1+1:=by omega
    have HF:Hid (Boxed (W.putObj D (.deferred none)) (w.heap.size+1+1) 4 (.bool true)∧Below w.heap.size w (W.putObj D (.deferred none))):=Lib.hid
     ⟨(World.putObj_heap_other (fun e=>hDb e.symm)).trans hbox,hbW.trans (belowK_b (w:=w) (Nat.le_refl _) _ D _ _ (by omega) hK rfl rfl)⟩
    have HK:=Lib.hid hK
    clear hpre hbW hK hbox
    gi_wp2
    refine ⟨by simp,.inl ⟨_,_,rfl,run_takeDeferred HK.out,?_⟩⟩
    exact ⟨_,zfp rfl _ _ _ true rfl HF.out.1 rfl,by rw [HNO.out],HF.out.2⟩
end YteclpnfckjfibaaGreatDoor
end Go.Proofs
