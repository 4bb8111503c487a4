/- Texts of one kind, one behind the other: each says ahead of itself what it shows. -/
import Derived.Test.YtcfmenkigolnoaaGreatDoorWaf
import Derived.Shelf.Strconv.Clone
import Derived.WalkKit
import Derived.OwnWalk
import Derived.Maps.AppendAt
import Derived.Deep.LoopGhost
/- GF -/
namespace Go.Proofs.YtcfmenkigolnoaaGreatDoor
open Go.RowKit
structure zax where
 key:ByteArray
 v:Val
structure zap where
 id:Int
 labels:List ByteArray
 props:List zax
structure zat where
 id:Int
 src:Int
 dst:Int
 type:ByteArray
 props:List zax
structure zau where
 nodes:List zap
 edges:List zat
def intE:Elem Int where
 k:=1
 rel:=fun _ _ xs z=>xs=[.int .i64 z]∧(Lit.int .i64 z).wf=true
 len:=fun h=>by rw [h.1];rfl
 one:=fun h u hu=>by rw [h.1] at hu;simp at hu;subst hu;rfl
 stays:=fun _ h=>h
def zbq:Elem ByteArray where
 k:=1
 rel:=fun _ _ xs t=>xs=[.string t]∧t.size≤2097152
 len:=fun h=>by rw [h.1];rfl
 one:=fun h u hu=>by rw [h.1] at hu;simp at hu;subst hu;rfl
 stays:=fun _ h=>h
def zfn (w:World) (P:Nat→Prop) (xs:List Value):Val→Prop
 | .mk k b n t x q=>∃ L,xs=[.int .i64 k,.bool b,.int .i64 n,.string t,.string x,L]∧Fine n t x q.length∧zay w P L q
def valE:Elem Val where
 k:=6
 rel:=zfn
 len:=fun {w P xs a} h=>by
  obtain ⟨k,b,n,t,x,q⟩:=a
  obtain ⟨L,rfl,_⟩:=h
  rfl
 one:=fun {w P xs a} h u hu=>by
  obtain ⟨k,b,n,t,x,q⟩:=a
  obtain ⟨L,rfl,_,hq⟩:=h
  obtain ⟨p,cap,rfl⟩:=za5 (zay.held q hq)
  simp only [List.mem_cons,List.mem_nil_iff,or_false] at hu
  rcases hu with rfl | rfl | rfl | rfl | rfl | rfl <;> rfl
 stays:=fun {w w' P P' xs a} s h=>by
  obtain ⟨k,b,n,t,x,q⟩:=a
  obtain ⟨L,rfl,hf,hq⟩:=h
  exact ⟨L,rfl,hf,zay.stays s q hq⟩
def za0:Elem zax where
 k:=7
 rel:=fun w P xs p=>∃ c,xs=.string p.key::c∧p.key.size≤2097152∧zfn w P c p.v
 len:=fun {w P xs a} h=>by
  obtain ⟨c,rfl,_,h⟩:=h
  rw [List.length_cons,valE.len h]
  rfl
 one:=fun {w P xs a} h u hu=>by
  obtain ⟨c,rfl,_,h⟩:=h
  rcases List.mem_cons.1 hu with rfl | hu
  ·rfl
  ·exact valE.one h u hu
 stays:=fun {w w' P P' xs a} s h=>by
  obtain ⟨c,rfl,hk,h⟩:=h
  exact ⟨c,rfl,hk,valE.stays s h⟩
def za4:Elem zap where
 k:=3
 rel:=fun w P xs a=>∃ lv pv,xs=[.int .i64 a.id,lv,pv]∧(Lit.int .i64 a.id).wf=true∧a.labels.length≤2097152∧a.props.length≤2097152∧zak zbq w P lv a.labels∧zak za0 w P pv a.props
 len:=fun {w P xs a} h=>by
  obtain ⟨lv,pv,rfl,_⟩:=h
  rfl
 one:=fun {w P xs a} h u hu=>by
  obtain ⟨lv,pv,rfl,_,_,_,h1,h2⟩:=h
  obtain ⟨p1,c1,rfl⟩:=h1.slice
  obtain ⟨p2,c2,rfl⟩:=h2.slice
  simp only [List.mem_cons,List.mem_nil_iff,or_false] at hu
  rcases hu with rfl | rfl | rfl <;> rfl
 stays:=fun {w w' P P' xs a} s h=>by
  obtain ⟨lv,pv,rfl,h0,h1,h2,h3,h4⟩:=h
  exact ⟨lv,pv,rfl,h0,h1,h2,h3.stays s,h4.stays s⟩
def zaz:Elem zat where
 k:=5
 rel:=fun w P xs a=>∃ pv,xs=[.int .i64 a.id,.int .i64 a.src,.int .i64 a.dst,.string a.type,pv]∧((Lit.int .i64 a.id).wf=true∧(Lit.int .i64 a.src).wf=true∧(Lit.int .i64 a.dst).wf=true)∧a.type.size≤2097152∧a.props.length≤2097152∧zak za0 w P pv a.props
 len:=fun {w P xs a} h=>by
  obtain ⟨pv,rfl,_⟩:=h
  rfl
 one:=fun {w P xs a} h u hu=>by
  obtain ⟨pv,rfl,_,_,_,h1⟩:=h
  obtain ⟨p1,c1,rfl⟩:=h1.slice
  simp only [List.mem_cons,List.mem_nil_iff,or_false] at hu
  rcases hu with rfl | rfl | rfl | rfl | rfl <;> rfl
 stays:=fun {w w' P P' xs a} s h=>by
  obtain ⟨pv,rfl,h0,h1,h2,h3⟩:=h
  exact ⟨pv,rfl,h0,h1,h2,h3.stays s⟩
def Inn (w:World) (A:Value) (wr:World):Nat→Prop:=fun g=>w.heap.size≤g∧g < wr.heap.size∧A.ownBlock≠some g
structure AccE {β:Type} (E:Elem β) (D:TypeId) (w:World) (bs:List β) (A:Value) (wr:World):Prop where
 own:∃ xs,wr.ownsRow w.heap.size D E.k A bs.length xs∧RowE E wr (Inn w A wr) xs bs
 bel:Below w.heap.size w wr
theorem AccE.start {β:Type} (E:Elem β) (D:TypeId) (w:World):AccE E D w [] (.slice none 0 0) w:=⟨⟨[],World.ownsRow_nil _ _ _ _,RowE.nil⟩,Below.refl _ _⟩
theorem AccE.next {β:Type} {E:Elem β} {D:TypeId} {w wr wX w3 w5:World} {A A2:Value} {xs c:List Value} {bs:List β} {b:β} {o:Obj} (hown:wr.ownsRow w.heap.size D E.k A bs.length xs) (hrow:RowE E wr (Inn w A wr) xs bs) (hbel:Below w.heap.size w wr)
 (bX:Below wr.heap.size wr wX) (b3:Below wX.heap.size wX w3) (hc:E.rel w3 (New wX w3) c b) (hown':w5.ownsRow w.heap.size D E.k A2 (bs.length+1) (xs++c)) (hg:(w3.alloc o).grownBy w5 A.ownBlock)
 (hloc:A2.ownBlock=A.ownBlock∨A2.ownBlock=some (w3.alloc o).heap.size):AccE E D w (bs++[b]) A2 w5:=by
 have s0:=hbel.size
 have sX:=bX.size
 have s3:=b3.size
 have s4:(w3.alloc o).heap.size=w3.heap.size+1:=by simp
 have s5:=hg.size
 have off:∀ g,g < w3.heap.size→A.ownBlock≠some g→A2.ownBlock≠some g∧w5.heap[g]?=w3.heap[g]?:=by
  intro g hlt hne
  refine ⟨?_,(hg.block g (by omega) (fun e=>hne e.symm)).trans (Below.heap_alloc _ _ _ hlt)⟩
  rcases hloc with e | e
  ·rw [e];exact hne
  ·rw [e];intro q;cases q;omega
 refine ⟨⟨xs++c,by simpa using hown',RowE.append bs [b] (hrow.stays (fun g hgg=>?_)) (RowE.single (E.stays (fun g hgg=>?_) hc))⟩,?_⟩
 ·obtain ⟨h1,h2,h3⟩:=hgg
  obtain ⟨o1,o2⟩:=off g (by omega) h3
  exact ⟨⟨h1,by omega,o1⟩,o2.trans ((b3.block g (by omega)).trans (bX.block g h2))⟩
 ·obtain ⟨h1,h2⟩:=hgg
  have hne:A.ownBlock≠some g:=fun e=>by have:=(hown.lt g e).2;omega
  obtain ⟨o1,o2⟩:=off g h2 hne
  exact ⟨⟨by omega,by omega,o1⟩,o2⟩
 ·have b4:Below w.heap.size w (w3.alloc o):=((hbel.trans (bX.mono s0)).trans (b3.mono (by omega))).alloc (by omega) _
  exact b4.grown hg (by omega) (fun g e=>(hown.lt g e).1)
def za9 {β:Type} (E:Elem β) (D:TypeId) (w:World) (bs:List β) (e:Ending) (w':World):Prop:=
 ∃ V xs,e=.returned V∧w'.ownsRow w.heap.size D E.k V bs.length xs∧RowE E w' (Inn w V w') xs bs∧Below w.heap.size w w'
def zb6 {β:Type} (E:Elem β) (b:β) (w:World) (e:Ending) (w':World):Prop:=
 ∃ u c,e=.returned u∧u.cells=c.toArray∧E.rel w' (New w w') c b∧Below w.heap.size w w'
theorem zah {P:Program} {ops:Array Oper} {rest:List Oper} {o:Oper} {a:Act} {w:World} {Q:Exit→Act→World→Prop} (x y:Operand) (g:Nat) (t ty:TypeId) (old:Array Value) (cs:List Value) (k:Nat) (hg:w.heap[g]?=some (.cells old t (0,0)))
 (hk:cs.length=k) (hgd:o.guard=none) (ho:o.op=.store ty x y) (hx:a.eval x=.pointer (some ⟨g,0,none⟩)) (hy:a.eval y=.agg cs.toArray) (hi:(P.info? ty).map (·.size)=some k) (hold:old.size=k) (h1:∀ u∈cs,u.oneCell'=true)
 (h:∀ w',Only g w w'→w'.heap[g]?=some (.cells cs.toArray t (0,0))→wpList P ops Q rest (a.put o.dst undef) w'):wpList P ops Q (o::rest) a w:=
 wpList_plain hgd fun _ hK=>by
  unfold Oper.wp execOp
  simp only [ho,hx,hy,Instr.storeAt,Instr.sureAddr,Sem.run_bind,Sem.run_pure,Result.andThen_ok,run_storeVar_row (P:=P) w g t ty old cs.toArray hg (by rw [hi];simp [hk]) (by simp [hk,hold]) (all_oneCell_toArray h1)]
  exact hK _ _ (h _ (Only.setRow w _) (zc7 hg))
end Go.Proofs.YtcfmenkigolnoaaGreatDoor

/- LB -/
namespace Go.Proofs
open Go.Shelf
def Tryz.laysM316_ren:Go.Shelf.Ren:=⟨fun | 316=>109 | n=>n,fun | 9=>9 | 3=>3 | 4=>4 | 37=>154 | 0=>0 | 127=>155 | 5=>5 | n=>n,fun | n=>n⟩
theorem Tryz.laysM316:Go.Proofs.LaysM.n316 Tryz.prog Tryz.laysM316_ren:={
 mixed:=by kernel_rfl
 f316:=Tryz.func109.trans (congrArg some (by kernel_rfl))
 t0:=Tryz.underlying0
 a0:=Tryz.isAgg0
 z0:=Tryz.sizeOf0
 v0:=Tryz.zeroValue0
 t3:=Tryz.underlying3
 a3:=Tryz.isAgg3
 z3:=Tryz.sizeOf3
 v3:=Tryz.zeroValue3
 t4:=Tryz.underlying4
 a4:=Tryz.isAgg4
 z4:=Tryz.sizeOf4
 v4:=Tryz.zeroValue4
 t9:=Tryz.underlying9
 a9:=Tryz.isAgg9
 z9:=Tryz.sizeOf9
 v9:=Tryz.zeroValue9
 t37:=Tryz.underlying154
 a37:=Tryz.isAgg154
 z37:=Tryz.sizeOf154
 v37:=Tryz.zeroValue154
 t127:=Tryz.underlying155
 a127:=Tryz.isAgg155
 z127:=Tryz.sizeOf155
 v127:=Tryz.zeroValue155
 t5:=Tryz.underlying5
 a5:=Tryz.isAgg5
 z5:=Tryz.sizeOf5
 v5:=Tryz.zeroValue5
 i0:=by kernel_rfl
 i3:=by kernel_rfl
 i4:=by kernel_rfl
 i5:=by kernel_rfl
 i9:=by kernel_rfl
 i37:=by kernel_rfl
 i127:=by kernel_rfl }
namespace YtcfmenkigolnoaaGreatDoor
open Go.RowKit
theorem slClone (s:ByteArray) (w:World) (h2:s.size≤281474976710656):Calls Tryz.prog 109 #[.string s] w fun e w'=>e=.returned (.string s)∧Below w.heap.size w w':=Any.stringslite_Clone Tryz.laysM316 s w h2
theorem zhu (s:ByteArray) (w:World) (h2:s.size≤281474976710656):
 Calls Tryz.prog 86 #[.string s] w fun e w'=>e=.returned (.string s)∧Below w.heap.size w w':=by
 go_enter Tryz.func86,Tryz.ntmps86
 go_wp2_with (go_at_call 109;(with_reducible refine (slClone s _ h2).mono ?_);rintro e w' ⟨rfl,hb⟩)
 go_ret
 exact ⟨rfl,hb⟩
end YtcfmenkigolnoaaGreatDoor
end Go.Proofs

/- LC -/
namespace Go.Proofs.YtcfmenkigolnoaaGreatDoor
open Go.RowKit
def zg2 (w:World) (q:List Val) (e:Ending) (w':World):Prop:=∃ V xs,e=.returned V∧w'.ownsRow w.heap.size 60 6 V q.length xs∧zbu w' (fun g=>w.heap.size≤g∧g < w'.heap.size∧V.ownBlock≠some g) xs q∧Below w.heap.size w w'
structure Acc (w:World) (l:List Val) (A:Value) (wr:World):Prop where
 own:∃ xs,wr.ownsRow w.heap.size 60 6 A l.length xs∧zbu wr (fun g=>w.heap.size≤g∧g < wr.heap.size∧A.ownBlock≠some g) xs l
 bel:Below w.heap.size w wr
theorem za2 {w w':World} {base:Nat} {e:TypeId} {size:Nat} {v:Value} {n:Nat} {xs:List Value} (h:w.ownsRow base e size v n xs) (b:Below w.heap.size w w'):w'.ownsRow base e size v n xs:=by
 refine ⟨h.1,?_⟩
 rcases h.2 with h0 | ⟨g,cap,cur,e1,h1,h2,h3⟩
 ·exact .inl h0
 ·exact .inr ⟨g,cap,cur,e1,h1,(b.block g (zaa h2)).trans h2,h3⟩
theorem info28b:(Tryz.prog.info? 60).map (fun i=>(i.zero,i.size,i.bytes))=some (some (.agg #[.int .i64 0,.bool false,.int .i64 0,.string ⟨#[]⟩,.string ⟨#[]⟩,.slice none 0 0]),6,80):=by kernel_rfl
theorem zmd (w:World) (a b c d e f:Value) (t:TypeId):∀ j u,[a,b,c,d,e,f][j]?=some u→(w.alloc (.cells #[a,b,c,d,e,f] t)).cell? ((⟨w.heap.size,0,none⟩:Addr).add j)=some u:=by
 intro j u hj
 rw [Addr.add_mid,Nat.zero_add]
 exact zac (zae w _ rfl) j (by simpa using hj)
theorem Acc.next {w wr wf w1:World} {l:List Val} {A A2:Value} {xs:List Value} {k:Int} {b:Bool} {n:Int} {t x:ByteArray} {q:List Val} {V:Value} {e:Nat} {o:Obj} (he:e=wr.heap.size)
 (hx:wr.ownsRow w.heap.size 60 6 A l.length xs) (hc:zbu wr (fun g=>w.heap.size≤g∧g < wr.heap.size∧A.ownBlock≠some g) xs l) (hbel:Below w.heap.size w wr)
 (bf:Below wr.heap.size wr wf) (hf:Fine n t x q.length) (hq:zay wf (fun g=>e < g∧g < wf.heap.size) V q)
 (hown:w1.ownsRow w.heap.size 60 6 A2 (l.length+1) (xs++[.int .i64 k,.bool b,.int .i64 n,.string t,.string x,V])) (hgrow:(wf.alloc o).grownBy w1 A.ownBlock) (hloc:A2.ownBlock=A.ownBlock∨A2.ownBlock=some (wf.heap.size+1)):
 Acc w (l++[.mk k b n t x q]) A2 w1:=by
 have hA:∀ g,A.ownBlock=some g→g < wr.heap.size:=fun g hg=>(hx.lt g hg).2
 have s1:(wf.alloc o).heap.size=wf.heap.size+1:=by simp
 have s2:wr.heap.size≤wf.heap.size:=bf.size
 have s3:(wf.alloc o).heap.size≤w1.heap.size:=hgrow.size
 have s0:w.heap.size≤wr.heap.size:=hbel.size
 have hn2:∀ g,g < wf.heap.size→A.ownBlock≠some g→A2.ownBlock≠some g:=fun g hg hne h=>by
  rcases hloc with h2 | h2
  ·exact hne (h2 ▸ h)
  ·rw [h2] at h
   have:=Option.some.inj h
   omega
 have keep:∀ g,g < wf.heap.size→A.ownBlock≠some g→w1.heap[g]?=wf.heap[g]?:=fun g hg hne=>by
  rw [hgrow.block g (by omega) (fun h=>hne h.symm)]
  exact Below.heap_alloc _ _ _ hg
 refine ⟨⟨_,by rw [List.length_append];exact hown,?_⟩,(hbel.trans (bf.mono s0) |>.alloc (by omega) o).grown hgrow (by omega) (fun g hg=>(hx.lt g hg).1)⟩
 refine zbu.append l _ (hc.stays (fun g hg=>⟨⟨hg.1,by omega,hn2 g (by omega) hg.2.2⟩,?_⟩) l) (zbu.one hf (hq.stays (fun g hg=>?_) q))
 ·rw [keep g (by omega) hg.2.2]
  exact bf.block g hg.2.1
 ·have hne:A.ownBlock≠some g:=fun h=>by have:=hA g h;omega
  exact ⟨⟨by omega,by omega,hn2 g hg.2 hne⟩,keep g hg.2 hne⟩
end Go.Proofs.YtcfmenkigolnoaaGreatDoor

/- GG -/
namespace Go.Proofs.YtcfmenkigolnoaaGreatDoor
open Go.RowKit
theorem zd6:(Tryz.prog.info? 2).map (fun i=>(i.zero,i.size,i.bytes))=some (some (.int .i64 0),1,8):=by kernel_rfl
theorem zex:(Tryz.prog.info? 9).map (fun i=>(i.zero,i.size,i.bytes))=some (some (.string ⟨#[]⟩),1,16):=by kernel_rfl
theorem zcg:(Tryz.prog.info? 60).map (·.size)=some 6:=by kernel_rfl
theorem zsi:(Tryz.prog.info? 60).map (fun i=>(i.zero,i.size,i.bytes))=some (some (.agg #[.int .i64 0,.bool false,.int .i64 0,.string ⟨#[]⟩,.string ⟨#[]⟩,.slice none 0 0]),6,80):=by kernel_rfl
theorem zbb:(Tryz.prog.info? 70).map (·.size)=some 7:=by kernel_rfl
theorem zi1:(Tryz.prog.info? 70).map (fun i=>(i.zero,i.size,i.bytes))=some (some (.agg #[.string ⟨#[]⟩,.int .i64 0,.bool false,.int .i64 0,.string ⟨#[]⟩,.string ⟨#[]⟩,.slice none 0 0]),7,96):=by kernel_rfl
theorem zal:(Tryz.prog.info? 38).map (·.size)=some 3:=by kernel_rfl
theorem zf9:(Tryz.prog.info? 38).map (fun i=>(i.zero,i.size,i.bytes))=some (some (.agg #[.int .i64 0,.slice none 0 0,.slice none 0 0]),3,56):=by kernel_rfl
theorem zan:(Tryz.prog.info? 41).map (·.size)=some 5:=by kernel_rfl
theorem zi2:(Tryz.prog.info? 41).map (fun i=>(i.zero,i.size,i.bytes))=some (some (.agg #[.int .i64 0,.int .i64 0,.int .i64 0,.string ⟨#[]⟩,.slice none 0 0]),5,64):=by kernel_rfl
theorem zav {P:Program} {ops:Array Oper} {rest:List Oper} {o:Oper} {a:Act} {w:World} {Q:Exit→Act→World→Prop} (y:Operand) (g off:Nat) (ty:TypeId) (cs:List Value) (k:Nat) (d:TypeDesc) (hr:w.rangeAt g off cs) (hk:cs.length=k)
 (hu:P.underlying ty=some d) (hd:d.isRow=true) (hi:(P.info? ty).map (·.size)=some k) (hgd:o.guard=none) (ho:o.op=.load ty y) (hx:a.eval y=.pointer (some ⟨g,off,none⟩))
 (h:wpList P ops Q rest (a.put o.dst (.agg cs.toArray)) w):wpList P ops Q (o::rest) a w:=
 wpList_load_mid hgd ty y ho g off hx cs d hr hu hd (by rw [hi,hk]) h
theorem zaf {P:Program} {ops:Array Oper} {rest:List Oper} {o:Oper} {a:Act} {w:World} {Q:Exit→Act→World→Prop} (y:Operand) (g:Nat) (t ty:TypeId) (cs:List Value) (k:Nat) (d:TypeDesc) (hg:w.heap[g]?=some (.cells cs.toArray t (0,0))) (hk:cs.length=k)
 (hu:P.underlying ty=some d) (hd:(match d with | .struct _ | .array _ _=>true | _=>false)=true) (hi:(P.info? ty).map (·.size)=some k) (hgd:o.guard=none) (ho:o.op=.load ty y) (hx:a.eval y=.pointer (some ⟨g,0,none⟩))
 (h:wpList P ops Q rest (a.put o.dst (.agg cs.toArray)) w):wpList P ops Q (o::rest) a w:=
 wpList_load_row hgd ty y ho g hx t cs.toArray (0,0) d hg hu hd (by rw [hi];simp [hk]) h
set_option maxHeartbeats 3200000 in
set_option maxRecDepth 20000 in
theorem map94 (tell:Val→Val) (l:List Val) (v:Value) (w:World) (h:zak valE w (Old w) v l) (hn:l.length≤2097152)
 (each:∀ x∈l,∀ W c,Below w.heap.size w W→valE.rel W (Old W) c x→Calls Tryz.prog 59 #[.agg c.toArray] W (zb6 valE (tell x) W)):
 Calls Tryz.prog 94 #[v,.func (.func 59) #[] #[]] w (za9 valE 60 w (l.map tell)):=by
 obtain ⟨n,hln⟩:∃ n,n=l.length:=⟨_,rfl⟩
 obtain ⟨p,cap,rfl⟩:=h.slice
 rw [← hln] at hn
 obtain ⟨i0,hi,hz0,hz1,hz2⟩:=info_parts zsi
 have HL:=Lib.hid hln
 have HH:=Lib.hid h
 have HE:=Lib.hid each
 rw [← hln]
 clear h hln each
 go_enter Tryz.func94,Tryz.ntmps94
 go_wp2_with fail
 go_loopg [5,10] n (fun gg s5 s10 wr=>∃ j:Nat,j+gg=n∧s10=.int .i64 j∧Hid (AccE valE 60 w ((l.take j).map tell) s5 wr))
 case atStart=>exact ⟨0,by omega,rfl,Lib.hid (AccE.start valE 60 w)⟩
 case round=>
  obtain ⟨j,hjg,rfl,HA⟩:=hrel
  by_cases hlt:(j:Int) < n
  ·have hj1:j < l.length:=by have:=HL.out;omega
   have hbel:=HA.out.bel
   obtain ⟨g,off,cap',c,e0,hg,hrl,hra⟩:=(HH.out.stays (zad hbel)).at_ j hj1
   injection e0 with e1 e2 e3
   subst e1
   replace hra:wr.rangeAt g (off+j*6) c:=hra
   have hlen:c.length=6:=valE.len hrl
   have hjl:((l.take j).map tell).length=j:=by rw [List.length_map,List.length_take];omega
   have etk:(l.take (j+1)).map tell=(l.take j).map tell++[tell l[j]]:=by rw [List.take_succ_eq_append_getElem hj1,List.map_append];rfl
   have hbs:=hbel.size
   have hone:=valE.one hrl
   have HR:=Lib.hid (And.intro hrl hra)
   have HK:=Lib.hid (And.intro hjl etk)
   clear hrl hra hjl etk e2 e3 hbel
   go_upto_region 5 with (first
    |((with_reducible refine zav (.tmp 12) g (off+j*6) 60 c 6 _ HR.out.2 hlen Tryz.underlying60 rfl zcg ?_ ?_ ?_ ?_);rfl;rfl;rfl)
    |((with_reducible refine zah (.tmp 7) (.tmp 13) wr.heap.size 60 60 _ c 6 (zae _ _ rfl) hlen ?_ ?_ ?_ ?_ zcg rfl hone ?_);rfl;rfl;rfl;rfl;intro wX oX hX))
   have bX:Below wr.heap.size wr wX:=zag (zas wr _) oX (Nat.le_refl _) (by simp)
   have bWX:Below w.heap.size w wX:=HA.out.bel.trans (bX.mono hbs)
   have hcall:=HE.out l[j] (List.getElem_mem hj1) wX c bWX (valE.stays (zad bX) HR.out.1)
   have HX:=Lib.hid (And.intro bX bWX)
   clear oX bX bWX
   go_wp2_with (first
    |((with_reducible refine zaf (.tmp 7) wr.heap.size 60 60 c 6 _ hX hlen Tryz.underlying60 rfl zcg ?_ ?_ ?_ ?_);rfl;rfl;rfl)
    |(go_at_call 59;(with_reducible refine hcall.mono ?_);rintro e w3 ⟨u,c',rfl,hu,hc',b3⟩
      obtain ⟨⟨xs,hown,hrow⟩,hbel⟩:=HA.out
      replace hown:wr.ownsRow w.heap.size 60 6 _ _ xs:=hown
      have hown3:=za2 (za2 hown HX.out.1) b3
      have hlen':c'.length=6:=valE.len hc'
      have hone':=valE.one hc'
      have hsX:=HX.out.1.size
      have hs3:=b3.size
      have HY:=Lib.hid (And.intro hown (And.intro hrow (And.intro hbel (And.intro b3 hc'))))
      clear hown hrow hbel b3 hc' HA hcall)
    |((with_reducible refine zbd ?_ 43 60 (.tmp 17) ?_ u c' ?_ hu i0 _ 6 hlen' (by omega) (by omega) Tryz.underlying43 hi hz0 hz1 ?_);rfl;rfl;rfl)
    |(at_builtin;refine wpList_append_own_at _ rfl _ _ 43 rfl w.heap.size 60 i0 (.agg #[.int .i64 0,.bool false,.int .i64 0,.string ⟨#[]⟩,.string ⟨#[]⟩,.slice none 0 0]) 6 80 Tryz.underlying43 hi hz0 hz1 hz2 rfl (by decide) _ _ _ rfl (hown3.alloc _) ⟨w3.heap.size,0,none⟩ 1 1 c' rfl (by rw [hlen']) (zbp _ _ _) hone' ?_ ?_ ?_ ?_))
   all_goals (try (first |(rw [HK.out.1];unfold maxLen;omega) |(rw [HK.out.1];omega) |(simp;omega)))
   intro v' w5 hown' hgrow _ hloc
   have e9:min j l.length=j:=by omega
   rw [e9] at hown'
   have e10:=hown'
   rw [← HK.out.1] at e10
   have acc:AccE valE 60 w ((l.take (j+1)).map tell) v' w5:=by
    rw [HK.out.2]
    exact AccE.next HY.out.1 HY.out.2.1 HY.out.2.2.1 HX.out.1 HY.out.2.2.2.1 HY.out.2.2.2.2 e10 hgrow (by simpa using hloc)
   have ACC:=Lib.hid acc
   clear acc hown' hgrow hloc hown3 HY HX
   go_wp2_with fail
   go_roundg (gk - 1)
   case measure=>omega
   case rel=>exact ⟨j+1,by omega,by go_num,ACC⟩
  ·have e:l.take j=l:=by rw [List.take_of_length_le];have:=HL.out;omega
   have hA:=HA.out
   rw [e] at hA
   obtain ⟨⟨xs,hown,hrow⟩,hbel⟩:=hA
   have HX:=Lib.hid (And.intro hown (And.intro hrow hbel))
   clear hown hrow hbel HA
   go_wp2_with fail
   go_ret
   exact ⟨_,xs,rfl,HX.out.1,HX.out.2.1,HX.out.2.2⟩
set_option maxHeartbeats 3200000 in
set_option maxRecDepth 20000 in
theorem map85 (tell:ByteArray→ByteArray) (l:List ByteArray) (v:Value) (w:World) (h:zak zbq w (Old w) v l) (hn:l.length≤2097152)
 (each:∀ x∈l,∀ W c,Below w.heap.size w W→zbq.rel W (Old W) c x→Calls Tryz.prog 86 #[.string x] W (zb6 zbq (tell x) W)):
 Calls Tryz.prog 85 #[v,.func (.func 86) #[] #[]] w (za9 zbq 9 w (l.map tell)):=by
 obtain ⟨n,hln⟩:∃ n,n=l.length:=⟨_,rfl⟩
 obtain ⟨p,cap,rfl⟩:=h.slice
 rw [← hln] at hn
 obtain ⟨i0,hi,hz0,hz1,hz2⟩:=info_parts zex
 have HL:=Lib.hid hln
 have HH:=Lib.hid h
 have HE:=Lib.hid each
 rw [← hln]
 clear h hln each
 go_enter Tryz.func85,Tryz.ntmps85
 go_wp2_with fail
 go_loopg [5,10] n (fun gg s5 s10 wr=>∃ j:Nat,j+gg=n∧s10=.int .i64 j∧Hid (AccE zbq 9 w ((l.take j).map tell) s5 wr))
 case atStart=>exact ⟨0,by omega,rfl,Lib.hid (AccE.start zbq 9 w)⟩
 case round=>
  obtain ⟨j,hjg,rfl,HA⟩:=hrel
  by_cases hlt:(j:Int) < n
  ·have hj1:j < l.length:=by have:=HL.out;omega
   have hbel:=HA.out.bel
   obtain ⟨g,off,cap',c,e0,hg,hrl,hra⟩:=(HH.out.stays (zad hbel)).at_ j hj1
   injection e0 with e1 e2 e3
   subst e1
   replace hra:wr.rangeAt g (off+j*1) c:=hra
   have hlen:c.length=1:=zbq.len hrl
   have hjl:((l.take j).map tell).length=j:=by rw [List.length_map,List.length_take];omega
   have etk:(l.take (j+1)).map tell=(l.take j).map tell++[tell l[j]]:=by rw [List.take_succ_eq_append_getElem hj1,List.map_append];rfl
   have hbs:=hbel.size
   obtain ⟨rfl,hwf⟩:=hrl
   have c0:wr.cell? ⟨g,off+j,none⟩=some (.string l[j]):=by
    have:=hra 0 _ rfl
    simpa using this
   have bX:Below wr.heap.size wr wr:=Below.refl _ _
   have hcall:=HE.out l[j] (List.getElem_mem hj1) wr _ hbel ⟨rfl,hwf⟩
   have HX:=Lib.hid (And.intro bX hbel)
   have HK:=Lib.hid (And.intro hjl etk)
   clear hra hjl etk e2 e3 hbel bX
   go_wp2_with (first
    |(go_at_call 86;(with_reducible refine hcall.mono ?_);rintro e w3 ⟨u,c',rfl,hu,hc',b3⟩
      obtain ⟨⟨xs,hown,hrow⟩,hbel⟩:=HA.out
      replace hown:wr.ownsRow w.heap.size 9 1 _ _ xs:=hown
      have hown3:=za2 (za2 hown HX.out.1) b3
      have hlen':c'.length=1:=zbq.len hc'
      have hone':=zbq.one hc'
      have hsX:=HX.out.1.size
      have hs3:=b3.size
      have HY:=Lib.hid (And.intro hown (And.intro hrow (And.intro hbel (And.intro b3 hc'))))
      clear hown hrow hbel b3 hc' HA hcall)
    |((with_reducible refine zbd ?_ 35 9 (.tmp 17) ?_ u c' ?_ hu i0 _ 1 hlen' (by omega) (by omega) Tryz.underlying35 hi hz0 hz1 ?_);rfl;rfl;rfl)
    |(at_builtin;refine wpList_append_own_at _ rfl _ _ 35 rfl w.heap.size 9 i0 (.string ⟨#[]⟩) 1 16 Tryz.underlying35 hi hz0 hz1 hz2 rfl (by decide) _ _ _ rfl (hown3.alloc _) ⟨w3.heap.size,0,none⟩ 1 1 c' rfl (by rw [hlen']) (zbp _ _ _) hone' ?_ ?_ ?_ ?_))
   all_goals (try (first |(rw [HK.out.1];unfold maxLen;omega) |(rw [HK.out.1];omega) |(simp;omega)))
   intro v' w5 hown' hgrow _ hloc
   have e9:min j l.length=j:=by omega
   rw [e9] at hown'
   have e10:=hown'
   rw [← HK.out.1] at e10
   have acc:AccE zbq 9 w ((l.take (j+1)).map tell) v' w5:=by
    rw [HK.out.2]
    exact AccE.next HY.out.1 HY.out.2.1 HY.out.2.2.1 HX.out.1 HY.out.2.2.2.1 HY.out.2.2.2.2 e10 hgrow (by simpa using hloc)
   have ACC:=Lib.hid acc
   clear acc hown' hgrow hloc hown3 HY HX
   go_wp2_with fail
   go_roundg (gk - 1)
   case measure=>omega
   case rel=>exact ⟨j+1,by omega,by go_num,ACC⟩
  ·have e:l.take j=l:=by rw [List.take_of_length_le];have:=HL.out;omega
   have hA:=HA.out
   rw [e] at hA
   obtain ⟨⟨xs,hown,hrow⟩,hbel⟩:=hA
   have HX:=Lib.hid (And.intro hown (And.intro hrow hbel))
   clear hown hrow hbel HA
   go_wp2_with fail
   go_ret
   exact ⟨_,xs,rfl,HX.out.1,HX.out.2.1,HX.out.2.2⟩
set_option maxHeartbeats 3200000 in
set_option maxRecDepth 20000 in
theorem map87 (tell:zax→zax) (l:List zax) (v:Value) (w:World) (h:zak za0 w (Old w) v l) (hn:l.length≤2097152)
 (each:∀ x∈l,∀ W c,Below w.heap.size w W→za0.rel W (Old W) c x→Calls Tryz.prog 88 #[.agg c.toArray] W (zb6 za0 (tell x) W)):
 Calls Tryz.prog 87 #[v,.func (.func 88) #[] #[]] w (za9 za0 70 w (l.map tell)):=by
 obtain ⟨n,hln⟩:∃ n,n=l.length:=⟨_,rfl⟩
 obtain ⟨p,cap,rfl⟩:=h.slice
 rw [← hln] at hn
 obtain ⟨i0,hi,hz0,hz1,hz2⟩:=info_parts zi1
 have HL:=Lib.hid hln
 have HH:=Lib.hid h
 have HE:=Lib.hid each
 rw [← hln]
 clear h hln each
 go_enter Tryz.func87,Tryz.ntmps87
 go_wp2_with fail
 go_loopg [5,10] n (fun gg s5 s10 wr=>∃ j:Nat,j+gg=n∧s10=.int .i64 j∧Hid (AccE za0 70 w ((l.take j).map tell) s5 wr))
 case atStart=>exact ⟨0,by omega,rfl,Lib.hid (AccE.start za0 70 w)⟩
 case round=>
  obtain ⟨j,hjg,rfl,HA⟩:=hrel
  by_cases hlt:(j:Int) < n
  ·have hj1:j < l.length:=by have:=HL.out;omega
   have hbel:=HA.out.bel
   obtain ⟨g,off,cap',c,e0,hg,hrl,hra⟩:=(HH.out.stays (zad hbel)).at_ j hj1
   injection e0 with e1 e2 e3
   subst e1
   replace hra:wr.rangeAt g (off+j*7) c:=hra
   have hlen:c.length=7:=za0.len hrl
   have hjl:((l.take j).map tell).length=j:=by rw [List.length_map,List.length_take];omega
   have etk:(l.take (j+1)).map tell=(l.take j).map tell++[tell l[j]]:=by rw [List.take_succ_eq_append_getElem hj1,List.map_append];rfl
   have hbs:=hbel.size
   have hone:=za0.one hrl
   have HR:=Lib.hid (And.intro hrl hra)
   have HK:=Lib.hid (And.intro hjl etk)
   clear hrl hra hjl etk e2 e3 hbel
   go_upto_region 5 with (first
    |((with_reducible refine zav (.tmp 12) g (off+j*7) 70 c 7 _ HR.out.2 hlen Tryz.underlying70 rfl zbb ?_ ?_ ?_ ?_);rfl;rfl;rfl)
    |((with_reducible refine zah (.tmp 7) (.tmp 13) wr.heap.size 70 70 _ c 7 (zae _ _ rfl) hlen ?_ ?_ ?_ ?_ zbb rfl hone ?_);rfl;rfl;rfl;rfl;intro wX oX hX))
   have bX:Below wr.heap.size wr wX:=zag (zas wr _) oX (Nat.le_refl _) (by simp)
   have bWX:Below w.heap.size w wX:=HA.out.bel.trans (bX.mono hbs)
   have hcall:=HE.out l[j] (List.getElem_mem hj1) wX c bWX (za0.stays (zad bX) HR.out.1)
   have HX:=Lib.hid (And.intro bX bWX)
   clear oX bX bWX
   go_wp2_with (first
    |((with_reducible refine zaf (.tmp 7) wr.heap.size 70 70 c 7 _ hX hlen Tryz.underlying70 rfl zbb ?_ ?_ ?_ ?_);rfl;rfl;rfl)
    |(go_at_call 88;(with_reducible refine hcall.mono ?_);rintro e w3 ⟨u,c',rfl,hu,hc',b3⟩
      obtain ⟨⟨xs,hown,hrow⟩,hbel⟩:=HA.out
      replace hown:wr.ownsRow w.heap.size 70 7 _ _ xs:=hown
      have hown3:=za2 (za2 hown HX.out.1) b3
      have hlen':c'.length=7:=za0.len hc'
      have hone':=za0.one hc'
      have hsX:=HX.out.1.size
      have hs3:=b3.size
      have HY:=Lib.hid (And.intro hown (And.intro hrow (And.intro hbel (And.intro b3 hc'))))
      clear hown hrow hbel b3 hc' HA hcall)
    |((with_reducible refine zbd ?_ 36 70 (.tmp 17) ?_ u c' ?_ hu i0 _ 7 hlen' (by omega) (by omega) Tryz.underlying36 hi hz0 hz1 ?_);rfl;rfl;rfl)
    |(at_builtin;refine wpList_append_own_at _ rfl _ _ 36 rfl w.heap.size 70 i0 (.agg #[.string ⟨#[]⟩,.int .i64 0,.bool false,.int .i64 0,.string ⟨#[]⟩,.string ⟨#[]⟩,.slice none 0 0]) 7 96 Tryz.underlying36 hi hz0 hz1 hz2 rfl (by decide) _ _ _ rfl (hown3.alloc _) ⟨w3.heap.size,0,none⟩ 1 1 c' rfl (by rw [hlen']) (zbp _ _ _) hone' ?_ ?_ ?_ ?_))
   all_goals (try (first |(rw [HK.out.1];unfold maxLen;omega) |(rw [HK.out.1];omega) |(simp;omega)))
   intro v' w5 hown' hgrow _ hloc
   have e9:min j l.length=j:=by omega
   rw [e9] at hown'
   have e10:=hown'
   rw [← HK.out.1] at e10
   have acc:AccE za0 70 w ((l.take (j+1)).map tell) v' w5:=by
    rw [HK.out.2]
    exact AccE.next HY.out.1 HY.out.2.1 HY.out.2.2.1 HX.out.1 HY.out.2.2.2.1 HY.out.2.2.2.2 e10 hgrow (by simpa using hloc)
   have ACC:=Lib.hid acc
   clear acc hown' hgrow hloc hown3 HY HX
   go_wp2_with fail
   go_roundg (gk - 1)
   case measure=>omega
   case rel=>exact ⟨j+1,by omega,by go_num,ACC⟩
  ·have e:l.take j=l:=by rw [List.take_of_length_le];have:=HL.out;omega
   have hA:=HA.out
   rw [e] at hA
   obtain ⟨⟨xs,hown,hrow⟩,hbel⟩:=hA
   have HX:=Lib.hid (And.intro hown (And.intro hrow hbel))
   clear hown hrow hbel HA
   go_wp2_with fail
   go_ret
   exact ⟨_,xs,rfl,HX.out.1,HX.out.2.1,HX.out.2.2⟩
set_option maxHeartbeats 3200000 in
set_option maxRecDepth 20000 in
theorem map66 (tell:zap→Int) (l:List zap) (v:Value) (w:World) (h:zak za4 w (Old w) v l) (hn:l.length≤2097152)
 (each:∀ x∈l,∀ W c,Below w.heap.size w W→za4.rel W (Old W) c x→Calls Tryz.prog 67 #[.agg c.toArray] W (zb6 intE (tell x) W)):
 Calls Tryz.prog 66 #[v,.func (.func 67) #[] #[]] w (za9 intE 2 w (l.map tell)):=by
 obtain ⟨n,hln⟩:∃ n,n=l.length:=⟨_,rfl⟩
 obtain ⟨p,cap,rfl⟩:=h.slice
 rw [← hln] at hn
 obtain ⟨i0,hi,hz0,hz1,hz2⟩:=info_parts zd6
 have HL:=Lib.hid hln
 have HH:=Lib.hid h
 have HE:=Lib.hid each
 rw [← hln]
 clear h hln each
 go_enter Tryz.func66,Tryz.ntmps66
 go_wp2_with fail
 go_loopg [5,10] n (fun gg s5 s10 wr=>∃ j:Nat,j+gg=n∧s10=.int .i64 j∧Hid (AccE intE 2 w ((l.take j).map tell) s5 wr))
 case atStart=>exact ⟨0,by omega,rfl,Lib.hid (AccE.start intE 2 w)⟩
 case round=>
  obtain ⟨j,hjg,rfl,HA⟩:=hrel
  by_cases hlt:(j:Int) < n
  ·have hj1:j < l.length:=by have:=HL.out;omega
   have hbel:=HA.out.bel
   obtain ⟨g,off,cap',c,e0,hg,hrl,hra⟩:=(HH.out.stays (zad hbel)).at_ j hj1
   injection e0 with e1 e2 e3
   subst e1
   replace hra:wr.rangeAt g (off+j*3) c:=hra
   have hlen:c.length=3:=za4.len hrl
   have hjl:((l.take j).map tell).length=j:=by rw [List.length_map,List.length_take];omega
   have etk:(l.take (j+1)).map tell=(l.take j).map tell++[tell l[j]]:=by rw [List.take_succ_eq_append_getElem hj1,List.map_append];rfl
   have hbs:=hbel.size
   have hone:=za4.one hrl
   have HR:=Lib.hid (And.intro hrl hra)
   have HK:=Lib.hid (And.intro hjl etk)
   clear hrl hra hjl etk e2 e3 hbel
   go_upto_region 5 with (first
    |((with_reducible refine zav (.tmp 12) g (off+j*3) 38 c 3 _ HR.out.2 hlen Tryz.underlying38 rfl zal ?_ ?_ ?_ ?_);rfl;rfl;rfl)
    |((with_reducible refine zah (.tmp 7) (.tmp 13) wr.heap.size 38 38 _ c 3 (zae _ _ rfl) hlen ?_ ?_ ?_ ?_ zal rfl hone ?_);rfl;rfl;rfl;rfl;intro wX oX hX))
   have bX:Below wr.heap.size wr wX:=zag (zas wr _) oX (Nat.le_refl _) (by simp)
   have bWX:Below w.heap.size w wX:=HA.out.bel.trans (bX.mono hbs)
   have hcall:=HE.out l[j] (List.getElem_mem hj1) wX c bWX (za4.stays (zad bX) HR.out.1)
   have HX:=Lib.hid (And.intro bX bWX)
   clear oX bX bWX
   go_wp2_with (first
    |((with_reducible refine zaf (.tmp 7) wr.heap.size 38 38 c 3 _ hX hlen Tryz.underlying38 rfl zal ?_ ?_ ?_ ?_);rfl;rfl;rfl)
    |(go_at_call 67;(with_reducible refine hcall.mono ?_);rintro e w3 ⟨u,c',rfl,hu,hc',b3⟩
      obtain ⟨⟨xs,hown,hrow⟩,hbel⟩:=HA.out
      replace hown:wr.ownsRow w.heap.size 2 1 _ _ xs:=hown
      have hown3:=za2 (za2 hown HX.out.1) b3
      have hlen':c'.length=1:=intE.len hc'
      have hone':=intE.one hc'
      have hsX:=HX.out.1.size
      have hs3:=b3.size
      have HY:=Lib.hid (And.intro hown (And.intro hrow (And.intro hbel (And.intro b3 hc'))))
      clear hown hrow hbel b3 hc' HA hcall)
    |((with_reducible refine zbd ?_ 42 2 (.tmp 17) ?_ u c' ?_ hu i0 _ 1 hlen' (by omega) (by omega) Tryz.underlying42 hi hz0 hz1 ?_);rfl;rfl;rfl)
    |(at_builtin;refine wpList_append_own_at _ rfl _ _ 42 rfl w.heap.size 2 i0 (.int .i64 0) 1 8 Tryz.underlying42 hi hz0 hz1 hz2 rfl (by decide) _ _ _ rfl (hown3.alloc _) ⟨w3.heap.size,0,none⟩ 1 1 c' rfl (by rw [hlen']) (zbp _ _ _) hone' ?_ ?_ ?_ ?_))
   all_goals (try (first |(rw [HK.out.1];unfold maxLen;omega) |(rw [HK.out.1];omega) |(simp;omega)))
   intro v' w5 hown' hgrow _ hloc
   have e9:min j l.length=j:=by omega
   rw [e9] at hown'
   have e10:=hown'
   rw [← HK.out.1] at e10
   have acc:AccE intE 2 w ((l.take (j+1)).map tell) v' w5:=by
    rw [HK.out.2]
    exact AccE.next HY.out.1 HY.out.2.1 HY.out.2.2.1 HX.out.1 HY.out.2.2.2.1 HY.out.2.2.2.2 e10 hgrow (by simpa using hloc)
   have ACC:=Lib.hid acc
   clear acc hown' hgrow hloc hown3 HY HX
   go_wp2_with fail
   go_roundg (gk - 1)
   case measure=>omega
   case rel=>exact ⟨j+1,by omega,by go_num,ACC⟩
  ·have e:l.take j=l:=by rw [List.take_of_length_le];have:=HL.out;omega
   have hA:=HA.out
   rw [e] at hA
   obtain ⟨⟨xs,hown,hrow⟩,hbel⟩:=hA
   have HX:=Lib.hid (And.intro hown (And.intro hrow hbel))
   clear hown hrow hbel HA
   go_wp2_with fail
   go_ret
   exact ⟨_,xs,rfl,HX.out.1,HX.out.2.1,HX.out.2.2⟩
set_option maxHeartbeats 3200000 in
set_option maxRecDepth 20000 in
theorem map68 (tell:zat→Int) (l:List zat) (v:Value) (w:World) (h:zak zaz w (Old w) v l) (hn:l.length≤2097152)
 (each:∀ x∈l,∀ W c,Below w.heap.size w W→zaz.rel W (Old W) c x→Calls Tryz.prog 69 #[.agg c.toArray] W (zb6 intE (tell x) W)):
 Calls Tryz.prog 68 #[v,.func (.func 69) #[] #[]] w (za9 intE 2 w (l.map tell)):=by
 obtain ⟨n,hln⟩:∃ n,n=l.length:=⟨_,rfl⟩
 obtain ⟨p,cap,rfl⟩:=h.slice
 rw [← hln] at hn
 obtain ⟨i0,hi,hz0,hz1,hz2⟩:=info_parts zd6
 have HL:=Lib.hid hln
 have HH:=Lib.hid h
 have HE:=Lib.hid each
 rw [← hln]
 clear h hln each
 go_enter Tryz.func68,Tryz.ntmps68
 go_wp2_with fail
 go_loopg [5,10] n (fun gg s5 s10 wr=>∃ j:Nat,j+gg=n∧s10=.int .i64 j∧Hid (AccE intE 2 w ((l.take j).map tell) s5 wr))
 case atStart=>exact ⟨0,by omega,rfl,Lib.hid (AccE.start intE 2 w)⟩
 case round=>
  obtain ⟨j,hjg,rfl,HA⟩:=hrel
  by_cases hlt:(j:Int) < n
  ·have hj1:j < l.length:=by have:=HL.out;omega
   have hbel:=HA.out.bel
   obtain ⟨g,off,cap',c,e0,hg,hrl,hra⟩:=(HH.out.stays (zad hbel)).at_ j hj1
   injection e0 with e1 e2 e3
   subst e1
   replace hra:wr.rangeAt g (off+j*5) c:=hra
   have hlen:c.length=5:=zaz.len hrl
   have hjl:((l.take j).map tell).length=j:=by rw [List.length_map,List.length_take];omega
   have etk:(l.take (j+1)).map tell=(l.take j).map tell++[tell l[j]]:=by rw [List.take_succ_eq_append_getElem hj1,List.map_append];rfl
   have hbs:=hbel.size
   have hone:=zaz.one hrl
   have HR:=Lib.hid (And.intro hrl hra)
   have HK:=Lib.hid (And.intro hjl etk)
   clear hrl hra hjl etk e2 e3 hbel
   go_upto_region 5 with (first
    |((with_reducible refine zav (.tmp 12) g (off+j*5) 41 c 5 _ HR.out.2 hlen Tryz.underlying41 rfl zan ?_ ?_ ?_ ?_);rfl;rfl;rfl)
    |((with_reducible refine zah (.tmp 7) (.tmp 13) wr.heap.size 41 41 _ c 5 (zae _ _ rfl) hlen ?_ ?_ ?_ ?_ zan rfl hone ?_);rfl;rfl;rfl;rfl;intro wX oX hX))
   have bX:Below wr.heap.size wr wX:=zag (zas wr _) oX (Nat.le_refl _) (by simp)
   have bWX:Below w.heap.size w wX:=HA.out.bel.trans (bX.mono hbs)
   have hcall:=HE.out l[j] (List.getElem_mem hj1) wX c bWX (zaz.stays (zad bX) HR.out.1)
   have HX:=Lib.hid (And.intro bX bWX)
   clear oX bX bWX
   go_wp2_with (first
    |((with_reducible refine zaf (.tmp 7) wr.heap.size 41 41 c 5 _ hX hlen Tryz.underlying41 rfl zan ?_ ?_ ?_ ?_);rfl;rfl;rfl)
    |(go_at_call 69;(with_reducible refine hcall.mono ?_);rintro e w3 ⟨u,c',rfl,hu,hc',b3⟩
      obtain ⟨⟨xs,hown,hrow⟩,hbel⟩:=HA.out
      replace hown:wr.ownsRow w.heap.size 2 1 _ _ xs:=hown
      have hown3:=za2 (za2 hown HX.out.1) b3
      have hlen':c'.length=1:=intE.len hc'
      have hone':=intE.one hc'
      have hsX:=HX.out.1.size
      have hs3:=b3.size
      have HY:=Lib.hid (And.intro hown (And.intro hrow (And.intro hbel (And.intro b3 hc'))))
      clear hown hrow hbel b3 hc' HA hcall)
    |((with_reducible refine zbd ?_ 42 2 (.tmp 17) ?_ u c' ?_ hu i0 _ 1 hlen' (by omega) (by omega) Tryz.underlying42 hi hz0 hz1 ?_);rfl;rfl;rfl)
    |(at_builtin;refine wpList_append_own_at _ rfl _ _ 42 rfl w.heap.size 2 i0 (.int .i64 0) 1 8 Tryz.underlying42 hi hz0 hz1 hz2 rfl (by decide) _ _ _ rfl (hown3.alloc _) ⟨w3.heap.size,0,none⟩ 1 1 c' rfl (by rw [hlen']) (zbp _ _ _) hone' ?_ ?_ ?_ ?_))
   all_goals (try (first |(rw [HK.out.1];unfold maxLen;omega) |(rw [HK.out.1];omega) |(simp;omega)))
   intro v' w5 hown' hgrow _ hloc
   have e9:min j l.length=j:=by omega
   rw [e9] at hown'
   have e10:=hown'
   rw [← HK.out.1] at e10
   have acc:AccE intE 2 w ((l.take (j+1)).map tell) v' w5:=by
    rw [HK.out.2]
    exact AccE.next HY.out.1 HY.out.2.1 HY.out.2.2.1 HX.out.1 HY.out.2.2.2.1 HY.out.2.2.2.2 e10 hgrow (by simpa using hloc)
   have ACC:=Lib.hid acc
   clear acc hown' hgrow hloc hown3 HY HX
   go_wp2_with fail
   go_roundg (gk - 1)
   case measure=>omega
   case rel=>exact ⟨j+1,by omega,by go_num,ACC⟩
  ·have e:l.take j=l:=by rw [List.take_of_length_le];have:=HL.out;omega
   have hA:=HA.out
   rw [e] at hA
   obtain ⟨⟨xs,hown,hrow⟩,hbel⟩:=hA
   have HX:=Lib.hid (And.intro hown (And.intro hrow hbel))
   clear hown hrow hbel HA
   go_wp2_with fail
   go_ret
   exact ⟨_,xs,rfl,HX.out.1,HX.out.2.1,HX.out.2.2⟩
set_option maxHeartbeats 3200000 in
set_option maxRecDepth 20000 in
theorem map118 (tell:zax→ByteArray) (l:List zax) (v:Value) (w:World) (h:zak za0 w (Old w) v l) (hn:l.length≤2097152)
 (each:∀ x∈l,∀ W c,Below w.heap.size w W→za0.rel W (Old W) c x→Calls Tryz.prog 119 #[.agg c.toArray] W (zb6 zbq (tell x) W)):
 Calls Tryz.prog 118 #[v,.func (.func 119) #[] #[]] w (za9 zbq 9 w (l.map tell)):=by
 obtain ⟨n,hln⟩:∃ n,n=l.length:=⟨_,rfl⟩
 obtain ⟨p,cap,rfl⟩:=h.slice
 rw [← hln] at hn
 obtain ⟨i0,hi,hz0,hz1,hz2⟩:=info_parts zex
 have HL:=Lib.hid hln
 have HH:=Lib.hid h
 have HE:=Lib.hid each
 rw [← hln]
 clear h hln each
 go_enter Tryz.func118,Tryz.ntmps118
 go_wp2_with fail
 go_loopg [5,10] n (fun gg s5 s10 wr=>∃ j:Nat,j+gg=n∧s10=.int .i64 j∧Hid (AccE zbq 9 w ((l.take j).map tell) s5 wr))
 case atStart=>exact ⟨0,by omega,rfl,Lib.hid (AccE.start zbq 9 w)⟩
 case round=>
  obtain ⟨j,hjg,rfl,HA⟩:=hrel
  by_cases hlt:(j:Int) < n
  ·have hj1:j < l.length:=by have:=HL.out;omega
   have hbel:=HA.out.bel
   obtain ⟨g,off,cap',c,e0,hg,hrl,hra⟩:=(HH.out.stays (zad hbel)).at_ j hj1
   injection e0 with e1 e2 e3
   subst e1
   replace hra:wr.rangeAt g (off+j*7) c:=hra
   have hlen:c.length=7:=za0.len hrl
   have hjl:((l.take j).map tell).length=j:=by rw [List.length_map,List.length_take];omega
   have etk:(l.take (j+1)).map tell=(l.take j).map tell++[tell l[j]]:=by rw [List.take_succ_eq_append_getElem hj1,List.map_append];rfl
   have hbs:=hbel.size
   have hone:=za0.one hrl
   have HR:=Lib.hid (And.intro hrl hra)
   have HK:=Lib.hid (And.intro hjl etk)
   clear hrl hra hjl etk e2 e3 hbel
   go_upto_region 5 with (first
    |((with_reducible refine zav (.tmp 12) g (off+j*7) 70 c 7 _ HR.out.2 hlen Tryz.underlying70 rfl zbb ?_ ?_ ?_ ?_);rfl;rfl;rfl)
    |((with_reducible refine zah (.tmp 7) (.tmp 13) wr.heap.size 70 70 _ c 7 (zae _ _ rfl) hlen ?_ ?_ ?_ ?_ zbb rfl hone ?_);rfl;rfl;rfl;rfl;intro wX oX hX))
   have bX:Below wr.heap.size wr wX:=zag (zas wr _) oX (Nat.le_refl _) (by simp)
   have bWX:Below w.heap.size w wX:=HA.out.bel.trans (bX.mono hbs)
   have hcall:=HE.out l[j] (List.getElem_mem hj1) wX c bWX (za0.stays (zad bX) HR.out.1)
   have HX:=Lib.hid (And.intro bX bWX)
   clear oX bX bWX
   go_wp2_with (first
    |((with_reducible refine zaf (.tmp 7) wr.heap.size 70 70 c 7 _ hX hlen Tryz.underlying70 rfl zbb ?_ ?_ ?_ ?_);rfl;rfl;rfl)
    |(go_at_call 119;(with_reducible refine hcall.mono ?_);rintro e w3 ⟨u,c',rfl,hu,hc',b3⟩
      obtain ⟨⟨xs,hown,hrow⟩,hbel⟩:=HA.out
      replace hown:wr.ownsRow w.heap.size 9 1 _ _ xs:=hown
      have hown3:=za2 (za2 hown HX.out.1) b3
      have hlen':c'.length=1:=zbq.len hc'
      have hone':=zbq.one hc'
      have hsX:=HX.out.1.size
      have hs3:=b3.size
      have HY:=Lib.hid (And.intro hown (And.intro hrow (And.intro hbel (And.intro b3 hc'))))
      clear hown hrow hbel b3 hc' HA hcall)
    |((with_reducible refine zbd ?_ 35 9 (.tmp 17) ?_ u c' ?_ hu i0 _ 1 hlen' (by omega) (by omega) Tryz.underlying35 hi hz0 hz1 ?_);rfl;rfl;rfl)
    |(at_builtin;refine wpList_append_own_at _ rfl _ _ 35 rfl w.heap.size 9 i0 (.string ⟨#[]⟩) 1 16 Tryz.underlying35 hi hz0 hz1 hz2 rfl (by decide) _ _ _ rfl (hown3.alloc _) ⟨w3.heap.size,0,none⟩ 1 1 c' rfl (by rw [hlen']) (zbp _ _ _) hone' ?_ ?_ ?_ ?_))
   all_goals (try (first |(rw [HK.out.1];unfold maxLen;omega) |(rw [HK.out.1];omega) |(simp;omega)))
   intro v' w5 hown' hgrow _ hloc
   have e9:min j l.length=j:=by omega
   rw [e9] at hown'
   have e10:=hown'
   rw [← HK.out.1] at e10
   have acc:AccE zbq 9 w ((l.take (j+1)).map tell) v' w5:=by
    rw [HK.out.2]
    exact AccE.next HY.out.1 HY.out.2.1 HY.out.2.2.1 HX.out.1 HY.out.2.2.2.1 HY.out.2.2.2.2 e10 hgrow (by simpa using hloc)
   have ACC:=Lib.hid acc
   clear acc hown' hgrow hloc hown3 HY HX
   go_wp2_with fail
   go_roundg (gk - 1)
   case measure=>omega
   case rel=>exact ⟨j+1,by omega,by go_num,ACC⟩
  ·have e:l.take j=l:=by rw [List.take_of_length_le];have:=HL.out;omega
   have hA:=HA.out
   rw [e] at hA
   obtain ⟨⟨xs,hown,hrow⟩,hbel⟩:=hA
   have HX:=Lib.hid (And.intro hown (And.intro hrow hbel))
   clear hown hrow hbel HA
   go_wp2_with fail
   go_ret
   exact ⟨_,xs,rfl,HX.out.1,HX.out.2.1,HX.out.2.2⟩
end Go.Proofs.YtcfmenkigolnoaaGreatDoor
