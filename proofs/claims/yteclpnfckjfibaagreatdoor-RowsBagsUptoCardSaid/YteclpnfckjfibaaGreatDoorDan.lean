/- Texts of one kind, one behind the other: each says ahead of itself what it shows. -/
import Derived.Test.YteclpnfckjfibaaGreatDoorDam
import Derived.Test.YteclpnfckjfibaaGreatDoorDah
/- JA -/
namespace Go.Proofs
open Go.Shelf
namespace YteclpnfckjfibaaGreatDoor
open Go.RowKit
def IsC (w:World) (g:Nat):Prop:=∃ o,w.heap[g]?=some o∧o.isCells=true
theorem zn7 {w:World} {g:Nat} {c:Array Value} {t:TypeId} {f:Nat × Nat} (h:w.heap[g]?=some (.cells c t f)):IsC w g:=⟨_,h,rfl⟩
theorem zut {w:World} {g o:Nat} {v:Value} (h:w.cell? ⟨g,o,none⟩=some v):IsC w g:=by
 have hb:=World.block_lt_of_cell? w (a:=⟨g,o,none⟩) h
 cases hh:w.heap[g]? with
 | none=>rw [Array.getElem?_eq_none_iff] at hh;exact absurd hb (by simpa using hh)
 | some ob=>
   refine ⟨ob,hh,?_⟩
   cases ob with
   | cells c t=>rfl
   | _=>simp [World.cell?,hh] at h
theorem IsC.keep {w w':World} {g:Nat} (h:IsC w g) (e:w'.heap[g]?=w.heap[g]?):IsC w' g:=by
 obtain ⟨o,h1,h2⟩:=h
 exact ⟨o,e.trans h1,h2⟩
mutual
theorem zbb.isC {w:World} {P:Nat→Prop} {g off:Nat}:(v:Val)→zbb w P g off v→zbb w (fun g=>P g∧IsC w g) g off v
 | .mk k b n t x l,h=>by
   unfold zbb at h ⊢
   obtain ⟨h0,h1,h2,h3,h4,hf,L,h5,hl⟩:=h
   exact ⟨h0,h1,h2,h3,h4,hf,L,h5,zbe.isC l hl⟩
theorem zbe.isC {w:World} {P:Nat→Prop} {L:Value}:(l:List Val)→zbe w P L l→zbe w (fun g=>P g∧IsC w g) L l
 | [],h=>by
   unfold zbe at h ⊢
   exact h
 | v::r,h=>by
   unfold zbe at h ⊢
   obtain ⟨g,off,cap,e,hg,hv,hr⟩:=h
   refine ⟨g,off,cap,e,⟨hg,?_⟩,zbb.isC v hv,zb5.isC r hr⟩
   obtain ⟨k,b,n,t,x,q⟩:=v
   unfold zbb at hv
   exact zut hv.1
theorem zb5.isC {w:World} {P:Nat→Prop} {g off:Nat}:(l:List Val)→zb5 w P g off l→zb5 w (fun g=>P g∧IsC w g) g off l
 | [],_=>by unfold zb5;trivial
 | v::r,h=>by
   unfold zb5 at h ⊢
   exact ⟨zbb.isC v h.1,zb5.isC r h.2⟩
end
theorem zuu {w:World} {P:Nat→Prop}:{xs:List Value}→(l:List Val)→RowE valE w P xs l→RowE valE w (fun g=>P g∧IsC w g) xs l
 | _,[],h=>by unfold RowE at h ⊢;exact h
 | _,a::l,h=>by
   unfold RowE at h ⊢
   obtain ⟨c,ys,rfl,hc,hr⟩:=h
   refine ⟨c,ys,rfl,?_,zuu l hr⟩
   obtain ⟨k,b,n,t,x,q⟩:=a
   obtain ⟨L,e,hf,hq⟩:=hc
   exact ⟨L,e,hf,zbe.isC q hq⟩
theorem zwd {α:Type} {E:Elem α} {w:World} {P:Nat→Prop} {g off:Nat} {xs:List Value} {l:List α} (hk:0 < E.k) (hr:w.rangeAt g off xs) (he:RowE E w P xs l) (hne:l≠[]):IsC w g:=by
 have hl:=RowE.len l he
 cases xs with
 | nil=>
   cases l with
   | nil=>exact absurd rfl hne
   | cons a l=>
     simp only [List.length_nil,List.length_cons,Nat.add_mul,Nat.one_mul] at hl
     omega
 | cons x xs=>exact zut (hr 0 x rfl)
theorem zai.isC {w:World} {P:Nat→Prop} {v:Value} {l:List Val} (h:zai valE w P v l):zai valE w (fun g=>P g∧IsC w g) v l:=by
 obtain ⟨p,cap,rfl,h⟩:=h
 refine ⟨p,cap,rfl,fun hne=>?_⟩
 obtain ⟨g,off,xs,rfl,hg,hr,he⟩:=h hne
 exact ⟨g,off,xs,rfl,⟨hg,zwd (by decide) hr he hne⟩,hr,zuu l he⟩
theorem z2c {w:World} {P:Nat→Prop} {c:List Value} {r:List Val} (h:rowE.rel w P c r):rowE.rel w (fun g=>P g∧IsC w g) c r:=by
 obtain ⟨v,e,hs,hc,hl⟩:=h
 exact ⟨v,e,hs.isC,hc,hl⟩
theorem zuv {w w':World} {P P':Nat→Prop}:{xs:List Value}→(l:List Int)→RowE intE w P xs l→RowE intE w' P' xs l
 | _,[],h=>by unfold RowE at h ⊢;exact h
 | _,a::l,h=>by
   unfold RowE at h ⊢
   obtain ⟨c,ys,rfl,hc,hr⟩:=h
   exact ⟨c,ys,rfl,hc,zuv l hr⟩
theorem zai.ints_off {w:World} {P:Nat→Prop} {v:Value} {l:List Int} {jb:Nat} {c:Array Value} {t:TypeId} (h:zai intE w P v l) (hj:w.heap[jb]?=some (.cells c t)) (hc:∀ (i:Nat) (z:Int),c[i]?≠some (.int .i64 z)):zai intE w (fun k=>P k∧k≠jb) v l:=by
 obtain ⟨p,cap,rfl,h⟩:=h
 refine ⟨p,cap,rfl,fun hne=>?_⟩
 obtain ⟨g,off,xs,rfl,hg,hr,he⟩:=h hne
 refine ⟨g,off,xs,rfl,⟨hg,?_⟩,hr,zuv l he⟩
 rintro rfl
 cases l with
 | nil=>exact hne rfl
 | cons z l=>
   unfold RowE at he
   obtain ⟨c',ys,rfl,⟨rfl,_⟩,_⟩:=he
   have:=hr 0 (.int .i64 z) rfl
   simp only [World.cell?,hj] at this
   exact hc _ z (by simpa using this)
theorem IxIn.off {sh:List (Nat × Nat)} {rows:List (List Val)} {A B R:Value} {mb:Nat} {L:Value} {P P':Nat→Prop} {w:World} {jb:Nat} {c:Array Value} {t:TypeId} (h:IxIn sh rows A B R mb L P w) (hj:w.heap[jb]?=some (.cells c t)) (hc:∀ (i:Nat) (z:Int),c[i]?≠some (.int .i64 z))
 (hR:zai rowE w P' R rows) (hP:∀ g,P g→g≠jb→P' g):IxIn sh rows A B R mb L P' w:=by
 obtain ⟨h1,h2,⟨h0,n,f,h3,h4,h5⟩,h6,h7⟩:=h
 have go:∀ {v:Value} {l:List Int},zai intE w P v l→zai intE w P' v l:=fun q=>(q.ints_off hj hc).stays fun g hg=>⟨hP g hg.1 hg.2,rfl⟩
 have hmb:mb≠jb:=by
  rintro rfl
  obtain ⟨D,⟨es,cl,e,_⟩,_⟩:=h4
  rw [hj] at e
  cases e
 exact ⟨⟨go h1.a,go h1.b⟩,hR,⟨hP _ h0 hmb,n,f,h3,h4,fun x=>⟨go (h5 x).1,(h5 x).2⟩⟩,go h6,h7⟩
structure JI (W0:World) (jb:Nat) (V Rj:Value) (bs:List (List Val)) (W:World):Prop where
 cell:W.heap[jb]?=some (.cells #[V,Rj] 25)
 own:∃ xs Q,W.ownsRow W0.heap.size 43 1 Rj bs.length xs∧RowE rowE W Q xs bs∧∀ g,Q g→W0.heap.size≤g∧g < W.heap.size∧Rj.ownBlock≠some g∧IsC W g
 kept:Kept (fun i=>i=jb) W0 W
theorem JI.stay {W0 W W':World} {jb:Nat} {V Rj:Value} {bs:List (List Val)} (h:JI W0 jb V Rj bs W) (hj:jb < W0.heap.size) (hk:∀ g,g < W.heap.size→(g < W0.heap.size∨IsC W g)→W'.heap[g]?=W.heap[g]?) (hs:W.heap.size≤W'.heap.size) (ho:W'.os=W.os) (ht:W'.tape=W.tape) (hu:W'.output=W.output):JI W0 jb V Rj bs W':=by
 obtain ⟨hc,⟨xs,Q,h1,h2,h3⟩,h4⟩:=h
 have hjc:=(hk jb (zaa hc) (.inl hj)).trans hc
 refine ⟨hjc,⟨xs,Q,zbf h1 fun g e=>?_,h2.stays (fun g hg=>⟨hg,hk g (h3 g hg).2.1 (.inr (h3 g hg).2.2.2)⟩),fun g hg=>?_⟩,?_⟩
 ·refine hk g (h1.lt g e).2 (.inr ?_)
  rcases h1.2 with ⟨rfl,_⟩ | ⟨g',cap,cur,rfl,_,hh,_⟩
  ·cases e
  ·obtain rfl:g'=g:=by simpa [Value.ownBlock] using e
   exact zn7 hh
 ·obtain ⟨a,b,c,d⟩:=h3 g hg
  exact ⟨a,Nat.lt_of_lt_of_le b hs,c,d.keep (hk g b (.inr d))⟩
 ·exact ⟨ho.trans h4.os,ht.trans h4.tape,hu.trans h4.output,Nat.le_trans h4.size hs,fun i hi hf=>(hk i (Nat.lt_of_lt_of_le hi h4.size) (.inl hi)).trans (h4.block i hi hf)⟩
theorem JI.below {W0 W W':World} {jb:Nat} {V Rj:Value} {bs:List (List Val)} (h:JI W0 jb V Rj bs W) (hj:jb < W0.heap.size) (b:Below W.heap.size W W'):JI W0 jb V Rj bs W':=
 h.stay hj (fun g hg _=>b.block g hg) b.size b.os b.tape b.output
theorem JI.grown {W0 W W':World} {jb:Nat} {V Rj:Value} {bs:List (List Val)} {r:Option Nat} (h:JI W0 jb V Rj bs W) (hj:jb < W0.heap.size) (g:W.grownBy W' r) (hr:∀ i,r=some i→W0.heap.size≤i∧∃ o,W.heap[i]?=some o∧o.isCells=false):JI W0 jb V Rj bs W':=
 h.stay hj (fun i hi hc=>g.block i hi fun e=>by
  obtain ⟨h1,o,h2,h3⟩:=hr i e.symm
  rcases hc with hc | ⟨o',h4,h5⟩
  ·omega
  ·rw [h2] at h4
   cases h4
   rw [h3] at h5
   cases h5) g.size g.os g.tape g.output
theorem JI.next {W0 W w3 w5:World} {jb:Nat} {V Rj R2:Value} {xs c:List Value} {Q:Nat→Prop} {bs:List (List Val)} {b:List Val} {o:Obj} (hcell:W.heap[jb]?=some (.cells #[V,Rj] 25)) (hown:W.ownsRow W0.heap.size 43 1 Rj bs.length xs) (hrow:RowE rowE W Q xs bs)
 (hq:∀ g,Q g→W0.heap.size≤g∧g < W.heap.size∧Rj.ownBlock≠some g∧IsC W g) (hk:Kept (fun i=>i=jb) W0 W) (hj:jb < W0.heap.size) (b3:Below W.heap.size W w3) (hc:rowE.rel w3 (New W w3) c b)
 (hown':w5.ownsRow W0.heap.size 43 1 R2 (bs.length+1) (xs++c)) (hg:(w3.alloc o).grownBy w5 Rj.ownBlock) (hloc:R2.ownBlock=Rj.ownBlock∨R2.ownBlock=some (w3.alloc o).heap.size):JI W0 jb V R2 (bs++[b]) (w5.setCell ⟨jb,1,none⟩ R2):=by
 have sz:(w3.alloc o).heap.size=w3.heap.size+1:=by simp
 have hjW:=zaa hcell
 have h3s:=b3.size
 have h5s:=hg.size
 have hset:∀ i,i≠jb→(w5.setCell ⟨jb,1,none⟩ R2).heap[i]?=w5.heap[i]?:=fun i h=>Below.heap_setCell _ _ _ _ h
 have blk:∀ g,g < w3.heap.size→Rj.ownBlock≠some g→w5.heap[g]?=w3.heap[g]?:=fun g h1 h2=>(hg.block g (by omega) (fun e=>h2 e.symm)).trans (Below.heap_alloc _ _ _ h1)
 have oR:∀ g,Rj.ownBlock=some g→W0.heap.size≤g:=fun g e=>(hown.lt g e).1
 have oR':∀ g,Rj.ownBlock=some g→g < W.heap.size:=fun g e=>(hown.lt g e).2
 have c5:w5.heap[jb]?=some (.cells #[V,Rj] 25):=(blk jb (by omega) (fun e=>by have:=oR jb e;omega)).trans ((b3.block jb hjW).trans hcell)
 have hc2:=z2c hc
 refine ⟨zb8 c5 1 _,⟨xs++c,fun g=>Q g∨(New W w3 g∧IsC w3 g),?_,?_,fun g hg'=>?_⟩,?_⟩
 ·have:=zbf hown' (w':=w5.setCell ⟨jb,1,none⟩ R2) (fun g e=>hset g (by have:=(hown'.lt g e).1;omega))
  simpa using this
 ·refine RowE.append bs [b] (hrow.stays (fun g h=>⟨.inl h,?_⟩) bs) (RowE.single (rowE.stays (fun g h=>⟨.inr h,?_⟩) hc2))
  ·obtain ⟨a1,a2,a3,_⟩:=hq g h
   exact (hset g (by omega)).trans ((blk g (by omega) a3).trans (b3.block g a2))
  ·have h1:=h.1.1
   have h2:=h.1.2
   exact (hset g (by omega)).trans (blk g h2 (fun e=>by have:=oR' g e;omega))
 ·have hno:∀ g,W0.heap.size≤g→g < w3.heap.size→Rj.ownBlock≠some g→R2.ownBlock≠some g:=fun g _ h2 h3 e=>by
   rcases hloc with q | q
   ·exact h3 (q.symm.trans e)
   ·rw [q] at e
    have:=Option.some.inj e
    omega
  rcases hg' with h | h
  ·obtain ⟨a1,a2,a3,a4⟩:=hq g h
   exact ⟨a1,by rw [World.size_setCell];omega,hno g a1 (by omega) a3,a4.keep ((hset g (by omega)).trans ((blk g (by omega) a3).trans (b3.block g a2)))⟩
  ·have h1:=h.1.1
   have h2:=h.1.2
   have hks:=hk.size
   exact ⟨by omega,by rw [World.size_setCell];omega,hno g (by omega) h2 (fun e=>by have:=oR' g e;omega),h.2.keep ((hset g (by omega)).trans (blk g h2 (fun e=>by have:=oR' g e;omega)))⟩
 ·exact (((hk.below b3).alloc o).grown hg (fun i e h=>absurd (oR i e) (by omega))).set (p:=⟨jb,1,none⟩) rfl _
def OwJ (jb:Nat) (W:World) (k:Nat):Prop:=k=jb∨∃ V R,W.heap[jb]?=some (.cells #[V,R] 25)∧R.ownBlock=some k
theorem zzq {jb N:Nat} (h:jb < N):OwN N (OwJ jb):=fun A B k b x=>by
 rcases x with rfl | ⟨V,R,h1,h2⟩
 ·exact .inl rfl
 ·exact .inr ⟨V,R,(b.block jb h).symm.trans h1,h2⟩
end YteclpnfckjfibaaGreatDoor
end Go.Proofs

/- JB -/
namespace Go.Proofs
open Go.Shelf
namespace YteclpnfckjfibaaGreatDoor
open Go.RowKit
attribute [local go_sem] Oper.semAt_some
section
variable {F:Fence} {n:Nat} {ops:Array Oper} {rest:List Oper} {o:Oper} {a:Act} {w:World} {Q:Exit→Act→World→Prop}
theorem zrs (hF:∀ f,F.fn f) (hw:Region.wanted o (yielded ops a.tmps)=true) (hd:∀ c,o.op≠.defer c) {w':World} (hr:(execOp a.eval o).run Tryz.prog w=.ok .skip w')
 (h:wpListIn F n Tryz.prog ops Q rest (a.put o.dst undef) w'):wpListIn F n Tryz.prog ops Q (o::rest) a w:=
 wpListIn_step fun K hK=>by
  rw [if_pos hw]
  exact ⟨fun f _=>hF f,by rw [Oper.semAt_plain F _ _ hd,hr];exact hK _ _ h⟩
theorem zi9 (hF:∀ f,F.fn f) (x:Operand) (g:Nat) (V R:Value) (hg:w.heap[g]?=some (.cells #[V,R] 25))
 (hw:Region.wanted o (yielded ops a.tmps)=true) (ho:o.op=.load 25 x) (hx:a.eval x=.pointer (some ⟨g,0,none⟩))
 (h:wpListIn F n Tryz.prog ops Q rest (a.put o.dst (.agg #[V,R])) w):wpListIn F n Tryz.prog ops Q (o::rest) a w:=
 zia hF _ _ hw (by rw [ho];intro c hc;cases hc) (by
  unfold execOp
  simp only [ho,hx,Instr.loadAt,Instr.sureAddr,Sem.run_bind,Sem.run_pure,Result.andThen_ok,run_loadVar_row (P:=Tryz.prog) w g 25 25 _ (0,0) _ hg Tryz.underlying25 rfl zag]) h
theorem zco (hF:∀ f,F.fn f) (x y:Operand) (g:Nat) (t ty:TypeId) (old:Array Value) (cs:List Value) (k:Nat) (hg:w.heap[g]?=some (.cells old t (0,0)))
 (hk:cs.length=k) (hw:Region.wanted o (yielded ops a.tmps)=true) (ho:o.op=.store ty x y) (hx:a.eval x=.pointer (some ⟨g,0,none⟩)) (hy:a.eval y=.agg cs.toArray) (hi:(Tryz.prog.info? ty).map (·.size)=some k) (hold:old.size=k) (h1:∀ u∈cs,u.oneCell'=true)
 (h:∀ w',Only g w w'→w'.heap[g]?=some (.cells cs.toArray t (0,0))→wpListIn F n Tryz.prog ops Q rest (a.put o.dst undef) w'):wpListIn F n Tryz.prog ops Q (o::rest) a w:=
 zrs hF hw (by rw [ho];intro c hc;cases hc) (by
  unfold execOp
  simp only [ho,hx,hy,Instr.storeAt,Instr.sureAddr,Sem.run_bind,Sem.run_pure,Result.andThen_ok,run_storeVar_row (P:=Tryz.prog) w g t ty old cs.toArray hg (by rw [hi];simp [hk]) (by simp [hk,hold]) (all_oneCell_toArray h1)]) (h _ (Only.setRow w _) (zdd hg))
end
theorem ztf {F:Fence} {n:Nat} {c:Code} {K:Act→World→Prop} {Q':Exit→Act→World→Prop} {a:Act} {w:World} (h:c.wpIn F n Tryz.prog (Exit.then K (fun _ _ _=>False)) a w):c.wpIn F n Tryz.prog (Exit.then K Q') a w:=
 wpIn_mono h fun e a w hq=>by cases e <;> first | exact hq | exact hq.elim
theorem ztg {P:Program} {o:Oper} {a:Act} {w:World} {K:Act→World→Prop} {Q:Exit→Act→World→Prop} (t e:TypeId) (x:Operand) (ho:o.op=.buildSlice t 1 #[(0,x)])
 (v:Value) (cs:List Value) (hx:a.eval x=v) (hv:v.cells=cs.toArray) (ie:TypeInfo) (z:Value) (k:Nat) (hk:cs.length=k) (k0:0 < k) (k1:k≤1000)
 (hu:P.underlying t=some (.slice e)) (hie:P.info? e=some ie) (hz:ie.zero=some z) (hsz:ie.size=k)
 (h:K (a.put o.dst (.slice (some ⟨w.heap.size,0,none⟩) 1 1)) (w.alloc (.cells cs.toArray e))):o.wp P a w K Q:=by
 refine wp_buildSlice t e 1 _ ho cs.toArray ie z hu hie hz (by rw [hsz];omega) (by rw [hsz];omega) ?_ h
 have f:=Great.fill_whole k0 [v] ((Array.range (1*ie.size)).map (z.cells[· % z.cells.size]!)) (fun u hu=>by simp at hu;subst hu;rw [hv];simpa using hk) (by simp [hsz])
 rw [hsz] at f ⊢
 simpa [hx,hv] using f
theorem zwe {F:Fence} {n:Nat} {Q:Exit→Act→World→Prop} (hF:zk8 F) (hQ:¬ LetsOut Q) {id:Nat} {ops:Array Oper} (hd:(ops.all fun o=>match o.op with | .defer _=>false | _=>true)=true) {S:World→Prop} (T:Nat→Bool) {a:Act} {w:World} (hm:Tryz.prog.follows .mixedOrders=true) (hS:S w.drew)
 (h:S w.drew→zeo Tryz.prog .any ops Q S T ops.size (Array.replicate ops.size false) a w.drew):(Code.region id ops true).wpIn F n Tryz.prog Q a w:=by
 refine wpIn_region_any hm (zqn hF hQ (fun i o ho c hc=>?_) _ _ _ _ (zfr _ _ _ _ (h hS)))
 have:=(Array.all_eq_true_iff_forall_mem.1 hd) o (Array.mem_of_getElem? ho)
 rw [hc] at this
 cases this
def mkD (D:Nat):Deferred:={ target:=.collected D,args:=#[] }
structure zwf (B:Nat) (Ds:List Nat) (w:World):Prop where
 at_:∀ D∈Ds,B≤D∧w.heap[D]?=some (.deferred (some []))
 nodup:Ds.Nodup
theorem zwf.keep {B:Nat} {Ds:List Nat} {w w':World} (h:zwf B Ds w) (k:∀ D∈Ds,w'.heap[D]?=w.heap[D]?):zwf B Ds w':=⟨fun D hD=>⟨(h.at_ D hD).1,(k D hD).trans (h.at_ D hD).2⟩,h.nodup⟩
theorem zml {F:Fence} {n:Nat} {fn:Func} {tmps:Array Value} {R:Ending→World→Prop} {u:FrameMode} (hu:u≠.run):(Ds:List Nat)→(w:World)→(∀ D∈Ds,w.heap[D]?=some (.deferred (some [])))→Ds.Nodup→
 (∀ w',w'.heap.size=w.heap.size→w'.os=w.os→w'.tape=w.tape→w'.output=w.output→(∀ g,g ∉ Ds→w'.heap[g]?=w.heap[g]?)→LeavesInM F n Tryz.prog fn tmps R [] u w')→LeavesInM F n Tryz.prog fn tmps R (Ds.map mkD) u w
 | [],w,_,_,h=>h w rfl rfl rfl rfl (fun _ _=>rfl)
 | D::Ds,w,hd,hn,h=>by
   have hD:=hd D (by simp)
   have hlt:=zaa hD
   have hn2:=List.nodup_cons.1 hn
   refine ⟨hu,.inl ⟨D,w.putObj D (.deferred none),rfl,run_takeDeferred hD,?_⟩⟩
   refine zml hu Ds _ (fun E hE=>(World.putObj_heap_other (fun e=>hn2.1 (by rw [← e];exact hE))).trans (hd E (by simp [hE]))) hn2.2 (fun w' h1 h2 h3 h4 h5=>?_)
   have hb:=belowK_b (n₀:=D) (w:=w) (by omega) w D (.deferred (some [])) (.deferred none)
   refine h w' (h1.trans (by simp [World.putObj])) (h2.trans rfl) (h3.trans rfl) (h4.trans rfl) (fun g hg=>?_)
   exact (h5 g (fun q=>hg (by simp [q]))).trans (World.putObj_heap_other (fun e=>hg (by simp [e])))
theorem src_ok (vs ta tb:List ByteArray):∀ s∈srcP vs ta tb,zmr ta.length s.1∧zmr tb.length s.2:=by
 intro s hs
 obtain ⟨v,_,rfl⟩:=List.mem_map.1 hs
 constructor
 ·show zmr ta.length (zcx (zbl v ta))
  cases h:zbl v ta with
  | none=>exact .inl rfl
  | some k=>exact .inr ⟨k,rfl,zfg h⟩
 ·show zmr tb.length (zcx (zbl v tb))
  cases h:zbl v tb with
  | none=>exact .inl rfl
  | some k=>exact .inr ⟨k,rfl,zfg h⟩
def zib (src:List (Int × Int)) (x y:List Val):List Val:=src.map (zrb x y)
def zl2 (sh:List (Nat × Nat)) (src:List (Int × Int)) (rows:List (List Val)) (x:List Val):List (List Val):=(fitN sh x rows).map fun j=>zib src x (rows.getD j [])
def zbn (sh:List (Nat × Nat)) (src:List (Int × Int)) (rowsA rowsB:List (List Val)):List (List Val):=rowsA.flatMap (zl2 sh src rowsB)
def zon (a b:TabL):TabL:=
 if (tabP a && tabP b)=true∧(za0 a.vars b.vars).length≤64 then ⟨za0 a.vars b.vars,zbn (za4 a.vars b.vars) (srcP (za0 a.vars b.vars) a.vars b.vars) a.rows b.rows⟩ else ⟨[],[]⟩
theorem zqp {sh:List (Nat × Nat)} {src:List (Int × Int)} {rowsA rowsB:List (List Val)} {j:Nat} (h:j < rowsA.length):zbn sh src (rowsA.take (j+1)) rowsB=zbn sh src (rowsA.take j) rowsB++zl2 sh src rowsB (rowsA[j]'h):=by
 unfold zbn
 rw [List.take_succ_eq_append_getElem h,List.flatMap_append]
 simp
theorem zrt {sh:List (Nat × Nat)} {src:List (Int × Int)} {rowsA rowsB:List (List Val)} (j:Nat):(zbn sh src (rowsA.take j) rowsB).length≤(zbn sh src rowsA rowsB).length:=by
 have h:zbn sh src rowsA rowsB=zbn sh src (rowsA.take j) rowsB++zbn sh src (rowsA.drop j) rowsB:=by
  unfold zbn
  rw [← List.flatMap_append,List.take_append_drop]
 rw [h,List.length_append]
 omega
theorem own_isC {w:World} {base size n g:Nat} {e:TypeId} {v:Value} {xs:List Value} (h:w.ownsRow base e size v n xs) (hv:v.ownBlock=some g):IsC w g:=by
 rcases h.2 with ⟨rfl,_⟩ | ⟨g',cap,cur,rfl,_,hh,_⟩
 ·cases hv
 ·obtain rfl:g'=g:=by simpa [Value.ownBlock] using hv
  exact zn7 hh
theorem zru {W0 W w3 w5:World} {jb N B nJ:Nat} {V Rj R2:Value} {xs:List Value} {o:Obj} (hcell:W.heap[jb]?=some (.cells #[V,Rj] 25)) (hown:W.ownsRow W0.heap.size 43 1 Rj nJ xs) (b3:Below W.heap.size W w3)
 (hg:(w3.alloc o).grownBy w5 Rj.ownBlock) (hloc:R2.ownBlock=Rj.ownBlock∨R2.ownBlock=some (w3.alloc o).heap.size):
 (∀ g,g < W.heap.size→g≠jb→Rj.ownBlock≠some g→(w5.setCell ⟨jb,1,none⟩ R2).heap[g]?=W.heap[g]?)∧KeepsFrom B W (w5.setCell ⟨jb,1,none⟩ R2)∧KpO N (OwJ jb) W (w5.setCell ⟨jb,1,none⟩ R2)∧W.heap.size≤(w5.setCell ⟨jb,1,none⟩ R2).heap.size:=by
 have sz:(w3.alloc o).heap.size=w3.heap.size+1:=by simp
 have h3s:=b3.size
 have h5s:=hg.size
 have hss:W.heap.size≤(w5.setCell ⟨jb,1,none⟩ R2).heap.size:=by rw [World.size_setCell];omega
 have same:∀ g,g < W.heap.size→g≠jb→Rj.ownBlock≠some g→(w5.setCell ⟨jb,1,none⟩ R2).heap[g]?=W.heap[g]?:=fun g h1 h2 h3=>
  (Below.heap_setCell _ _ _ _ h2).trans (((hg.block g (by omega) (fun e=>h3 e.symm)).trans (Below.heap_alloc _ _ _ (by omega))).trans (b3.block g h1))
 have cell5:w5.heap[jb]?=some (.cells #[V,Rj] 25)∨Rj.ownBlock=some jb:=by
  by_cases e:Rj.ownBlock=some jb
  ·exact .inr e
  ·exact .inl ((hg.block jb (by have:=zaa hcell;omega) (fun q=>e q.symm)).trans ((Below.heap_alloc _ _ _ (by have:=zaa hcell;omega)).trans ((b3.block jb (zaa hcell)).trans hcell)))
 have ownC:∀ g,Rj.ownBlock=some g→IsC W g:=fun g e=>by
  rcases hown.2 with ⟨rfl,_⟩ | ⟨g',cap,cur,rfl,_,hh,_⟩
  ·cases e
  ·obtain rfl:g'=g:=by simpa [Value.ownBlock] using e
   exact zn7 hh
 have hno:Rj.ownBlock≠some jb:=fun e=>by
  rcases hown.2 with ⟨rfl,_⟩ | ⟨g',cap,cur,rfl,_,hh,_⟩
  ·cases e
  ·obtain rfl:g'=jb:=by simpa [Value.ownBlock] using e
   rw [hcell] at hh
   cases hh
 refine ⟨same,⟨hss,fun k p _ hk hp=>?_⟩,⟨hss,fun k p hk hn _=>?_,fun k hk hx=>?_⟩,hss⟩
 ·refine (same k (zaa hk) ?_ ?_).trans hk
  ·rintro rfl
   rw [hcell] at hk
   cases hk
   cases hp
  ·intro e
   obtain ⟨q,h1,h2⟩:=ownC k e
   rw [hk] at h1
   cases h1
   rw [hp] at h2
   cases h2
 ·exact (same k (zaa hk) (fun e=>hn (.inl e)) (fun e=>hn (.inr ⟨V,Rj,hcell,e⟩))).trans hk
 ·rcases hx with rfl | ⟨V',R',h1,h2⟩
  ·exact .inl rfl
  ·rcases cell5 with c5 | e
   ·have h3:=zb8 c5 1 R2
    rw [show (w5.setCell ⟨jb,1,none⟩ R2).heap[jb]?=_ from h3] at h1
    have e1:(#[V,Rj].setIfInBounds 1 R2)=#[V',R']:=by
     have:=Option.some.inj h1
     simpa using this
    have e2:R'=R2:=by
     have:=congrArg (fun c:Array Value=>c[1]?) e1
     simpa using this.symm
    subst e2
    rcases hloc with q | q
    ·exact .inr ⟨V,Rj,hcell,q.symm.trans h2⟩
    ·rw [q] at h2
     have:=Option.some.inj h2
     omega
   ·exact absurd e hno
structure InJ (wR wr w9:World) (jb:Nat) (V u:Value) (bs0:List (List Val)) (Ds:List Nat) (src:List (Int × Int)) (x:List Val) (rowsB:List (List Val)) (pre:List (RowN rowsB)) (W:World):Prop where
 ji:∃ R2,JI wR jb V R2 (bs0++pre.map fun y=>zib src x (rowsB.getD y.1 [])) W∧∀ z,R2.ownBlock=some z→z≠wr.heap.size
 row:W.heap[wr.heap.size]?=some (.cells #[u] 43)
 marks:zwf wR.heap.size Ds W
 size:w9.heap.size≤W.heap.size
theorem InJ.own {wR wr w9:World} {jb:Nat} {V u:Value} {bs0:List (List Val)} {Ds:List Nat} {src:List (Int × Int)} {x:List Val} {rowsB:List (List Val)} (h1:jb < wR.heap.size) (h2:wR.heap.size≤w9.heap.size) (h3:wr.heap.size < w9.heap.size) (h4:∀ D∈Ds,D < w9.heap.size):OwnFrom w9.heap.size (InJ wR wr w9 jb V u bs0 Ds src x rowsB):=fun pre W W' row hs hg hr=>by
 obtain ⟨⟨R2,hj,hz⟩,hrow,hm,hsz⟩:=hs
 refine ⟨⟨R2,hj.grown h1 hg (fun i e=>⟨by have:=(hr i e).1;omega,(hr i e).2⟩),hz⟩,(hg.block _ (zaa hrow) (fun e=>by have:=(hr _ e.symm).1;omega)).trans hrow,hm.keep fun D hD=>hg.block D (zaa (hm.at_ D hD).2) (fun e=>by have:=(hr _ e.symm).1;have:=h4 D hD;omega),Nat.le_trans hsz hg.size⟩
set_option maxHeartbeats 25600000 in
set_option maxRecDepth 20000 in
theorem joinAt (a b:TabL) (VA RA VB RB:Value) (W:World) (hG:Gd W) (ha:tabE.rel W (Old W) [VA,RA] a) (hb:tabE.rel W (Old W) [VB,RB] b) (hwt:WtOk a b) (hjn:(zon a b).rows.length≤2097152):Calls Tryz.prog 25 #[.agg #[VA,RA],.agg #[VB,RB]] W (zbs tabE (zon a b) W):=by
 have ha0:=ha
 have hb0:=hb
 obtain ⟨V',R',e,hva,hra,hcva,hcra,hlva,hlra⟩:=ha
 cases e
 obtain ⟨V',R',e,hvb,hrb,hcvb,hcrb,hlvb,hlrb⟩:=hb
 cases e
 obtain ⟨pA,kA,rfl⟩:=hva.slice
 obtain ⟨qA,lA,rfl⟩:=hra.slice
 obtain ⟨pB,kB,rfl⟩:=hvb.slice
 obtain ⟨qB,lB,rfl⟩:=hrb.slice
 obtain ⟨W1,hW1⟩:∃ W1,W1=((W.alloc (.cells #[.slice pA a.vars.length kA,.slice qA a.rows.length lA] 25)).alloc (.cells #[.slice pB b.vars.length kB,.slice qB b.rows.length lB] 25)).alloc (.cells #[.slice none 0 0,.slice none 0 0] 25):=⟨_,rfl⟩
 have b1:Below W.heap.size W W1:=by rw [hW1];exact (zcr _ _ _).alloc (by simp;omega) _
 have s1:W1.heap.size=W.heap.size+3:=by rw [hW1];simp
 have u2:W1.heap[W.heap.size]?=some (.cells #[.slice pA a.vars.length kA,.slice qA a.rows.length lA] 25):=by rw [hW1];exact zaq _ (zaq _ (zaf _ _ rfl))
 have u3:W1.heap[W.heap.size+1]?=some (.cells #[.slice pB b.vars.length kB,.slice qB b.rows.length lB] 25):=by rw [hW1];exact zaq _ (zaf _ _ (by simp))
 have u4:W1.heap[W.heap.size+1+1]?=some (.cells #[.slice none 0 0,.slice none 0 0] 25):=by rw [hW1];exact zaf _ _ (by simp)
 have HOV:=Lib.hid (z33 a b _ _ _ _ W1 (hG.below b1) (tabE.stays (zae b1) ha0) (tabE.stays (zae b1) hb0))
 have HGD:Hid (Gd W1):=Lib.hid (hG.below b1)
 have HVA:Hid (∀ W',Below W1.heap.size W1 W'→zai zaz W' (Old W') (.slice pA a.vars.length kA) a.vars):=Lib.hid fun W' h=>hva.stays (zae (zab b1 h b1.size))
 have HVB:Hid (∀ W',Below W1.heap.size W1 W'→zai zaz W' (Old W') (.slice pB b.vars.length kB) b.vars):=Lib.hid fun W' h=>hvb.stays (zae (zab b1 h b1.size))
 have HRA:Hid (zai rowE W1 (Old W) (.slice qA a.rows.length lA) a.rows):=Lib.hid (hra.stays fun g hg=>⟨hg,b1.block g hg⟩)
 have HRB:Hid (zai rowE W1 (Old W) (.slice qB b.rows.length lB) b.rows):=Lib.hid (hrb.stays fun g hg=>⟨hg,b1.block g hg⟩)
 have HW:=Lib.hid hW1
 have HB1:=Lib.hid b1
 have HU:=Lib.hid (And.intro u2 (And.intro u3 u4))
 have HWT:=Lib.hid hwt
 have HJN:=Lib.hid hjn
 obtain ⟨jt,hjt⟩:∃ jt,jt=zon a b:=⟨_,rfl⟩
 rw [← hjt]
 have HJT:=Lib.hid hjt
 clear ha0 hb0 hva hra hcva hcra hvb hrb hcvb hcrb hG hW1 b1 u4 hwt hjn hjt
 refine (callsIn_wide (n:=4)).1 ?_
 refine callsIn_of_wp_marks Tryz.func25 rfl trivial ?_ rfl
 simp only [Tryz.ntmps25,List.size_toArray,List.length_cons,List.length_nil,Nat.reduceAdd,Nat.reduceSub,Array.replicate_succ,Array.replicate_zero,List.push_toArray,List.append_toArray,List.nil_append,List.cons_append]
 gi_upto_region 1 with fail
 rw [← HW.out]
 by_cases hp:(tabP a && tabP b)=true
 ·have hov:Calls Tryz.prog 73 #[.agg #[.slice pA a.vars.length kA,.slice qA a.rows.length lA],.agg #[.slice pB b.vars.length kB,.slice qB b.rows.length lB]] W1 fun e w'=>∃ V,e=.returned (.tuple #[.agg #[V,.slice none 0 0],.bool (decide ((za0 a.vars b.vars).length≤64))])∧zai zaz w' (New W1 w') V (za0 a.vars b.vars)∧capK V∧V.oneCell'=true∧Below W1.heap.size W1 w':=HOV.out.mono fun e w' h=>by
   unfold zim at h
   rwa [if_pos hp] at h
  have HO:=Lib.hid hov
  clear hov HOV
  by_cases hle:(za0 a.vars b.vars).length≤64
  ·rw [decide_eq_true hle] at HO
   have HJ2:Hid (jt=⟨za0 a.vars b.vars,zbn (za4 a.vars b.vars) (srcP (za0 a.vars b.vars) a.vars b.vars) a.rows b.rows⟩):=Lib.hid (by rw [HJT.out];unfold zon;rw [if_pos ⟨hp,hle⟩])
   have HTOT:Hid ((zbn (za4 a.vars b.vars) (srcP (za0 a.vars b.vars) a.vars b.vars) a.rows b.rows).length≤2097152):=Lib.hid (by
    have h:=HJN.out
    rw [← HJT.out,HJ2.out] at h
    exact h)
   have HTA:=Lib.hid (zbk (t:=a) (by simp only [Bool.and_eq_true] at hp;exact hp.1))
   have HTB:=Lib.hid (zbk (t:=b) (by simp only [Bool.and_eq_true] at hp;exact hp.2))
   gi_upto_region 4 with (first
    |((with_reducible refine zi9 zf1 (.tmp 2) W.heap.size _ _ u2 ?_ ?_ ?_ ?_);rfl;rfl;rfl)
    |((with_reducible refine zi9 zf1 (.tmp 3) (W.heap.size+1) _ _ u3 ?_ ?_ ?_ ?_);rfl;rfl;rfl)
    |(refine ⟨trivial,?_⟩;gi_at_call 73;(with_reducible refine (callsIn_wide.2 HO.out).mono ?_);rintro e w2 ⟨V,rfl,hsV,hkV,hoV,hb2⟩;obtain ⟨pV,kV,rfl⟩:=hsV.slice)
    |((with_reducible refine zco zf1 (.tmp 5) (.tmp 16) w2.heap.size 25 25 _ [.slice pV (za0 a.vars b.vars).length kV,.slice none 0 0] 2 (zaf _ _ rfl) rfl ?_ ?_ ?_ ?_ zag rfl (zbv rfl rfl) ?_);rfl;rfl;rfl;rfl;intro wX oX vX))
   have bX:Below w2.heap.size w2 wX:=zam (zav w2 _) oX (Nat.le_refl _) (by simp)
   have b2:=zab hb2 bX hb2.size
   have hs2:=hb2.size
   have hjX:=zaa vX
   have u2X:=(b2.block _ (zaa HU.out.1)).trans HU.out.1
   have u3X:=(b2.block _ (zaa HU.out.2.1)).trans HU.out.2.1
   have hsVX:zai zaz wX (Old wX) (.slice pV (za0 a.vars b.vars).length kV) (za0 a.vars b.vars):=(hsV.stays fun g hg=>⟨hg.2,rfl⟩:zai zaz w2 (Old w2) _ _).stays (zae bX)
   have HSR:=Lib.hid (zyf (za0 a.vars b.vars) a.vars b.vars _ _ _ wX hsVX (HVA.out _ b2) (HVB.out _ b2) (by omega) hlva hlvb)
   have HV:=Lib.hid (And.intro (hsV.stays (P':=fun g=>W1.heap.size≤g∧g < w2.heap.size) (w':=wX) fun g hg=>⟨⟨hg.1,hg.2⟩,bX.block g hg.2⟩) hkV)
   have HB2:=Lib.hid b2
   have cJ:=zad vX 0 rfl
   have c2:=zad u2X 0 rfl
   have c3:=zad u3X 0 rfl
   have HJB:=Lib.hid (And.intro vX hs2)
   clear hsV hkV hoV hb2 bX b2 oX vX hsVX HO u2 u3 HJN
   gi_upto_region 5 with (first
    |(refine ⟨trivial,?_⟩;gi_at_call 74;(with_reducible refine (callsIn_wide.2 HSR.out).mono ?_);rintro e w3 ⟨S,xsS,rfl,hoS,hrS,hb3⟩;obtain ⟨pS,kS,rfl⟩:=zat hoS))
   have hsS:zai srcE w3 (New wX w3) (.slice pS (srcP (za0 a.vars b.vars) a.vars b.vars).length kS) (srcP (za0 a.vars b.vars) a.vars b.vars):=za1.slice hoS hrS
   have bz:Below w3.heap.size w3 (w3.alloc (.cells #[.slice pS (srcP (za0 a.vars b.vars) a.vars b.vars).length kS] 84)):=zav _ _
   have b3:=zab HB2.out hb3 HB2.out.size
   have bS:=zab b3 bz b3.size
   have vS:=(bz.block _ (zaa ((hb3.block _ (zaa HJB.out.1)).trans HJB.out.1))).trans ((hb3.block _ (zaa HJB.out.1)).trans HJB.out.1)
   have sS:(w3.alloc (.cells #[.slice pS (srcP (za0 a.vars b.vars) a.vars b.vars).length kS] 84)).heap[w3.heap.size]?=some (.cells #[.slice pS (srcP (za0 a.vars b.vars) a.vars b.vars).length kS] 84):=zaf _ _ rfl
   have hsS2:=hsS.stays (P':=New wX w3) (w':=w3.alloc (.cells #[.slice pS (srcP (za0 a.vars b.vars) a.vars b.vars).length kS] 84)) fun g hg=>⟨hg,bz.block g hg.2⟩
   have hVS:=HV.out.1.stays (P':=fun g=>W1.heap.size≤g∧g < w2.heap.size) (w':=w3.alloc (.cells #[.slice pS (srcP (za0 a.vars b.vars) a.vars b.vars).length kS] 84)) fun g hg=>⟨hg,(bz.block g (by have:=hb3.size;omega)).trans (hb3.block g (by omega))⟩
   have hz3:w3.heap.size < (w3.alloc (.cells #[.slice pS (srcP (za0 a.vars b.vars) a.vars b.vars).length kS] 84)).heap.size:=by simp
   have hX3:=hb3.size
   clear bz hoS hrS hsS hb3 b3 HSR cJ c2 c3
   generalize w3.alloc (.cells #[.slice pS (srcP (za0 a.vars b.vars) a.vars b.vars).length kS] 84)=wS at*
   have u2S:=(bS.block _ (zaa HU.out.1)).trans HU.out.1
   have u3S:=(bS.block _ (zaa HU.out.2.1)).trans HU.out.2.1
   have HRBx:Hid (∀ w',Below W1.heap.size W1 w'→zai rowE w' (Old W) (.slice qB b.rows.length lB) b.rows):=Lib.hid fun w' h=>HRB.out.stays fun g hg=>⟨hg,h.block g (Nat.lt_of_lt_of_le hg HB1.out.size)⟩
   obtain ⟨sh,hsh0⟩:∃ sh,sh=za4 a.vars b.vars:=⟨_,rfl⟩
   have HSH:Hid (∀ w',Below wS.heap.size wS w'→Calls Tryz.prog 76 #[.slice pA a.vars.length kA,.slice pB b.vars.length kB] w' (zq9 w' sh)):=Lib.hid fun w' h=>by
    rw [hsh0]
    have h':=zab bS h bS.size
    exact zul a.vars b.vars _ _ w' (HVA.out _ h') (HVB.out _ h') hlva hlvb
   have HSL:Hid (∀ p∈sh,p.1 < a.vars.length∧p.2 < b.vars.length):=Lib.hid (by rw [hsh0];exact zrr)
   have hshn:sh.length≤2097152:=by rw [hsh0];exact Nat.le_trans (zie _ _) hlva
   have HWB:Hid (∀ r∈b.rows,13*wAll (zbh sh r)≤700000000):=Lib.hid (by rw [hsh0];exact HWT.out.rb)
   have HWA:Hid (∀ r∈a.rows,13*wAll (zby sh r)≤700000000):=Lib.hid (by rw [hsh0];exact HWT.out.ra)
   have HSHE:=Lib.hid hsh0
   have HBS:=Lib.hid bS
   have HFS:=Lib.hid (And.intro vS (And.intro sS (And.intro hsS2 hVS)))
   have hsz1:=HB1.out.size
   have hszS:=bS.size
   clear hsh0 bS vS sS hsS2 hVS HWT
   gi_cut [8] from 20 (fun s8 wx=>∃ gb mb pP kP pT kT pL kL,s8=.pointer (some ⟨gb,0,none⟩)∧Hid (wx.heap[gb]?=some (.cells #[.slice pP sh.length kP,.slice pT sh.length kT,.slice qB b.rows.length lB,.map (some mb),.slice pL (zbi sh b.rows).length kL] 90)∧IxIn sh b.rows (.slice pP sh.length kP) (.slice pT sh.length kT) (.slice qB b.rows.length lB) mb (.slice pL (zbi sh b.rows).length kL) (Old wx) wx∧Below wS.heap.size wS wx∧wS.heap.size≤gb))
   case first=>
    as_aux_lemma=>
     refine ztf ?_
     refine zrp (.inl rfl) (by rintro ⟨a,w,h⟩;exact h) (by kernel_rfl) (S:=fun W'=>W'.heap[W.heap.size]?=some (.cells #[.slice pA a.vars.length kA,.slice qA a.rows.length lA] 25)∧W'.heap[W.heap.size+1]?=some (.cells #[.slice pB b.vars.length kB,.slice qB b.rows.length lB] 25)) (by kernel_rfl) ⟨u2S,u3S⟩ (fun hh=>?_)
     have bq:Below wS.heap.size wS wS.drew:=(Below.refl _ _).drew
     clear u2S u3S
     generalize wS.drew=wD at*
     refine tg (i:=0) (.pointer (some ⟨W.heap.size,0,none⟩)) rfl (hh) ?_
     refine tg (i:=2) (.pointer (some ⟨W.heap.size+1,0,none⟩)) rfl (hh) ?_
     refine tg (i:=5) (.pointer (some ⟨W.heap.size+1,1,none⟩)) rfl (hh) ?_
     refine tk (i:=1) (v:=.slice pA a.vars.length kA) rfl (Or.inl ⟨by rfl,fun W' h=>by have c0:=zad h.1 0 rfl;go_simp⟩) (hh) ?_
     refine tk (i:=3) (v:=.slice pB b.vars.length kB) rfl (Or.inl ⟨by rfl,fun W' h=>by have c0:=zad h.2 0 rfl;go_simp⟩) (hh) ?_
     refine tk (i:=6) (v:=.slice qB b.rows.length lB) rfl (Or.inl ⟨by rfl,fun W' h=>by have c0:=zad h.2 1 rfl;go_simp⟩) (hh) ?_
     refine wpAnyH_ready (rs:=[4,8]) (by kernel_rfl) (by simp) ?_
     refine AllReadyH.cons rfl (fun K hK=>?_) (AllReadyH.cons rfl (fun K hK=>?_) AllReadyH.nil)
     ·try rw [if_pos (by rfl)]
      go_simp
      refine (HSH.out _ bq).mono ?_
      rintro e0 w4 ⟨A,B,rfl,hoA,hoB,hb4⟩
      obtain ⟨pP,kP,rfl⟩:=zat hoA
      obtain ⟨pT,kT,rfl⟩:=zat hoB
      have hsh:ShIn w4 (Old w4) sh (.slice pP sh.length kP) (.slice pT sh.length kT):=zqo (Old w4) hoA hoB hlva hlvb HSL.out (fun g _ h=>h)
      replace hh:=And.intro ((hb4.block _ (zaa hh.1)).trans hh.1) ((hb4.block _ (zaa hh.2)).trans hh.2)
      replace bq:=zab bq hb4 bq.size
      clear hoA hoB hb4
      refine hK.out _ _ (hh) (fun _=>?_)
      clear hK K
      try simp only [putS]
      refine wpAnyH_ready (rs:=[7,8]) (by kernel_rfl) (by simp) ?_
      refine AllReadyH.cons rfl (fun K hK=>?_) (AllReadyH.cons rfl (fun K hK=>?_) AllReadyH.nil)
      ·try rw [if_pos (by rfl)]
       go_simp
       have bW:=zab HBS.out bq HBS.out.size
       refine (zii sh b.rows _ _ _ _ (HGD.out.below bW) hsh ((HRBx.out _ bW).stays fun g hg=>⟨Nat.lt_of_lt_of_le (show g < W.heap.size from hg) (Nat.le_trans HB1.out.size bW.size),rfl⟩) (fun r hr p hp=>by rw [HTB.out.1 r hr];exact (HSL.out p hp).2) HTB.out.2 HWB.out hshn hlrb).mono ?_
       rintro e0 w7 ⟨mb,L,rfl,hix,hLo,hb7⟩
       obtain ⟨pL,kL,rfl⟩:=hix.loose.1.slice
       replace hh:=And.intro ((hb7.block _ (zaa hh.1)).trans hh.1) ((hb7.block _ (zaa hh.2)).trans hh.2)
       replace bq:=zab bq hb7 bq.size
       clear hsh hb7 hLo bW
       refine hK.out _ _ (hh) (fun _=>?_)
       clear hK K
       try simp only [putS]
       refine tr 8 rfl (fun K hK=>?_)
       try rw [if_pos (by rfl)]
       go_simp
       have y8:(w7.alloc (.cells #[.slice none 0 0,.slice none 0 0,.slice none 0 0,.map none,.slice none 0 0] 90)).heap[w7.heap.size]?=some (.cells #[.slice none 0 0,.slice none 0 0,.slice none 0 0,.map none,.slice none 0 0] 90):=zaf _ _ rfl
       have g8:wS.heap.size≤w7.heap.size:=bq.size
       replace hh:=And.intro (zaq (.cells #[.slice none 0 0,.slice none 0 0,.slice none 0 0,.map none,.slice none 0 0] 90) hh.1) (zaq (.cells #[.slice none 0 0,.slice none 0 0,.slice none 0 0,.map none,.slice none 0 0] 90) hh.2)
       replace hix:=hix.stays (zae (zav w7 (.cells #[.slice none 0 0,.slice none 0 0,.slice none 0 0,.map none,.slice none 0 0] 90)))
       replace bq:=zab bq (zav w7 (.cells #[.slice none 0 0,.slice none 0 0,.slice none 0 0,.map none,.slice none 0 0] 90)) bq.size
       generalize w7.alloc (.cells #[.slice none 0 0,.slice none 0 0,.slice none 0 0,.map none,.slice none 0 0] 90)=wA at*
       refine hK.out _ _ (hh) (fun _=>?_)
       clear hK K
       try simp only [putS]
       refine tr 9 rfl (fun K hK=>?_)
       try rw [if_pos (by rfl)]
       have bW:=zab HBS.out bq HBS.out.size
       have hix1:=hix.off (P':=fun g=>g < wA.heap.size∧g≠w7.heap.size) y8 (fun i z=>by match i with | 0 | 1 | 2 | 3 | 4=>simp | i+5=>simp) ((HRBx.out _ bW).stays fun g hg=>⟨⟨Nat.lt_of_lt_of_le (show g < W.heap.size from hg) (Nat.le_trans HB1.out.size bW.size),by have:g < W.heap.size:=hg;omega⟩,rfl⟩) (fun g h1 h2=>⟨h1,h2⟩)
       refine zcl (.tmp 8) (.tmp 35) (w7.heap.size) 90 90 _ [.slice pP sh.length kP,.slice pT sh.length kT,.slice qB b.rows.length lB,.map (some mb),.slice pL (zbi sh b.rows).length kL] 5 y8 rfl rfl rfl rfl zh7 rfl (zk0 rfl rfl rfl rfl rfl) ?_
       intro wY oY vY
       have hix2:=hix1.stays (P':=Old wY) fun g hg=>⟨Nat.lt_of_lt_of_le hg.1 oY.size,oY.block g hg.1 hg.2⟩
       replace hh:=And.intro ((oY.block _ (zaa hh.1) (by omega)).trans hh.1) ((oY.block _ (zaa hh.2) (by omega)).trans hh.2)
       replace bq:=zam bq oY g8 bq.size
       refine hK.out _ _ (hh) (fun _=>?_)
       clear hK K
       try simp only [putS]
       refine wpAnyH_done (by kernel_rfl) ?_ _
       gi_wp2_with fail
       gi_meet
       case rel=>exact ⟨_,mb,pP,kP,pT,kT,pL,kL,rfl,Lib.hid ⟨vY,hix2,bq,g8⟩⟩
      ·try rw [if_pos (by rfl)]
       go_simp
       have y8:(w4.alloc (.cells #[.slice none 0 0,.slice none 0 0,.slice none 0 0,.map none,.slice none 0 0] 90)).heap[w4.heap.size]?=some (.cells #[.slice none 0 0,.slice none 0 0,.slice none 0 0,.map none,.slice none 0 0] 90):=zaf _ _ rfl
       have g8:wS.heap.size≤w4.heap.size:=bq.size
       replace hh:=And.intro (zaq (.cells #[.slice none 0 0,.slice none 0 0,.slice none 0 0,.map none,.slice none 0 0] 90) hh.1) (zaq (.cells #[.slice none 0 0,.slice none 0 0,.slice none 0 0,.map none,.slice none 0 0] 90) hh.2)
       replace hsh:=hsh.stays (zae (zav w4 (.cells #[.slice none 0 0,.slice none 0 0,.slice none 0 0,.map none,.slice none 0 0] 90)))
       replace bq:=zab bq (zav w4 (.cells #[.slice none 0 0,.slice none 0 0,.slice none 0 0,.map none,.slice none 0 0] 90)) bq.size
       generalize w4.alloc (.cells #[.slice none 0 0,.slice none 0 0,.slice none 0 0,.map none,.slice none 0 0] 90)=wA at*
       refine hK.out _ _ (hh) (fun _=>?_)
       clear hK K
       try simp only [putS]
       refine tr 7 rfl (fun K hK=>?_)
       try rw [if_pos (by rfl)]
       go_simp
       have bW:=zab HBS.out bq HBS.out.size
       refine (zii sh b.rows _ _ _ _ (HGD.out.below bW) hsh ((HRBx.out _ bW).stays fun g hg=>⟨Nat.lt_of_lt_of_le (show g < W.heap.size from hg) (Nat.le_trans HB1.out.size bW.size),rfl⟩) (fun r hr p hp=>by rw [HTB.out.1 r hr];exact (HSL.out p hp).2) HTB.out.2 HWB.out hshn hlrb).mono ?_
       rintro e0 w7 ⟨mb,L,rfl,hix,hLo,hb7⟩
       obtain ⟨pL,kL,rfl⟩:=hix.loose.1.slice
       replace hh:=And.intro ((hb7.block _ (zaa hh.1)).trans hh.1) ((hb7.block _ (zaa hh.2)).trans hh.2)
       replace y8:=(hb7.block _ (zaa y8)).trans y8
       replace bq:=zab bq hb7 bq.size
       clear hsh hb7 hLo bW
       refine hK.out _ _ (hh) (fun _=>?_)
       clear hK K
       try simp only [putS]
       refine tr 9 rfl (fun K hK=>?_)
       try rw [if_pos (by rfl)]
       have bW:=zab HBS.out bq HBS.out.size
       have hix1:=hix.off (P':=fun g=>g < w7.heap.size∧g≠w4.heap.size) y8 (fun i z=>by match i with | 0 | 1 | 2 | 3 | 4=>simp | i+5=>simp) ((HRBx.out _ bW).stays fun g hg=>⟨⟨Nat.lt_of_lt_of_le (show g < W.heap.size from hg) (Nat.le_trans HB1.out.size bW.size),by have:g < W.heap.size:=hg;omega⟩,rfl⟩) (fun g h1 h2=>⟨h1,h2⟩)
       refine zcl (.tmp 8) (.tmp 35) (w4.heap.size) 90 90 _ [.slice pP sh.length kP,.slice pT sh.length kT,.slice qB b.rows.length lB,.map (some mb),.slice pL (zbi sh b.rows).length kL] 5 y8 rfl rfl rfl rfl zh7 rfl (zk0 rfl rfl rfl rfl rfl) ?_
       intro wY oY vY
       have hix2:=hix1.stays (P':=Old wY) fun g hg=>⟨Nat.lt_of_lt_of_le hg.1 oY.size,oY.block g hg.1 hg.2⟩
       replace hh:=And.intro ((oY.block _ (zaa hh.1) (by omega)).trans hh.1) ((oY.block _ (zaa hh.2) (by omega)).trans hh.2)
       replace bq:=zam bq oY g8 bq.size
       refine hK.out _ _ (hh) (fun _=>?_)
       clear hK K
       try simp only [putS]
       refine wpAnyH_done (by kernel_rfl) ?_ _
       gi_wp2_with fail
       gi_meet
       case rel=>exact ⟨_,mb,pP,kP,pT,kT,pL,kL,rfl,Lib.hid ⟨vY,hix2,bq,g8⟩⟩
     ·try rw [if_pos (by rfl)]
      go_simp
      have y8:(wD.alloc (.cells #[.slice none 0 0,.slice none 0 0,.slice none 0 0,.map none,.slice none 0 0] 90)).heap[wD.heap.size]?=some (.cells #[.slice none 0 0,.slice none 0 0,.slice none 0 0,.map none,.slice none 0 0] 90):=zaf _ _ rfl
      have g8:wS.heap.size≤wD.heap.size:=bq.size
      replace hh:=And.intro (zaq (.cells #[.slice none 0 0,.slice none 0 0,.slice none 0 0,.map none,.slice none 0 0] 90) hh.1) (zaq (.cells #[.slice none 0 0,.slice none 0 0,.slice none 0 0,.map none,.slice none 0 0] 90) hh.2)
      replace bq:=zab bq (zav wD (.cells #[.slice none 0 0,.slice none 0 0,.slice none 0 0,.map none,.slice none 0 0] 90)) bq.size
      generalize wD.alloc (.cells #[.slice none 0 0,.slice none 0 0,.slice none 0 0,.map none,.slice none 0 0] 90)=wA at*
      refine hK.out _ _ (hh) (fun _=>?_)
      clear hK K
      try simp only [putS]
      refine tr 4 rfl (fun K hK=>?_)
      try rw [if_pos (by rfl)]
      go_simp
      refine (HSH.out _ bq).mono ?_
      rintro e0 w4 ⟨A,B,rfl,hoA,hoB,hb4⟩
      obtain ⟨pP,kP,rfl⟩:=zat hoA
      obtain ⟨pT,kT,rfl⟩:=zat hoB
      have hsh:ShIn w4 (Old w4) sh (.slice pP sh.length kP) (.slice pT sh.length kT):=zqo (Old w4) hoA hoB hlva hlvb HSL.out (fun g _ h=>h)
      replace hh:=And.intro ((hb4.block _ (zaa hh.1)).trans hh.1) ((hb4.block _ (zaa hh.2)).trans hh.2)
      replace y8:=(hb4.block _ (zaa y8)).trans y8
      replace bq:=zab bq hb4 bq.size
      clear hoA hoB hb4
      refine hK.out _ _ (hh) (fun _=>?_)
      clear hK K
      try simp only [putS]
      refine tr 7 rfl (fun K hK=>?_)
      try rw [if_pos (by rfl)]
      go_simp
      have bW:=zab HBS.out bq HBS.out.size
      refine (zii sh b.rows _ _ _ _ (HGD.out.below bW) hsh ((HRBx.out _ bW).stays fun g hg=>⟨Nat.lt_of_lt_of_le (show g < W.heap.size from hg) (Nat.le_trans HB1.out.size bW.size),rfl⟩) (fun r hr p hp=>by rw [HTB.out.1 r hr];exact (HSL.out p hp).2) HTB.out.2 HWB.out hshn hlrb).mono ?_
      rintro e0 w7 ⟨mb,L,rfl,hix,hLo,hb7⟩
      obtain ⟨pL,kL,rfl⟩:=hix.loose.1.slice
      replace hh:=And.intro ((hb7.block _ (zaa hh.1)).trans hh.1) ((hb7.block _ (zaa hh.2)).trans hh.2)
      replace y8:=(hb7.block _ (zaa y8)).trans y8
      replace bq:=zab bq hb7 bq.size
      clear hsh hb7 hLo bW
      refine hK.out _ _ (hh) (fun _=>?_)
      clear hK K
      try simp only [putS]
      refine tr 9 rfl (fun K hK=>?_)
      try rw [if_pos (by rfl)]
      have bW:=zab HBS.out bq HBS.out.size
      have hix1:=hix.off (P':=fun g=>g < w7.heap.size∧g≠wD.heap.size) y8 (fun i z=>by match i with | 0 | 1 | 2 | 3 | 4=>simp | i+5=>simp) ((HRBx.out _ bW).stays fun g hg=>⟨⟨Nat.lt_of_lt_of_le (show g < W.heap.size from hg) (Nat.le_trans HB1.out.size bW.size),by have:g < W.heap.size:=hg;omega⟩,rfl⟩) (fun g h1 h2=>⟨h1,h2⟩)
      refine zcl (.tmp 8) (.tmp 35) (wD.heap.size) 90 90 _ [.slice pP sh.length kP,.slice pT sh.length kT,.slice qB b.rows.length lB,.map (some mb),.slice pL (zbi sh b.rows).length kL] 5 y8 rfl rfl rfl rfl zh7 rfl (zk0 rfl rfl rfl rfl rfl) ?_
      intro wY oY vY
      have hix2:=hix1.stays (P':=Old wY) fun g hg=>⟨Nat.lt_of_lt_of_le hg.1 oY.size,oY.block g hg.1 hg.2⟩
      replace hh:=And.intro ((oY.block _ (zaa hh.1) (by omega)).trans hh.1) ((oY.block _ (zaa hh.2) (by omega)).trans hh.2)
      replace bq:=zam bq oY g8 bq.size
      refine hK.out _ _ (hh) (fun _=>?_)
      clear hK K
      try simp only [putS]
      refine wpAnyH_done (by kernel_rfl) ?_ _
      gi_wp2_with fail
      gi_meet
      case rel=>exact ⟨_,mb,pP,kP,pT,kT,pL,kL,rfl,Lib.hid ⟨vY,hix2,bq,g8⟩⟩
   case rest=>
    rename World=>wR
    obtain ⟨gb,mb,pP,kP,pT,kT,pL,kL,rfl,HIXR⟩:=hcut
    clear u2S u3S HSH
    have bR:=HIXR.out.2.2.1
    have b1R:=zab HBS.out bR HBS.out.size
    have vJ:=(bR.block _ (zaa HFS.out.1)).trans HFS.out.1
    have sR:=(bR.block _ (zaa HFS.out.2.1)).trans HFS.out.2.1
    have u2R:=(b1R.block _ (zaa HU.out.1)).trans HU.out.1
    have u4R:=(b1R.block _ (zaa HU.out.2.2)).trans HU.out.2.2
    have hjR:=zaa vJ
    have hsR:=bR.size
    have hgbl:=zaa HIXR.out.1
    have hgbs:=HIXR.out.2.2.2
    have hokS:=src_ok (za0 a.vars b.vars) a.vars b.vars
    have hsrcn:(srcP (za0 a.vars b.vars) a.vars b.vars).length≤64:=by unfold srcP;rw [List.length_map];exact hle
    obtain ⟨P,hPd⟩:∃ P:Nat→Prop,P=fun g=>g < wR.heap.size∧g≠w2.heap.size:=⟨_,rfl⟩
    have hPlt:∀ g,P g→g < wR.heap.size∧g≠w2.heap.size:=by rw [hPd];exact fun _ h=>h
    have hPin:∀ g,g < wR.heap.size→g≠w2.heap.size→P g:=by rw [hPd];exact fun _ h1 h2=>⟨h1,h2⟩
    have hRBP:zai rowE wR P (.slice qB b.rows.length lB) b.rows:=(HRBx.out _ b1R).stays fun g hg=>by
     have h:g < W.heap.size:=hg
     exact ⟨hPin g (by omega) (by omega),rfl⟩
    have hRAP:zai rowE wR P (.slice qA a.rows.length lA) a.rows:=HRA.out.stays fun g hg=>by
     have h:g < W.heap.size:=hg
     exact ⟨hPin g (by omega) (by omega),b1R.block g (by omega)⟩
    have hxP:=HIXR.out.2.1.off vJ (fun i z=>by match i with | 0 | 1=>simp | i+2=>simp) hRBP (fun g h1 h2=>hPin g h1 h2)
    have hsP:zai srcE wR P _ _:=HFS.out.2.2.1.stays fun g hg=>by
     have h1:=hg.1
     have h2:=hg.2
     exact ⟨hPin g (by omega) (by omega),bR.block g (by omega)⟩
    have hVR:zai zaz wR (fun g=>W1.heap.size≤g∧g < w2.heap.size) _ _:=HFS.out.2.2.2.stays fun g hg=>⟨hg,bR.block g (by have:=hg.2;omega)⟩
    obtain ⟨us,hus⟩:=zzm hRBP
    have HPP:=Lib.hid (And.intro hPlt hPin)
    have HPF:=Lib.hid (And.intro hRAP (And.intro hxP (And.intro hsP (And.intro hus hVR))))
    have HMK:=Lib.hid (And.intro sR (And.intro u4R hokS))
    have HB1R:=Lib.hid b1R
    have c2:=zad u2R 1 rfl
    have HJ0:Hid (JI wR w2.heap.size (.slice pV (za0 a.vars b.vars).length kV) (.slice none 0 0) [] wR):=Lib.hid ⟨vJ,⟨[],fun _=>False,World.ownsRow_nil _ _ _ _,RowE.nil,fun _ h=>h.elim⟩,Kept.refl _ _⟩
    clear bR b1R vJ sR u2R u4R hokS hPd hPlt hPin hRBP hRAP hxP hsP hVR hus HRBx HFS HBS HJB
    gi_wp2_with fail
    clear c2
    generalize hsq:srcP (za0 a.vars b.vars) a.vars b.vars=src at*
    have HSRC:=Lib.hid hsq
    clear hsq
    refine wpIn_loop_ghost_k (fun (gk:Nat) (a':Act) (w':World)=>∃ (u10 u11 u39 u40 u41 u42 u43 u44 u45 u46 u47 u48 u49 u50 u51 u52 u53 u54 u55 u56 u57:Value) (ds:List Deferred),(∃ (j:Nat) (Rj:Value) (Ds:List Nat),j+gk=a.rows.length∧u39=.int .i64 j∧ds=Ds.map mkD∧Hid (JI wR w2.heap.size (.slice pV (za0 a.vars b.vars).length kV) Rj (zbn sh src (a.rows.take j) b.rows) w'∧zwf wR.heap.size Ds w'))∧a'={ tmps:=#[.agg #[.slice pA a.vars.length kA,.slice qA a.rows.length lA],.agg #[.slice pB b.vars.length kB,.slice qB b.rows.length lB],.pointer (some ⟨W.heap.size,0,none⟩),.pointer (some ⟨W.heap.size+1,0,none⟩),.pointer (some ⟨W.heap.size+1+1,0,none⟩),.pointer (some ⟨w2.heap.size,0,none⟩),.bool true,.pointer (some ⟨w3.heap.size,0,none⟩),.pointer (some ⟨gb,0,none⟩),undef,u10,u11,.tuple #[.agg #[.slice pV (za0 a.vars b.vars).length kV,.slice none 0 0],.bool true],.agg #[.slice pA a.vars.length kA,.slice qA a.rows.length lA],.agg #[.slice pB b.vars.length kB,.slice qB b.rows.length lB],.tuple #[.agg #[.slice pV (za0 a.vars b.vars).length kV,.slice none 0 0],.bool true],.agg #[.slice pV (za0 a.vars b.vars).length kV,.slice none 0 0],.bool true,.bool true,.bool false,u20,u21,u22,u23,u24,u25,u26,u27,u28,u29,u30,u31,u32,u33,u34,u35,.pointer (some ⟨W.heap.size,1,none⟩),.slice qA a.rows.length lA,.int .i64 (a.rows.length:Nat),u39,u40,u41,u42,u43,u44,u45,u46,u47,u48,u49,u50,u51,u52,u53,u54,u55,u56,u57],defers:=ds }) a.rows.length ?_ ?_
    ·(repeat apply Exists.intro)
     refine ⟨⟨0,.slice none 0 0,[],by omega,rfl,rfl,Lib.hid ⟨HJ0.out,⟨fun _ h=>(by cases h),List.nodup_nil⟩⟩⟩,rfl⟩
    ·intro gk _ wr hinv
     obtain ⟨u10,u11,u39,u40,u41,u42,u43,u44,u45,u46,u47,u48,u49,u50,u51,u52,u53,u54,u55,u56,u57,ds,⟨j,Rj,Ds,hjg,rfl,rfl,HX⟩,ha⟩:=hinv
     subst ha
     try dsimp only
     intro _ _ _ _
     clear HJ0
     by_cases hlt:(j:Int) < a.rows.length
     ·have hj1:j < a.rows.length:=by omega
      have hk:=HX.out.1.kept
      have stR:zel P P wR wr:=fun g hg=>⟨hg,hk.block g (HPP.out.1 g hg).1 (HPP.out.1 g hg).2⟩
      obtain ⟨gA,oA,u,eA,hl0,ck,hux0,hcap0,hxl0⟩:=(HPF.out.1.stays stR).rowAt j hj1
      obtain ⟨x,hx,hux,hxl⟩:∃ x,x=a.rows[j]'hj1∧zai valE wr P u x∧x.length≤2097152:=⟨_,rfl,hux0,hxl0⟩
      obtain ⟨pu,nu,ku,rfl⟩:∃ p n k,u=.slice p n k:=by
       obtain ⟨a,b,c⟩:=hux.slice
       exact ⟨a,_,b,c⟩
      subst eA
      clear hl0 hcap0 hux0 hxl0
      have hvG:=(hk.block gb hgbl (by omega)).trans HIXR.out.1
      have hsnoc:zbn sh src (a.rows.take (j+1)) b.rows=zbn sh src (a.rows.take j) b.rows++zl2 sh src b.rows x:=by rw [hx];exact zqp hj1
      have HSN:=Lib.hid hsnoc
      clear hsnoc
      have HUX:=Lib.hid (And.intro hux (And.intro hxl hx))
      have HK:=Lib.hid (And.intro hk stR)
      have hkz:=hk.size
      clear hk stR hux hxl hx
      gi_upto_region 9 with fail
      have r8:(wr.alloc (.cells #[.slice pu nu ku] 43)).heap[wr.heap.size]?=some (.cells #[.slice pu nu ku] 43):=zaf _ _ rfl
      have b8:Below wr.heap.size wr (wr.alloc (.cells #[.slice pu nu ku] 43)):=zav _ _
      have hz8:wr.heap.size < (wr.alloc (.cells #[.slice pu nu ku] 43)).heap.size:=by simp
      generalize wr.alloc (.cells #[.slice pu nu ku] 43)=w8 at*
      have vG8:=(b8.block gb (by omega)).trans hvG
      have c8:=zad r8 0 rfl
      clear ck hvG
      gi_wp2_with (first
       |((with_reducible refine ztc zf1 (.tmp 8) gb _ _ _ _ _ vG8 ?_ ?_ ?_ ?_);rfl;rfl;rfl)
       |(refine ⟨trivial,?_⟩;gi_at_call 77;refine Hid.out ?_))
      refine Lib.hid ?_
      refine (callsIn_wide.2 (zmj pP pT (qB) pL pu sh.length kP sh.length kT b.rows.length lB (zbi sh b.rows).length kL nu ku mb w8)).mono ?_
      rintro e w9 ⟨rfl,hw9⟩
      have b89:Below w8.heap.size w8 w9:=by rw [hw9];exact zcr _ _ _
      have v2:w9.heap[w8.heap.size]?=some (.cells #[.slice pP sh.length kP,.slice pT sh.length kT,.slice qB b.rows.length lB,.map (some mb),.slice pL (zbi sh b.rows).length kL] 90):=by rw [hw9];exact zaq _ (zaf _ _ rfl)
      have v3:w9.heap[w8.heap.size+1]?=some (.cells #[.slice pu nu ku] 43):=by rw [hw9];exact zaf _ _ (by simp)
      have s9:w8.heap.size+1 < w9.heap.size:=by rw [hw9];simp
      have b9:=zab b8 b89 b8.size
      have r9:=(b89.block _ (zaa r8)).trans r8
      have st9:zel P P wR w9:=fun g hg=>⟨hg,(b9.block g (by have:=(HPP.out.1 g hg).1;omega)).trans (HK.out.2 g hg).2⟩
      have hj9:=HX.out.1.below hjR b9
      have hxm:x∈a.rows:=by rw [HUX.out.2.2];exact List.getElem_mem hj1
      have hx9:=HPF.out.2.1.stays st9
      have bL:=(HB1R.out.trans ((HK.out.1.low (B:=W1.heap.size) (by omega) (fun i h=>by omega)))).trans (b9.mono (by omega))
      have ownlt:∀ V' R' k,w9.heap[w2.heap.size]?=some (.cells #[V',R'] 25)→R'.ownBlock=some k→wR.heap.size≤k∧k < wr.heap.size:=fun V' R' k h1 h2=>by
       rw [hj9.cell] at h1
       have e:R'=Rj:=by simp at h1;exact h1.2.symm
       subst e
       obtain ⟨xs,Q,ho,_⟩:=HX.out.1.own
       exact ho.lt k h2
      have HST:=Lib.hid (zn5 sh b.rows _ _ _ _ (.slice pu nu ku) mb x us w9 (OwJ w2.heap.size) P w8.heap.size (w8.heap.size+1) (HGD.out.below bL) (zzq (by omega))
       (fun k h=>by
         rcases h with rfl | ⟨V',R',h1,h2⟩
         ·omega
         ·have:=(ownlt V' R' k h1 h2).2
          omega)
       (fun k hk=>⟨by have:=(HPP.out.1 k hk).1;omega,fun h=>by
         have h0:=HPP.out.1 k hk
         rcases h with rfl | ⟨V',R',h1,h2⟩
         ·exact h0.2 rfl
         ·have:=(ownlt V' R' k h1 h2).1
          omega⟩)
       hx9 (HUX.out.1.stays fun g hg=>⟨hg,b9.block g (by have:=(HPP.out.1 g hg).1;omega)⟩)
       (fun i hi=>by
         obtain ⟨g,off,cap,e,hg,hc,hs,hl⟩:=HPF.out.2.2.2.1 i hi
         exact ⟨g,off,cap,e,hg,st9.cell hg _ hc,hs.stays st9,hl⟩) v2 v3
       (fun h=>by
         rcases h with h | ⟨V',R',h1,h2⟩
         ·omega
         ·have:=(ownlt V' R' _ h1 h2).2
          omega)
       (fun h=>by
         rcases h with h | ⟨V',R',h1,h2⟩
         ·omega
         ·have:=(ownlt V' R' _ h1 h2).2
          omega)
       (fun y hy p hp=>⟨by rw [HTA.out.1 x hxm];exact (HSL.out p hp).1,by rw [HTB.out.1 y hy];exact (HSL.out p hp).2⟩) (fun p hp=>by rw [HTA.out.1 x hxm];exact (HSL.out p hp).1) (HTA.out.2 x hxm) HTB.out.2 (HWA.out x hxm) hshn HUX.out.2.1 hlrb)
      have hDs:∀ D∈Ds,D < w9.heap.size:=fun D hD=>by have:=zaa (HX.out.2.at_ D hD).2;omega
      have HIN0:Hid (InJ wR wr w9 w2.heap.size (.slice pV (za0 a.vars b.vars).length kV) (.slice pu nu ku) (zbn sh src (a.rows.take j) b.rows) Ds src x b.rows [] w9):=Lib.hid ⟨⟨Rj,by simpa using hj9,fun z hz=>by
       obtain ⟨xs,Q,ho,_⟩:=HX.out.1.own
       have:=(ho.lt z hz).2
       omega⟩,r9,HX.out.2.keep (fun D hD=>b9.block D (zaa (HX.out.2.at_ D hD).2)),Nat.le_refl _⟩
      have HDS:=Lib.hid hDs
      have HXM:=Lib.hid hxm
      have hbs0:=Nat.le_trans (zrt (sh:=sh) (src:=src) (rowsA:=a.rows) (rowsB:=b.rows) j) (by have h:=HTOT.out;rw [← HSHE.out] at h;exact h:(zbn sh src a.rows b.rows).length≤2097152)
      clear hw9 b89 v2 v3 r8 r9 st9 hj9 hxm hx9 bL ownlt vG8 c8 b8 hDs
      gi_wp2
      refine wpIn_rangeFunc_ownG (gf:=127) (lb:=#[.pointer (some ⟨w8.heap.size+1,0,none⟩),.pointer (some ⟨w8.heap.size,0,none⟩)]) rfl (by decide) rfl trivial (enters_of Tryz.func127 (by kernel_rfl) rfl) HST.out ztd (kpO_b (Nat.le_refl _) (zzq (by omega))) (Below.refl _ _) (fun _=>rfl)
       (InJ wR wr w9 w2.heap.size (.slice pV (za0 a.vars b.vars).length kV) (.slice pu nu ku) (zbn sh src (a.rows.take j) b.rows) Ds src x b.rows)
       (fun _ _ _=>False)
       (InJ.own hjR (by omega) (by omega) HDS.out)
       (fun _ _ _ _ _ hs _ _=>hs)
       HIN0.out
       ?act1 ?assign ?body ?done ?stop
      case assign=>
       intro l y W' K hK
       gi_wp2
       exact hK
      case body=>
       rintro l pre y wb hI hlt2
       obtain ⟨i0,hi,hy0,hy1,hy2⟩:=info_parts zen
       obtain ⟨R2,hji,hz2⟩:=hI.ji
       obtain ⟨hcell,⟨xs,Q,hown0,hrow,hq⟩,hkept⟩:=hji
       have hfl:=zus (sh:=sh) (r:=x) (rows:=b.rows)
       obtain ⟨nJ,hnJ⟩:∃ n,n=(zbn sh src (a.rows.take j) b.rows++pre.map (fun y:RowN b.rows=>zib src x (b.rows.getD y.1 []))).length:=⟨_,rfl⟩
       have hnJb:nJ≤4194304:=by rw [hnJ,List.length_append,List.length_map];omega
       have hown:=hown0
       rw [← hnJ] at hown
       obtain ⟨pJ,kJ,rfl⟩:=zat hown
       have stb:zel P P wR wb:=fun g hg=>⟨hg,hkept.block g (HPP.out.1 g hg).1 (HPP.out.1 g hg).2⟩
       have hwb:=hkept.size
       have hrl:=zaa hI.row
       have sbb:=(hkept.block w3.heap.size (by omega) (by omega)).trans HMK.out.1
       obtain ⟨yr,hyr,hyl⟩:∃ yr,yr=b.rows.getD y.1 []∧yr∈b.rows:=⟨_,rfl,by
        rw [List.getD_eq_getElem?_getD,List.getElem?_eq_getElem y.2]
        exact List.getElem_mem y.2⟩
       have hsy:zai valE wR P (us y.1) yr:=by
        obtain ⟨g',off',cap',_,_,_,hs,_⟩:=HPF.out.2.2.2.1 y.1 y.2
        have e:yr=b.rows[y.1]'y.2:=by rw [hyr,List.getD_eq_getElem?_getD,List.getElem?_eq_getElem y.2];rfl
        rw [e]
        exact hs
       have HME:Hid (∀ w',Below wb.heap.size wb w'→Calls Tryz.prog 78 #[.slice pu nu ku,us y.1,.slice pS src.length kS] w' (zbs rowE (zib src x yr) w')):=Lib.hid fun w' h=>by
        have sO:zel P (Old w') wR w':=fun g hg=>⟨Nat.lt_of_lt_of_le (HPP.out.1 g hg).1 (Nat.le_trans hwb h.size),(h.block g (Nat.lt_of_lt_of_le (HPP.out.1 g hg).1 hwb)).trans (stb g hg).2⟩
        exact z1i x yr src _ _ _ w' (HUX.out.1.stays fun g hg=>⟨(sO g hg).1,(sO g hg).2.trans (HK.out.2 g hg).2.symm⟩) (hsy.stays sO) (HPF.out.2.2.1.stays sO) (fun s hs=>by
         rw [HTA.out.1 x HXM.out,HTB.out.1 yr hyl]
         exact HMK.out.2.2 s hs) (by omega)
       have HQ:=Lib.hid (And.intro hrow (And.intro hq (And.intro hkept (And.intro hz2 (And.intro hown0 hcell)))))
       have HIM:=Lib.hid hI
       have HYR:=Lib.hid hyr
       have HNJ:=Lib.hid hnJ
       have hh0:wb.heap[w2.heap.size]?=some (.cells #[.slice pV (za0 a.vars b.vars).length kV,.slice pJ nJ kJ] 25)∧wb.heap[wr.heap.size]?=some (.cells #[.slice pu nu ku] 43)∧wb.heap[w3.heap.size]?=some (.cells #[.slice pS src.length kS] 84):=⟨hcell,hI.row,sbb⟩
       clear hrow hq hkept hz2 hown0 hcell hI hyr hnJ stb sbb hsy
       gi_upto_region 11 with fail
       refine zwe (.inr ⟨l,rfl⟩) (by rintro ⟨a,w,h⟩;exact h) (by kernel_rfl) (S:=fun W'=>W'.heap[w2.heap.size]?=some (.cells #[.slice pV (za0 a.vars b.vars).length kV,.slice pJ nJ kJ] 25)∧W'.heap[wr.heap.size]?=some (.cells #[.slice pu nu ku] 43)∧W'.heap[w3.heap.size]?=some (.cells #[.slice pS src.length kS] 84)) (fun i=>i == 9) (by kernel_rfl) hh0 (fun hh=>?_)
       have bq:Below wb.heap.size wb wb.drew:=(Below.refl _ _).drew
       have oq:=za6 hown bq
       clear hh0
       generalize wb.drew=wD at*
       refine zb6 (i:=0) (v:=.pointer (some ⟨w2.heap.size,1,none⟩)) rfl (by kernel_rfl) (by kernel_rfl) (by kernel_rfl) rfl (fun _ _ _ h=>h) (Or.inl ⟨by rfl,fun W _=>by go_simp⟩) (fun _=>hh) ?_
       try simp only [putS]
       refine za9 (i:=2) (v:=.slice pu nu ku) rfl (by kernel_rfl) (by kernel_rfl) (by kernel_rfl) rfl (by kernel_rfl) (by kernel_rfl) (fun _ _ _ h=>h) (Or.inl ⟨by rfl,fun W' h=>by have c0:=zad h.2.1 0 rfl;go_simp⟩) (hh) ?_
       try simp only [putS]
       refine zb6 (i:=3) (v:=us y.1) rfl (by kernel_rfl) (by kernel_rfl) (by kernel_rfl) rfl (fun _ _ _ h=>h) (Or.inl ⟨by rfl,fun W _=>by go_simp⟩) (fun _=>hh) ?_
       try simp only [putS]
       refine za9 (i:=4) (v:=.slice pS src.length kS) rfl (by kernel_rfl) (by kernel_rfl) (by kernel_rfl) rfl (by kernel_rfl) (by kernel_rfl) (fun _ _ _ h=>h) (Or.inl ⟨by rfl,fun W' h=>by have c0:=zad h.2.2 0 rfl;go_simp⟩) (hh) ?_
       try simp only [putS]
       refine za9 (i:=1) (v:=.slice pJ nJ kJ) rfl (by kernel_rfl) (by kernel_rfl) (by kernel_rfl) rfl (by kernel_rfl) (by kernel_rfl) (fun _ _ _ h=>h) (Or.inl ⟨by rfl,fun W' h=>by have c0:=zad h.1 1 rfl;go_simp⟩) (hh) ?_
       try simp only [putS]
       refine zaw (rs:=[5]) (by kernel_rfl) (by simp) ?_
       refine zan.cons rfl (fun K hK=>?_) zan.nil
       try rw [if_pos (by rfl)]
       go_simp
       refine (HME.out _ bq).mono ?_
       rintro e0 w4 ⟨u8,c8,rfl,hc8,hr8,hb8⟩
       have hh4:=And.intro ((hb8.block _ (zaa hh.1)).trans hh.1) (And.intro ((hb8.block _ (zaa hh.2.1)).trans hh.2.1) ((hb8.block _ (zaa hh.2.2)).trans hh.2.2))
       obtain ⟨v8,rfl,hs8,_,_⟩:=id hr8
       obtain ⟨p8,n8,k8,rfl⟩:∃ p n k,v8=.slice p n k:=by
        obtain ⟨a,b,c⟩:=hs8.slice
        exact ⟨a,_,b,c⟩
       have b4:=zab bq hb8 bq.size
       have o4:=za6 oq hb8
       have H8:=Lib.hid (rowE.stays (P':=New wb w4) (fun g hg=>⟨⟨Nat.le_trans bq.size hg.1,hg.2⟩,rfl⟩) hr8)
       have h4s:=b4.size
       clear hr8 hs8 hb8
       refine hK.out _ _ (hh4) (fun _=>?_)
       clear hK K
       try simp only [putS]
       refine zaw (rs:=[6]) (by kernel_rfl) (by simp) ?_
       refine zan.cons rfl (fun K hK=>?_) zan.nil
       try rw [if_pos (by rfl)]
       refine ztg 23 43 (.tmp 52) rfl u8 [.slice p8 n8 k8] rfl hc8 i0 _ 1 rfl (by decide) (by decide) Tryz.underlying23 hi hy0 hy1 ?_
       have hh5:=And.intro (zaq (.cells [Value.slice p8 n8 k8].toArray 43) hh4.1) (And.intro (zaq (.cells [Value.slice p8 n8 k8].toArray 43) hh4.2.1) (zaq (.cells [Value.slice p8 n8 k8].toArray 43) hh4.2.2))
       refine hK.out _ _ (hh5) (fun _=>?_)
       clear hK K
       try simp only [putS]
       refine zaw (rs:=[7]) (by kernel_rfl) (by simp) ?_
       refine zan.cons rfl (fun K hK=>?_) zan.nil
       try rw [if_pos (by rfl)]
       refine zbx (P:=Tryz.prog) (w:=w4.alloc (.cells [Value.slice p8 n8 k8].toArray 43)) (.tmp 48) (.tmp 53) 23 rfl wR.heap.size 43 i0 (.slice none 0 0) 1 24 Tryz.underlying23 hi hy0 hy1 hy2 rfl (by decide) (.slice pJ nJ kJ) nJ xs rfl (o4.alloc _) ⟨w4.heap.size,0,none⟩ 1 1 [.slice p8 n8 k8] rfl rfl (zb3 _ _ _) (by simp [Value.oneCell']) (by unfold maxLen;omega) (by omega) (by simp;omega) ?_
       intro R3 w5 ho5 hg5 _ hl5
       have hh6:=And.intro ((hg5.block _ (zaa hh5.1) (fun e=>by have:=(hown.lt _ e.symm).1;omega)).trans hh5.1) (And.intro ((hg5.block _ (zaa hh5.2.1) (fun e=>HQ.out.2.2.2.1 _ e.symm rfl)).trans hh5.2.1) ((hg5.block _ (zaa hh5.2.2) (fun e=>by have:=(hown.lt _ e.symm).1;omega)).trans hh5.2.2))
       obtain ⟨p3,k3,rfl⟩:=zat ho5
       refine hK.out _ _ (hh6) (fun _=>?_)
       clear hK K
       try simp only [putS]
       refine zb6 (i:=8) (v:=.pointer (some ⟨w2.heap.size,1,none⟩)) rfl (by kernel_rfl) (by kernel_rfl) (by kernel_rfl) rfl (fun _ _ _ h=>h) (Or.inl ⟨by rfl,fun W _=>by go_simp⟩) (fun _=>hh6) ?_
       try simp only [putS]
       refine zaw (rs:=[9]) (by kernel_rfl) (by simp) ?_
       refine zan.late rfl (by kernel_rfl) (fun K hK=>?_) zan.nil
       try rw [if_pos (by rfl)]
       have c0:=zad hh6.1 1 rfl
       have f0:=zdl hh6.1 1
       go_simp
       clear c0 f0
       refine hK.out _ _ ?_
       clear hK K
       try simp only [putS]
       refine zd0 (by kernel_rfl) ?_ _
       have hnx:=zru (N:=w9.heap.size) (B:=w9.heap.size) (W0:=wR) HQ.out.2.2.2.2.2 hown b4 hg5 hl5
       have hn0:=zru (N:=w9.heap.size) (B:=0) (W0:=wR) HQ.out.2.2.2.2.2 hown b4 hg5 hl5
       have hj2:=JI.next (b:=zib src x yr) HQ.out.2.2.2.2.2 HQ.out.2.2.2.2.1 HQ.out.1 HQ.out.2.1 HQ.out.2.2.1 hjR b4 H8.out (by rw [← HNJ.out];exact ho5) hg5 hl5
       refine ⟨hnx.2.1,hnx.2.2.1,⟨⟨_,by rw [List.map_append,← List.append_assoc];rw [HYR.out] at hj2;exact hj2,fun z hz=>?_⟩,?_,⟨fun D hD=>⟨(HIM.out.marks.at_ D hD).1,hn0.2.1.same D _ (Nat.zero_le _) (HIM.out.marks.at_ D hD).2 rfl⟩,HIM.out.marks.nodup⟩,Nat.le_trans HIM.out.size hnx.2.2.2⟩⟩
       ·rcases hl5 with q | q
        ·exact HQ.out.2.2.2.1 z (q.symm.trans hz)
        ·rw [q] at hz
         have h1:=Option.some.inj hz
         simp at h1
         omega
       ·exact (hnx.1 _ hrl (by omega) (fun e=>HQ.out.2.2.2.1 _ e rfl)).trans HIM.out.row
      case done=>
       rintro D ys wd hD hys hI hK
       obtain ⟨R2,hji,hz2⟩:=hI.ji
       have hys':ys.map Subtype.val=fitN sh x b.rows:=hys
       have ebs:zbn sh src (a.rows.take j) b.rows++ys.map (fun y:RowN b.rows=>zib src x (b.rows.getD y.1 []))=zbn sh src (a.rows.take (j+1)) b.rows:=by
        rw [HSN.out]
        unfold zl2
        rw [← hys',List.map_map]
        rfl
       rw [ebs] at hji
       have HDN:=Lib.hid (And.intro hji (zwf.mk (B:=wR.heap.size) (Ds:=D::Ds) (w:=wd) (fun E hE=>by
        rcases List.mem_cons.1 hE with rfl | hE
        ·exact ⟨by omega,hK⟩
        ·exact hI.marks.at_ E hE) (List.nodup_cons.2 ⟨fun h=>absurd (HDS.out D h) (by omega),hI.marks.nodup⟩)))
       clear hji hI hys hys' ebs hK hz2
       gi_wp2
       gi_roundg (gk - 1)
       case measure=>omega
       case rel=>exact ⟨j+1,R2,D::Ds,by omega,by go_num,rfl,HDN⟩
      case stop=>
       rintro D c pre W' _ _ h _
       exact h.elim
     ·have hj2:j=a.rows.length:=by omega
      have htk:a.rows.take j=a.rows:=by rw [List.take_of_length_le];omega
      have hji:=HX.out.1
      rw [htk] at hji
      have hmk:=HX.out.2
      have vJr:=hji.cell
      have u4r:=(hji.kept.block (W.heap.size+1+1) (by omega) (by omega)).trans HMK.out.2.1
      have hkz:=hji.kept.size
      have hkp:=hji.kept
      obtain ⟨xs,Q,hown,hrow,hq⟩:=hji.own
      obtain ⟨pJ,kJ,rfl⟩:=zat hown
      have HFN:=Lib.hid (And.intro hown (And.intro hrow (And.intro hq (And.intro hkp hmk))))
      clear hown hrow hq hkp hmk hji htk HX
      gi_wp2_with (first
       |((with_reducible refine zi9 zf1 (.tmp 5) w2.heap.size _ _ vJr ?_ ?_ ?_ ?_);rfl;rfl;rfl)
       |((with_reducible refine zco zf1 (.tmp 4) (.tmp 57) (W.heap.size+1+1) 25 25 _ [.slice pV (za0 a.vars b.vars).length kV,.slice pJ (zbn sh src a.rows b.rows).length kJ] 2 u4r rfl ?_ ?_ ?_ ?_ zag rfl (zbv rfl rfl) ?_);rfl;rfl;rfl;rfl;intro wY oY vY))
      obtain ⟨hown,hrow,hq,hkp,hmk⟩:=HFN.out
      have hnD:∀ g,IsC wr g→g ∉ Ds:=fun g hg hD=>by
       obtain ⟨o,h1,h2⟩:=hg
       rw [(hmk.at_ g hD).2] at h1
       cases h1
       cases h2
      have hlD:∀ g,g < wR.heap.size→g ∉ Ds:=fun g hg hD=>by have:=(hmk.at_ g hD).1;omega
      have bw:Below W.heap.size W wr:=(HB1.out.trans (HB1R.out.mono HB1.out.size)).trans (hkp.low (B:=W.heap.size) (by omega) (fun i h=>by omega))
      have bY:=zam bw oY (by omega) bw.size
      have hrS:zai rowE wr (fun g=>wR.heap.size≤g∧g < wr.heap.size∧IsC wr g) (.slice pJ (zbn sh src a.rows b.rows).length kJ) (zbn sh src a.rows b.rows):=zbm hown hrow (fun g h=>⟨(hq g h).1,(hq g h).2.1,(hq g h).2.2.2⟩) (fun g e=>⟨(hown.lt g e).1,(hown.lt g e).2,own_isC hown e⟩)
      have hVr:zai zaz wr (fun g=>W1.heap.size≤g∧g < w2.heap.size) _ _:=HPF.out.2.2.2.2.stays fun g hg=>⟨hg,hkp.block g (by have:=hg.2;omega) (by have:=hg.2;omega)⟩
      refine zml (fun h=>by cases h) Ds wY (fun D hD=>(oY.block D (zaa (hmk.at_ D hD).2) (by have:=(hmk.at_ D hD).1;omega)).trans (hmk.at_ D hD).2) hmk.nodup (fun wF h1 h2 h3 h4 h5=>?_)
      have vF:=(h5 (W.heap.size+1+1) (hlD _ (by omega))).trans vY
      have bF:Below wY.heap.size wY wY:=Below.refl _ _
      have same:∀ g,g < wr.heap.size→g≠W.heap.size+1+1→g ∉ Ds→wF.heap[g]?=wr.heap[g]?:=fun g a1 a2 a3=>(h5 g a3).trans (oY.block g a1 a2)
      have hYs:=oY.size
      refine ⟨_,results_cell_row (p:=4) (ty:=25) Tryz.results25 _ _ (W.heap.size+1+1) 25 _ (0,0) _ rfl vF Tryz.underlying25 rfl zag,_,[_,_],rfl,rfl,?_,⟨h2.trans bY.os,h3.trans bY.tape,h4.trans bY.output,by rw [h1];exact bY.size,fun k hk=>(h5 k (hlD k (by omega))).trans (bY.block k hk)⟩⟩
      rw [HJ2.out,← HSHE.out]
      refine ⟨_,_,rfl,hVr.stays (fun g hg=>?_),hrS.stays (fun g hg=>?_),HV.out.2,zb0 hown,by show (za0 a.vars b.vars).length≤2097152;omega,by have h:=HTOT.out;rw [← HSHE.out] at h;exact h⟩
      ·have a1:=hg.1
       have a2:=hg.2
       exact ⟨⟨by omega,by rw [h1];omega⟩,same g (by omega) (by omega) (hlD g (by omega))⟩
      ·obtain ⟨a1,a2,a3⟩:=hg
       exact ⟨⟨by omega,by rw [h1];omega⟩,same g a2 (by omega) (hnD g a3)⟩
  ·rw [decide_eq_false hle] at HO
   have HJ2:Hid (jt=⟨[],[]⟩):=Lib.hid (by rw [HJT.out];unfold zon;rw [if_neg (fun h=>hle h.2)])
   clear HJT HJN hp hle
   gi_upto_region 3 with (first
    |((with_reducible refine zi9 zf1 (.tmp 2) W.heap.size _ _ u2 ?_ ?_ ?_ ?_);rfl;rfl;rfl)
    |((with_reducible refine zi9 zf1 (.tmp 3) (W.heap.size+1) _ _ u3 ?_ ?_ ?_ ?_);rfl;rfl;rfl)
    |(refine ⟨trivial,?_⟩;gi_at_call 73;(with_reducible refine (callsIn_wide.2 HO.out).mono ?_);rintro e w2 ⟨V,rfl,hsV,hkV,hoV,hb2⟩;obtain ⟨pV,kV,rfl⟩:=hsV.slice)
    |((with_reducible refine zco zf1 (.tmp 5) (.tmp 16) w2.heap.size 25 25 _ [.slice pV (za0 a.vars b.vars).length kV,.slice none 0 0] 2 (zaf _ _ rfl) rfl ?_ ?_ ?_ ?_ zag rfl (zbv rfl rfl) ?_);rfl;rfl;rfl;rfl;intro wX oX vX))
   have bX:Below w2.heap.size w2 wX:=zam (zav w2 _) oX (Nat.le_refl _) (by simp)
   have b2:=zab hb2 bX hb2.size
   have u4X:=(b2.block _ (zaa HU.out.2.2)).trans HU.out.2.2
   have hB1:=HB1.out
   have bWX:=hB1.trans (b2.mono hB1.size)
   clear hb2 bX b2 oX vX u2 u3 hB1
   gi_wp2_with (first
    |((with_reducible refine zco zf1 (.tmp 4) (.tmp 20) (W.heap.size+1+1) 25 25 _ [.slice none 0 0,.slice none 0 0] 2 u4X rfl ?_ ?_ ?_ ?_ zag rfl (zbv rfl rfl) ?_);rfl;rfl;rfl;rfl;intro wY oY vY))
   rw [HJ2.out]
   exact ⟨_,results_cell_row (p:=4) (ty:=25) Tryz.results25 _ _ (W.heap.size+1+1) 25 _ (0,0) _ rfl vY Tryz.underlying25 rfl zag,_,[_,_],rfl,rfl,zex _ _,zam bWX oY (by omega) bWX.size⟩
 ·have hov:Calls Tryz.prog 73 #[.agg #[.slice pA a.vars.length kA,.slice qA a.rows.length lA],.agg #[.slice pB b.vars.length kB,.slice qB b.rows.length lB]] W1 fun e w'=>e=.returned (.tuple #[.agg #[.slice none 0 0,.slice none 0 0],.bool false])∧Below W1.heap.size W1 w':=HOV.out.mono fun e w' h=>by
   unfold zim at h
   rwa [if_neg hp] at h
  have HO:=Lib.hid hov
  have HJ2:Hid (jt=⟨[],[]⟩):=Lib.hid (by rw [HJT.out];unfold zon;rw [if_neg (fun h=>hp h.1)])
  clear hov HOV HJT HJN hp
  gi_upto_region 3 with (first
   |((with_reducible refine zi9 zf1 (.tmp 2) W.heap.size _ _ u2 ?_ ?_ ?_ ?_);rfl;rfl;rfl)
   |((with_reducible refine zi9 zf1 (.tmp 3) (W.heap.size+1) _ _ u3 ?_ ?_ ?_ ?_);rfl;rfl;rfl)
   |(refine ⟨trivial,?_⟩;gi_at_call 73;(with_reducible refine (callsIn_wide.2 HO.out).mono ?_);rintro e w2 ⟨rfl,hb2⟩)
   |((with_reducible refine zco zf1 (.tmp 5) (.tmp 16) w2.heap.size 25 25 _ [.slice none 0 0,.slice none 0 0] 2 (zaf _ _ rfl) rfl ?_ ?_ ?_ ?_ zag rfl (zbv rfl rfl) ?_);rfl;rfl;rfl;rfl;intro wX oX vX))
  have bX:Below w2.heap.size w2 wX:=zam (zav w2 _) oX (Nat.le_refl _) (by simp)
  have b2:=zab hb2 bX hb2.size
  have u4X:=(b2.block _ (zaa HU.out.2.2)).trans HU.out.2.2
  have hB1:=HB1.out
  have bWX:=hB1.trans (b2.mono hB1.size)
  clear hb2 bX b2 oX vX u2 u3 hB1
  gi_wp2_with (first
   |((with_reducible refine zco zf1 (.tmp 4) (.tmp 20) (W.heap.size+1+1) 25 25 _ [.slice none 0 0,.slice none 0 0] 2 u4X rfl ?_ ?_ ?_ ?_ zag rfl (zbv rfl rfl) ?_);rfl;rfl;rfl;rfl;intro wY oY vY))
  rw [HJ2.out]
  exact ⟨_,results_cell_row (p:=4) (ty:=25) Tryz.results25 _ _ (W.heap.size+1+1) 25 _ (0,0) _ rfl vY Tryz.underlying25 rfl zag,_,[_,_],rfl,rfl,zex _ _,zam bWX oY (by omega) bWX.size⟩
end YteclpnfckjfibaaGreatDoor
end Go.Proofs
