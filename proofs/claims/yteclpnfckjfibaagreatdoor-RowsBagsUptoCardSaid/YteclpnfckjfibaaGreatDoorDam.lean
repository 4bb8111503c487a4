/- Texts of one kind, one behind the other: each says ahead of itself what it shows. -/
import Derived.Test.YteclpnfckjfibaaGreatDoorDal
import Derived.Test.YteclpnfckjfibaaGreatDoorDah
import Derived.Laws.ResultCell
import Derived.Test.YteclpnfckjfibaaGreatDoorDaf
/- IC -/
namespace Go.Proofs
open Go.Shelf
namespace YteclpnfckjfibaaGreatDoor
open Go.RowKit
attribute [local go_sem] Oper.semAt_some
section
variable {F:Fence} {n:Nat} {Q:Exit→Act→World→Prop}
def zk8 (F:Fence):Prop:=F=Fence.wide∨∃ l,F=Fence.wide.inRound l
theorem oper_in (hF:zk8 F) (_hQ:¬ LetsOut Q) {o:Oper} (hd:∀ c,o.op≠.defer c) {a:Act} {w:World} {K:Act→World→Prop} (h:o.wp Tryz.prog a w K Q):o.wpIn F n Tryz.prog a w K Q:=by
 refine ⟨fun _ _=>by rcases hF with rfl | ⟨l,rfl⟩ <;> trivial,?_⟩
 rw [Oper.semAt_plain _ _ _ hd]
 unfold Oper.wp at h
 generalize (execOp a.eval o).run Tryz.prog w=r at h
 have hdep:F.depth.isSome=true→1≤n:=fun h=>by rcases hF with rfl | ⟨l,rfl⟩ <;> cases h
 match r,h with
 | .ok (.value v) w',h=>exact h
 | .ok .skip w',h=>exact h
 | .ok (.defer d) w',h=>exact h
 | .ok (.enter f args) w',h=>exact ⟨hdep,by
    rcases hF with rfl | ⟨l,rfl⟩
    ·exact callsIn_wide.2 h
    ·exact CallsIn.inRound l (callsIn_wide.2 h)⟩
 | .ok (.row row args) w',h=>exact ⟨hdep,fun c cs _=>by
    obtain ⟨v,w2,hr,hs⟩:=h c cs
    rcases hF with rfl | ⟨l,rfl⟩ <;> exact ⟨v,w2,hr,stepsIn_wide.2 hs⟩⟩
 | .ok (.round _ _ _ _ _) _,h=>exact h.elim
 | .halt (.panic v) w',h=>exact h
theorem wpOp_in (hF:zk8 F) (hQ:¬ LetsOut Q) {ops:Array Oper} (hd:∀ (i:Nat) (o:Oper),ops[i]?=some o→∀ c,o.op≠.defer c) {i:Nat} {K K':Act→World→Prop} (hK:∀ a w,K a w→K' a w) {a:Act} {w:World} (h:wpOp Tryz.prog ops Q i K a w):wpOpIn F n Tryz.prog ops Q i K' a w:=by
 unfold wpOp at h
 unfold wpOpIn
 cases ho:ops[i]? with
 | none=>rw [ho] at h;exact hK _ _ h
 | some o=>
   rw [ho] at h
   simp only at h ⊢
   by_cases hw:Region.wanted o (yielded ops a.tmps)=true
   ·rw [if_pos hw] at h ⊢
    rcases h with h | h
    ·exact Oper.wpIn_mono hK (oper_in hF hQ (hd i o ho) h)
    ·exact absurd h.2 hQ
   ·rw [if_neg hw] at h ⊢
    exact ⟨fun _ _=>by rcases hF with rfl | ⟨l,rfl⟩ <;> trivial,hK _ _ h⟩
theorem zqn (hF:zk8 F) (hQ:¬ LetsOut Q) {ops:Array Oper} (hd:∀ (i:Nat) (o:Oper),ops[i]?=some o→∀ c,o.op≠.defer c):∀ (fuel:Nat) (listed:Array Bool) (a:Act) (w:World),wpAny Tryz.prog .any ops Q fuel listed a w→wpAnyIn F n Tryz.prog .any ops Q fuel listed a w
 | 0,_,_,_,h=>h
 | fuel+1,_,_,_,h=>⟨h.1,fun i hi=>wpOp_in hF hQ hd (fun a' w' h'=>zqn hF hQ hd fuel _ a' w' h') (h.2 i hi)⟩
theorem zrp (hF:zk8 F) (hQ:¬ LetsOut Q) {id:Nat} {ops:Array Oper} (hd:(ops.all fun o=>match o.op with | .defer _=>false | _=>true)=true) {S:World→Prop} {a:Act} {w:World} (hm:Tryz.prog.follows .mixedOrders=true) (hS:S w.drew)
 (h:S w.drew→wpAnyH Tryz.prog .any ops Q S ops.size (Array.replicate ops.size false) a w.drew):(Code.region id ops true).wpIn F n Tryz.prog Q a w:=by
 refine wpIn_region_any hm (zqn hF hQ (fun i o ho c hc=>?_) _ _ _ _ (wpAny_of_held _ _ _ _ (h hS)))
 have:=(Array.all_eq_true_iff_forall_mem.1 hd) o (Array.mem_of_getElem? ho)
 rw [hc] at this
 cases this
end
theorem wideR (l:Nat):∀ f,(Fence.wide.inRound l).fn f:=fun _=>trivial
theorem zzl {α:Type} {J:List α→World→Prop} {B B':Nat} (h:AbidesFrom B J) (k:B≤B'):AbidesFrom B' J:=fun s W W' row hs hg hr=>h s W W' row hs hg fun r e=>⟨Nat.le_trans k (hr r e).1,(hr r e).2⟩
theorem range5 {w:World} {g:Nat} {A B R M L:Value} (h:w.heap[g]?=some (.cells #[A,B,R,M,L] 90)):w.rangeAt g 0 [A,B,R,M,L]:=zce h 0 _ (fun j u hu=>by
 match j,hu with
 | 0,e | 1,e | 2,e | 3,e | 4,e=>simpa using e
 | j+5,e=>simp at e)
theorem zrq {w:World} {P:Nat→Prop}:{xs:List Value}→(l:List Val)→RowE valE w P xs l→∀ v∈l,zn3 v
 | _,[],_,v,h=>by cases h
 | _,a::l,hr,v,h=>by
   unfold RowE at hr
   obtain ⟨c,ys,rfl,hc,hr⟩:=hr
   rcases List.mem_cons.1 h with rfl | h
   ·obtain ⟨k,b,n,t,x,q⟩:=v
    obtain ⟨L,rfl,hf,hq⟩:=hc
    unfold zn3
    exact ⟨hf,Held.fine q (zbe.held q hq)⟩
   ·exact zrq l hr v h
theorem zai.fine {w:World} {P:Nat→Prop} {u:Value} {l:List Val} (h:zai valE w P u l):∀ v∈l,zn3 v:=by
 intro v hv
 obtain ⟨p,cap,rfl,h⟩:=h
 obtain ⟨g,off,xs,rfl,_,_,hr⟩:=h (by intro e;subst e;cases hv)
 exact zrq l hr v hv
theorem zzm {w:World} {P:Nat→Prop} {R:Value} {rows:List (List Val)} (h:zai rowE w P R rows):∃ us:Nat→Value,∀ i (h:i < rows.length),∃ g off cap,R=.slice (some ⟨g,off,none⟩) rows.length cap∧P g∧w.cell? ⟨g,off+i,none⟩=some (us i)∧zai valE w P (us i) rows[i]∧rows[i].length≤2097152:=by
 obtain ⟨g0,o0,hgo⟩:∃ g0 o0,∀ g off cap,R=.slice (some ⟨g,off,none⟩) rows.length cap→g=g0∧off=o0:=by
  obtain ⟨p,cap,rfl,_⟩:=h
  match p with
  | none=>exact ⟨0,0,fun g off c e=>by cases e⟩
  | some ⟨g0,o0,t⟩=>exact ⟨g0,o0,fun g off c e=>by cases e;exact ⟨rfl,rfl⟩⟩
 refine ⟨fun i=>(w.cell? ⟨g0,o0+i,none⟩).getD undef,fun i hi=>?_⟩
 obtain ⟨g,off,cap,c,e,hg,hr,ha⟩:=h.at_ i hi
 obtain ⟨rfl,rfl⟩:=hgo _ _ _ e
 obtain ⟨v,rfl,hs,_,hl⟩:=hr
 have hc:w.cell? ⟨g,off+i,none⟩=some v:=by
  have:=ha 0 _ rfl
  simpa [rowE] using this
 refine ⟨g,off,cap,e,hg,?_,?_,hl⟩
 ·show _=some ((w.cell? ⟨g,off+i,none⟩).getD undef)
  rw [hc]
  rfl
 ·show zai valE w P ((w.cell? ⟨g,off+i,none⟩).getD undef) _
  rw [hc]
  exact hs
set_option maxHeartbeats 1600000 in
theorem zmj (pA pB pR pL pu:Option Addr) (nA kA nB kB nR kR nL kL nu ku mb:Nat) (w:World):Calls Tryz.prog 77 #[.agg #[.slice pA nA kA,.slice pB nB kB,.slice pR nR kR,.map (some mb),.slice pL nL kL],.slice pu nu ku] w fun e w'=>
 e=.returned (.func (.func 127) #[] #[.pointer (some ⟨w.heap.size+1,0,none⟩),.pointer (some ⟨w.heap.size,0,none⟩)])∧w'=(w.alloc (.cells #[.slice pA nA kA,.slice pB nB kB,.slice pR nR kR,.map (some mb),.slice pL nL kL] 90)).alloc (.cells #[.slice pu nu ku] 43):=by
 obtain ⟨W1,hW1⟩:∃ W1,W1=(w.alloc (.cells #[.slice pA nA kA,.slice pB nB kB,.slice pR nR kR,.map (some mb),.slice pL nL kL] 90)).alloc (.cells #[.slice pu nu ku] 43):=⟨_,rfl⟩
 have HW:=Lib.hid hW1
 clear hW1
 go_enter Tryz.func77,Tryz.ntmps77
 go_upto_region 1 with fail
 rw [← HW.out]
 go_wp2_with fail
 go_ret
 exact ⟨rfl,HW.out⟩
def NumI {rows:List (List Val)} (N:Nat) (Ow:World→Nat→Prop) (J:List (RowN rows)→World→Prop) (V0:World) (L:List Nat) (wr:World):Prop:=KpO N Ow V0 wr∧∃ L':List (RowN rows),L'.map Subtype.val=L∧J L' wr
set_option maxHeartbeats 12800000 in
set_option maxRecDepth 20000 in
theorem zn5 (sh:List (Nat × Nat)) (rows:List (List Val)) (A B R L u:Value) (mb:Nat) (r:List Val) (us:Nat→Value) (w:World) (Ow:World→Nat→Prop) (P:Nat→Prop) (g2 g3:Nat) (hG:Gd w) (ow:OwN w.heap.size Ow) (oN:∀ k,Ow w k→k < w.heap.size) (hP:∀ k,P k→k < w.heap.size∧¬ Ow w k)
 (hx:IxIn sh rows A B R mb L P w) (hu:zai valE w P u r) (hus:∀ i (h:i < rows.length),∃ g off cap,R=.slice (some ⟨g,off,none⟩) rows.length cap∧P g∧w.cell? ⟨g,off+i,none⟩=some (us i)∧zai valE w P (us i) rows[i]∧rows[i].length≤2097152)
 (h2:w.heap[g2]?=some (.cells #[A,B,R,.map (some mb),L] 90)) (h3:w.heap[g3]?=some (.cells #[u] 43)) (n2:¬ Ow w g2) (n3:¬ Ow w g3) (hin:∀ x∈rows,∀ p∈sh,p.1 < r.length∧p.2 < x.length) (hin1:∀ p∈sh,p.1 < r.length) (hmr:∀ v∈r,mayP v 0=true) (hmx:∀ x∈rows,∀ v∈x,mayP v 0=true) (hwt:13*wAll (zby sh r)≤700000000)
 (hsn:sh.length≤2097152) (hrn:r.length≤2097152) (hn:rows.length≤2097152):
 SeqStopsK Fence.wide 3 Tryz.prog 127 #[.pointer (some ⟨g3,0,none⟩),.pointer (some ⟨g2,0,none⟩)] (fun x:RowN rows=>#[us x.1]) (KpO w.heap.size Ow) (fun ys=>ys.map Subtype.val=fitN sh r rows) (fun pre=>pre.map Subtype.val <+: fitN sh r rows) (fitN sh r rows).length w:=by
 intro l J Jx W hW hJ hJx hY hJ0
 have HY:Hid (∀ m pre (x:RowN rows) W1,J pre W1→pre.length < (fitN sh r rows).length→YieldAt Fence.wide m Tryz.prog l #[us x.1] W1 (z31 w.heap.size Ow J Jx pre x W1)):=Lib.hid fun m pre x W1 a b=>by
  obtain ⟨fn,tmps,assign,body,h,hR⟩:=hY pre x W1 a b
  exact ⟨fn,tmps,assign,body,h,hR.1,fun c cs _=>hR.2 c cs (fun d h=>by cases h)⟩
 have hrise:=fun hA=>zzj sh rows r hin hA hu.fine (fun x hx v hv=>by
  obtain ⟨i,hi,rfl⟩:=List.getElem_of_mem hx
  obtain ⟨_,_,_,_,_,_,hs,_⟩:=hus i hi
  exact hs.fine v hv) hmr hmx hin1
 have HRI:=Lib.hid hrise
 clear hrise hY hJx
 have hc:CSet w w.heap.size Ow P sh rows A B R u r us:=⟨ow,Nat.le_refl _,hP,hx.shd,hx.rws,hu,hus⟩
 obtain ⟨pA,kA,pB,kB,rfl,rfl⟩:=hx.shd.slice
 obtain ⟨pR,kR,rfl⟩:=hx.rws.slice
 obtain ⟨pL,kL,rfl⟩:=hx.loose.1.slice
 obtain ⟨pu,ku,rfl⟩:=hu.slice
 have hWk:KpO w.heap.size Ow w W:=⟨hW.size,fun k o e _ _=>(hW.block k (zaa e)).trans e,fun k _ x=>ow _ _ _ hW x⟩
 have cW:=hc.move hWk
 have h2W:=(hW.block _ (zaa h2)).trans h2
 have h3W:=(hW.block _ (zaa h3)).trans h3
 have hsa:zai intE W (Old W) (.slice pA sh.length kA) ((sh.map (·.1)).map fun i:Nat=>(i:Int)):=by
  have:=(cW.sh.stays cW.old).a
  rwa [List.map_map]
 have HC:=Lib.hid (zs3 r (sh.map (·.1)) (.slice pu r.length ku) (.slice pA sh.length kA) W (cW.u.stays cW.old) hsa (fun i hi=>by
  obtain ⟨p,hp,rfl⟩:=List.mem_map.1 hi
  exact hin1 p hp) (by simpa using hsn))
 have HGW:=Lib.hid (hG.below hW)
 have HCW:=Lib.hid cW
 have HWB:=Lib.hid hW
 have HIX:=Lib.hid hx
 have HB:=Lib.hid (And.intro h2W h3W)
 have HP:=Lib.hid (And.intro ow (And.intro oN (And.intro hP (And.intro n2 n3))))
 have HJ:=Lib.hid hJ
 have HJ0:=Lib.hid hJ0
 have HIN:=Lib.hid hin
 have HMA:=Lib.hid (fun v (hv:v∈zby sh r)=>hmr v (zl1 hin1 hv))
 have ca:=zad h2W 0 rfl
 have cu:=zad h3W 0 rfl
 clear hc cW hWk hsa hG hW hx h2 h3 h2W h3W n2 n3 hP oN ow hJ hJ0 hin hu hus hin1 hmr hmx
 refine callsIn_of_wp Tryz.func127 rfl trivial ?_ rfl
 simp only [Tryz.ntmps127,List.size_toArray,List.length_cons,List.length_nil,Nat.reduceAdd,Nat.reduceSub,Array.replicate_succ,Array.replicate_zero,List.push_toArray,List.append_toArray,List.nil_append,List.cons_append]
 gi_upto_region 1 with (first
  |(refine ⟨trivial,?_⟩;gi_at_call 125;(with_reducible refine (callsIn_wide.2 HC.out).mono ?_);rintro e w3 ⟨V,xs,rfl,hown,hrow,hb3⟩))
 have hown2:=hown
 rw [List.length_map,List.length_map] at hown2
 obtain ⟨pV,kV,rfl⟩:=zat hown2
 have hsl:zai valE w3 (Old w3) (.slice pV sh.length kV) (zby sh r):=zbm hown hrow (fun g hg=>Nat.lt_of_lt_of_le hg hb3.size) (fun g e=>(hown.lt g e).2)
 have hcl:(zby sh r).length=sh.length:=by simp [zby]
 have HE:=Lib.hid (zns isB (zby sh r) _ w3 hsl (by rw [hcl];exact hsn) (fun x _ W' c _ hr=>(zd6 x W' c (Old W') hr).mono (by rintro e w' ⟨rfl,h⟩;exact ⟨rfl,h.is⟩)))
 obtain ⟨q,hq⟩:∃ q,q=(zby sh r).all isB:=⟨_,rfl⟩
 rw [← hq] at HE
 have HSL:=Lib.hid (And.intro hsl hcl)
 have HQ:=Lib.hid hq
 have HB3:=Lib.hid hb3
 have h23:=(hb3.block _ (zaa HB.out.1)).trans HB.out.1
 have h33:=(hb3.block _ (zaa HB.out.2)).trans HB.out.2
 clear hown hown2 hrow hsl hq ca cu hcl HC
 cases q with
 | false=>
   gi_upto_region 2 with (first
    |(refine ⟨trivial,?_⟩;gi_at_call 55;(with_reducible refine (callsIn_wide.2 HE.out).mono ?_);rintro e w4 ⟨rfl,hb4⟩))
   have b4:=zab HB3.out hb4 HB3.out.size
   have h24:=(hb4.block _ (zaa h23)).trans h23
   have h34:=(hb4.block _ (zaa h33)).trans h33
   have c34:=zad h34 0 rfl
   have hz4:=b4.size
   have HK4:=Lib.hid (KpO.of_below b4 HWB.out.size HP.out.1)
   have HB4:=Lib.hid b4
   clear hb4 hb3 b4 h23 h33 h34
   gi_wp2_with (first
    |((with_reducible refine ztc zf1 (.tmp 2) g2 _ _ _ _ _ h24 ?_ ?_ ?_ ?_);rfl;rfl;rfl)
    |(refine ⟨trivial,?_⟩;gi_at_call 128;refine Hid.out ?_))
   refine Lib.hid ?_
   refine (callsIn_wide.2 (callsIn_wide.1 (lookAt sh rows _ _ _ _ _ mb r us w4 w.heap.size Ow P (HCW.out.move HK4.out) (fun k x=>Nat.lt_of_lt_of_le (HP.out.2.1 k (HP.out.1 _ _ _ (HWB.out.trans (HB4.out.mono HWB.out.size)) x)) (Nat.le_trans HWB.out.size hz4)) HIN.out hsn hrn hn l J Jx (zzl HJ.out hz4) (zrn HJ.out HJ0.out HB4.out) HY.out))).mono ?_
   rintro e w5 ⟨⟨v,rfl⟩,hres⟩
   have HRES:=Lib.hid hres
   clear hres h24 c34
   gi_wp2
   refine bodyPost_ret (results_none rfl _ _ _) rfl ?_
   exact ⟨⟨_,rfl⟩,HRES.out⟩
 | true=>
   obtain ⟨ek,hek⟩:∃ ek,ek=zao (zby sh r):=⟨_,rfl⟩
   have HKL:Hid (ek.length≤900000000):=Lib.hid (by
    rw [hek]
    have:=zdg (zby sh r)
    omega)
   have HEN:Hid (∀ w',Below w3.heap.size w3 w'→Calls Tryz.prog 69 #[.slice pV sh.length kV] w' fun e w2=>e=.returned (.string (bsB ek))∧Below w'.heap.size w' w2):=Lib.hid fun w' h=>by
    rw [hek]
    exact zig (zby sh r) _ w' (HGW.out.below (zab HB3.out h HB3.out.size)) (HSL.out.1.stays (zae h)) HMA.out hwt (by rw [HSL.out.2];exact hsn)
   have HRI2:Hid (zy6 sh rows r ek=(fitN sh r rows).map fun i:Nat=>(i:Int)):=Lib.hid (by rw [hek];exact HRI.out HQ.out.symm)
   clear hek
   gi_upto_region 3 with (first
    |(refine ⟨trivial,?_⟩;gi_at_call 55;(with_reducible refine (callsIn_wide.2 HE.out).mono ?_);rintro e w4 ⟨rfl,hb4⟩))
   have h24:=(hb4.block _ (zaa h23)).trans h23
   have h34:=(hb4.block _ (zaa h33)).trans h33
   have HB4:=Lib.hid hb4
   clear hb4 hb3 h23 h33 HE
   refine zrp (.inl rfl) (by rintro ⟨a,w,⟨v,e⟩,_⟩;cases e) (by kernel_rfl) (S:=fun W'=>W'.heap[g2]?=some (.cells #[.slice pA sh.length kA,.slice pB sh.length kB,.slice pR rows.length kR,.map (some mb),.slice pL (zbi sh rows).length kL] 90)∧W'.heap[g3]?=some (.cells #[.slice pu r.length ku] 43)) (by kernel_rfl) ⟨h24,h34⟩ (fun hh=>?_)
   have bq:Below w4.heap.size w4 w4.drew:=(Below.refl _ _).drew
   have b4:=zab HB4.out bq HB4.out.size
   have bW:=zab HB3.out b4 HB3.out.size
   clear h24 h34 bq
   generalize w4.drew=wD at*
   refine tk (i:=0) (v:=.agg #[.slice pA sh.length kA,.slice pB sh.length kB,.slice pR rows.length kR,.map (some mb),.slice pL (zbi sh rows).length kL]) rfl (yieldsIf_load_mid (by rfl) 90 (.tmp 2) rfl g2 0 rfl [.slice pA sh.length kA,.slice pB sh.length kB,.slice pR rows.length kR,.map (some mb),.slice pL (zbi sh rows).length kL] _ (fun W h=>range5 h.1) Tryz.underlying90 rfl zh7) (hh) ?_
   refine tk (i:=1) (v:=.slice pu r.length ku) rfl (Or.inl ⟨by rfl,fun W' h=>by have c0:=zad h.2 0 rfl;go_simp⟩) (hh) ?_
   refine tg (i:=2) (.slice pV sh.length kV) rfl (hh) ?_
   refine tg (i:=6) (.int .i64 0) rfl (hh) ?_
   refine tr 3 rfl (fun K hK=>?_)
   try rw [if_pos (by rfl)]
   go_simp
   refine (HEN.out _ b4).mono ?_
   rintro e0 wE ⟨rfl,hbE⟩
   have hh3:wE.heap[g2]?=some (.cells #[.slice pA sh.length kA,.slice pB sh.length kB,.slice pR rows.length kR,.map (some mb),.slice pL (zbi sh rows).length kL] 90)∧wE.heap[g3]?=some (.cells #[.slice pu r.length ku] 43):=⟨(hbE.block _ (zaa hh.1)).trans hh.1,(hbE.block _ (zaa hh.2)).trans hh.2⟩
   have bE:=zab bW hbE bW.size
   have bwE:=HWB.out.trans (bE.mono HWB.out.size)
   have HSZ:=Lib.hid bwE.size
   have HNU:=Lib.hid (zy7 sh rows _ _ _ _ (.slice pu r.length ku) mb r ek wE P (fun k hk=>Nat.lt_of_lt_of_le (HP.out.2.2.1 k hk).1 bwE.size) (HIX.out.stays fun k hk=>⟨hk,bwE.block k (HP.out.2.2.1 k hk).1⟩) ((HCW.out.u.stays HCW.out.old).stays (zae bE)) HKL.out HIN.out hsn hrn hn)
   clear hbE bwE
   refine hK.out _ _ (hh3) (fun _=>?_)
   clear hK K
   try simp only [putS]
   refine tr 4 rfl (fun K hK=>?_)
   try rw [if_pos (by rfl)]
   go_simp
   refine HNU.out.mono ?_
   rintro e0 w6 ⟨VN,rfl,hsN,hb6⟩
   rw [HRI2.out] at hsN
   obtain ⟨pN,kN,eVN⟩:=hsN.slice
   subst eVN
   rw [List.length_map] at hsN
   have HSN:=Lib.hid hsN
   have hh6:w6.heap[g2]?=some (.cells #[.slice pA sh.length kA,.slice pB sh.length kB,.slice pR rows.length kR,.map (some mb),.slice pL (zbi sh rows).length kL] 90)∧w6.heap[g3]?=some (.cells #[.slice pu r.length ku] 43):=⟨(hb6.block _ (zaa hh3.1)).trans hh3.1,(hb6.block _ (zaa hh3.2)).trans hh3.2⟩
   have b6:=zab bE hb6 bE.size
   try rw [List.length_map]
   clear hsN hb6
   refine hK.out _ _ (hh6) (fun _=>?_)
   clear hK K
   try simp only [putS]
   refine tg (i:=5) (.int .i64 ((fitN sh r rows).length:Nat)) rfl (hh6) ?_
   refine wpAnyH_done (by kernel_rfl) ?_ _
   gi_wp2_with fail
   have hlen:(fitN sh r rows).length≤2097152:=Nat.le_trans zus hn
   obtain ⟨nn,hnn⟩:∃ nn,nn=(fitN sh r rows).length:=⟨_,rfl⟩
   have inv0:Hid (NumI w.heap.size Ow J w6 ((fitN sh r rows).take 0) w6):=Lib.hid ⟨KpO.refl _,[],rfl,zrn HJ.out HJ0.out b6⟩
   have HN:=Lib.hid hnn
   rw [← hnn] at hlen ⊢
   have HB6:=Lib.hid (HWB.out.trans (b6.mono HWB.out.size))
   have HK6:=Lib.hid (KpO.of_below b6 HWB.out.size HP.out.1)
   have H26:=Lib.hid hh6.1
   clear hnn bW b6 hh hh3 hh6 HEN HNU
   gi_loopw [25] (fun i wr=>∃ k:Nat,k≤nn∧i=.int .i64 k∧Hid (NumI w.heap.size Ow J w6 ((fitN sh r rows).take k) wr)) (fun i _=>nn - (intOf i).toNat)
   case atStart=>exact ⟨0,Nat.zero_le _,rfl,inv0⟩
   case round=>
    clear inv0
    obtain ⟨k,hk,rfl,HV⟩:=hrel
    by_cases hlt:(k:Int) < nn
    ·have hk1:k < (fitN sh r rows).length:=by have:=HN.out;omega
     obtain ⟨m,hm⟩:∃ m,m=(fitN sh r rows)[k]:=⟨_,rfl⟩
     have hmr:m < rows.length:=by rw [hm];exact fitN_lt _ (List.getElem_mem hk1)
     have hkp:=HV.out.1
     have cw:=HCW.out.move (ztd HK6.out hkp)
     have hnot:∀ g,(P g∨wE.heap.size≤g)→¬ Ow w6 g:=fun g hg x=>by
      have hx:=HP.out.1 _ _ _ HB6.out x
      rcases hg with hg | hg
      ·exact (HP.out.2.2.1 g hg).2 hx
      ·exact absurd (HP.out.2.1 g hx) (by have:=HSZ.out;omega)
     obtain ⟨gN,oN,kN,c,eN,hgN,hrel,hra⟩:=HSN.out.at_ k (by simpa using hk1)
     injection eN with eN1 eN2 eN3
     subst eN1
     have ck:wr.cell? ⟨gN,oN+k,none⟩=some (.int .i64 m):=by
      obtain ⟨rfl,_⟩:=hrel
      have:=hra 0 _ rfl
      refine hkp.cell ?_ (hnot gN hgN)
      rw [hm]
      simpa [intE] using this
     obtain ⟨gR,oR,cap,eR,hgR,hcell,hsu,hxl⟩:=cw.us m hmr
     injection eR with eR1 eR2 eR3
     subst eR1
     obtain ⟨pv,rl,kv,huk⟩:∃ pv rl kv,us m=.slice pv rl kv:=by
      obtain ⟨a,b,c⟩:=hsu.slice
      exact ⟨a,_,b,c⟩
     have HUK:=Lib.hid huk
     rw [huk] at hcell
     have h2r:=hkp.cells H26.out (fun x=>HP.out.2.2.2.1 (HP.out.1 _ _ _ HB6.out x))
     have c2:=zad h2r 2 rfl
     have hmi:(m:Int) < rows.length:=by omega
     have hmo:m < 2097152:=by omega
     have htk:(fitN sh r rows).take (k+1)=(fitN sh r rows).take k++[m]:=by rw [List.take_succ_eq_append_getElem hk1,← hm]
     have HTK:=Lib.hid htk
     have htl:((fitN sh r rows).take k).length < (fitN sh r rows).length:=by rw [List.length_take];omega
     obtain ⟨hk0,L',hL',hJ'⟩:=HV.out
     obtain ⟨fn,tmps,assign,body,hy,hR⟩:=HY.out 2 L' ⟨m,hmr⟩ _ hJ' (by rw [← hL',List.length_map] at htl;exact htl)
     try dsimp only at hy
     rw [HUK.out] at hy
     have HR:=Lib.hid hR
     have HK0:=Lib.hid hk0
     have HL':=Lib.hid hL'
     have HMR:=Lib.hid hmr
     clear hR hL' hJ' hk0 hsu hxl hgR eR2 eR3 eN2 eN3 hra hrel hgN hnot htk htl cw hkp h2r hm hk1 huk
     gi_wp2_with fail
     refine HR.out.mono ?_
     rintro e W3 (⟨rfl,hJ3,hk3⟩ | ⟨rfl,hJx3⟩)
     ·have HV6:Hid (NumI w.heap.size Ow J w6 ((fitN sh r rows).take (k+1)) W3):=Lib.hid (by
       rw [HTK.out]
       exact ⟨ztd HK0.out hk3,_,by rw [List.map_append,HL'.out];rfl,hJ3⟩)
      clear hJ3 hk3 hy ck hcell c2
      gi_wp2
      go_roundw
      case rel=>exact ⟨k+1,by omega,by go_num,HV6⟩
      case measure=>simp [intOf];omega
     ·have HJ3:=Lib.hid hJx3
      have HPR:Hid ((L'++[(⟨m,HMR.out⟩:RowN rows)]).map Subtype.val <+: fitN sh r rows):=Lib.hid (by
       rw [List.map_append,HL'.out]
       have:=List.take_prefix (k+1) (fitN sh r rows)
       rw [HTK.out] at this
       exact this)
      clear hJx3 hy ck hcell c2
      gi_wp2
      refine bodyPost_ret (results_none rfl _ _ _) rfl ?_
      exact ⟨⟨_,rfl⟩,.inr ⟨_,HPR.out,HJ3.out⟩⟩
    ·have hfin:∃ L':List (RowN rows),L'.map Subtype.val=fitN sh r rows∧J L' wr:=by
      have h:=HV.out.2
      rwa [List.take_of_length_le (by have:=HN.out;omega)] at h
     have HF:=Lib.hid hfin
     clear hfin HV
     gi_wp2
     go_end0
     exact ⟨⟨_,rfl⟩,.inl HF.out⟩
end YteclpnfckjfibaaGreatDoor
end Go.Proofs

/- TK -/
namespace Go.Proofs
open Go.Shelf
namespace YteclpnfckjfibaaGreatDoor
open Go.RowKit
attribute [local go_sem] Oper.semAt_some
def firstI (b:Bool) (z:Int):Prop:=(b=true∧0≤z)∨(b=false∧z=-1)
set_option maxHeartbeats 3200000 in
theorem z19 (q:Val→Bool) (l:List Val) (v:Value) (w:World) (h:zai valE w (Old w) v l) (hn:l.length≤2097152)
 (each:∀ x∈l,∀ W c,Below w.heap.size w W→valE.rel W (Old W) c x→Calls Tryz.prog 126 #[.agg c.toArray] W fun e w'=>e=.returned (.bool (q x))∧Below W.heap.size W w'):
 Calls Tryz.prog 179 #[v,.func (.func 126) #[] #[]] w fun e w'=>(∃ z,e=.returned (.int .i64 z)∧firstI (l.any q) z)∧Below w.heap.size w w':=by
 obtain ⟨n,hln⟩:∃ n,n=l.length:=⟨_,rfl⟩
 obtain ⟨p,cap,rfl⟩:=h.slice
 rw [← hln] at hn
 obtain ⟨ans,hans⟩:∃ ans,ans=l.any q:=⟨_,rfl⟩
 have HN:=Lib.hid hans
 rw [← hans]
 have HL:=Lib.hid hln
 have HH:=Lib.hid h
 have HE:=Lib.hid each
 rw [← hln]
 clear h hln each hans
 go_enter Tryz.func179,Tryz.ntmps179
 go_wp2_with fail
 go_loopg [8] n (fun gg s8 wr=>∃ j:Nat,j+gg=n∧s8=.int .i64 j∧Hid (Below w.heap.size w wr)∧Hid (∀ i (h:i < l.length),i < j→q l[i]=false))
 case atStart=>exact ⟨0,by omega,rfl,Lib.hid (Below.refl _ _),Lib.hid (fun i _ h=>absurd h (by omega))⟩
 case round=>
  obtain ⟨j,hjg,rfl,HB,HA⟩:=hrel
  by_cases hlt:(j:Int) < n
  ·have hj1:j < l.length:=by have:=HL.out;omega
   have hbel:=HB.out
   obtain ⟨g,off,cap',c,e0,hg,hrl,hra⟩:=(HH.out.stays (zae hbel)).at_ j hj1
   injection e0 with e1 e2 e3
   subst e1
   replace hra:wr.rangeAt g (off+j*6) c:=hra
   have hlen:c.length=6:=valE.len hrl
   have hbs:=hbel.size
   obtain ⟨r,hr⟩:∃ r,r=q l[j]:=⟨_,rfl⟩
   have HR:=Lib.hid (And.intro hrl hra)
   have hcall:=HE.out l[j] (List.getElem_mem hj1) wr c hbel hrl
   rw [← hr] at hcall
   have HC:=Lib.hid hcall
   have HR2:=Lib.hid hr
   clear hrl hra e2 e3 hbel hcall hr
   cases r with
   | false=>
     go_wp2_with (first
      |((with_reducible refine za3 (.tmp 14) g (off+j*6) 48 c 6 _ HR.out.2 hlen Tryz.underlying48 rfl zap ?_ ?_ ?_ ?_);rfl;rfl;rfl)
      |(go_at_call 126;(with_reducible refine HC.out.mono ?_);rintro e w3 ⟨rfl,hb3⟩))
     have HB2:Hid (Below w.heap.size w w3):=Lib.hid (HB.out.trans (hb3.mono hbs))
     clear hb3
     go_wp2_with fail
     go_roundg (gk - 1)
     case measure=>omega
     case rel=>
      refine ⟨j+1,by omega,by go_num,HB2,Lib.hid fun i h hi=>?_⟩
      by_cases e:i=j
      ·subst e;exact HR2.out.symm
      ·exact HA.out i h (by omega)
   | true=>
     have hany:ans=true:=by
      rw [HN.out]
      exact List.any_eq_true.2 ⟨l[j],List.getElem_mem hj1,HR2.out.symm⟩
     have HAN:=Lib.hid hany
     clear hany
     go_wp2_with (first
      |((with_reducible refine za3 (.tmp 14) g (off+j*6) 48 c 6 _ HR.out.2 hlen Tryz.underlying48 rfl zap ?_ ?_ ?_ ?_);rfl;rfl;rfl)
      |(go_at_call 126;(with_reducible refine HC.out.mono ?_);rintro e w3 ⟨rfl,hb3⟩))
     have HB2:Hid (Below w.heap.size w w3):=Lib.hid (HB.out.trans (hb3.mono hbs))
     clear hb3
     go_wp2_with fail
     go_ret
     exact ⟨⟨_,rfl,.inl ⟨HAN.out,by omega⟩⟩,HB2.out⟩
  ·have hany:ans=false:=by
    rw [HN.out]
    refine List.any_eq_false.2 fun x hx=>?_
    obtain ⟨i,hi,rfl⟩:=List.getElem_of_mem hx
    rw [HA.out i hi (by have:=HL.out;omega)]
    decide
   have HAN:=Lib.hid hany
   clear hany
   go_wp2_with fail
   go_ret
   exact ⟨⟨_,rfl,.inr ⟨HAN.out,rfl⟩⟩,HB.out⟩
set_option maxHeartbeats 3200000 in
theorem some133 (q:Val→Bool) (l:List Val) (v:Value) (w:World) (h:zai valE w (Old w) v l) (hn:l.length≤2097152)
 (each:∀ x∈l,∀ W c,Below w.heap.size w W→valE.rel W (Old W) c x→Calls Tryz.prog 126 #[.agg c.toArray] W fun e w'=>e=.returned (.bool (q x))∧Below W.heap.size W w'):
 Calls Tryz.prog 133 #[v,.func (.func 126) #[] #[]] w fun e w'=>e=.returned (.bool (l.any q))∧Below w.heap.size w w':=by
 have HI:=Lib.hid (z19 q l v w h hn each)
 obtain ⟨p,cap,rfl⟩:=h.slice
 generalize l.any q=b at*
 generalize l.length=n at*
 clear h each
 go_enter Tryz.func133,Tryz.ntmps133
 go_wp2_with (first |(go_at_call 179;refine Hid.out ?_))
 refine Lib.hid ?_
 refine HI.out.mono ?_
 rintro e w1 ⟨⟨z,rfl,hz⟩,hb⟩
 have HB:=Lib.hid hb
 clear hb
 rcases hz with ⟨rfl,hz⟩ | ⟨rfl,rfl⟩
 ·go_wp2_with fail
  go_ret
  exact ⟨by first | rfl | simp [hz],HB.out⟩
 ·go_wp2_with fail
  go_ret
  exact ⟨by first | rfl | simp,HB.out⟩
theorem zfw {fn:Func} {p:Tmp} {ty:TypeId} (h:fn.results=#[.cell p ty]) (tmps:Array Value) (w:World) (g:Nat) (b:Bool) (hp:tmps.getD p undef=.pointer (some ⟨g,0,none⟩)) (hg:Boxed w g 4 (.bool b)) (ht:ty=4):(results fn tmps).run Tryz.prog w=.ok (.bool b) w:=by
 subst ht
 have hc:=hg.cell
 have hp':tmps[p]?.getD undef=.pointer (some ⟨g,0,none⟩):=by simpa using hp
 simp only [results,h]
 simp [Sem.run_bind,Result.andThen,hp',go_sem,hc]
def zeh (sh:List (Nat × Nat)) (r:List Val) (rows:List (List Val)):Bool:=rows.any fun x=>fitB sh r x && zmq sh r x
theorem zzn {sh:List (Nat × Nat)} {r:List Val} {rows:List (List Val)} (h:(zby sh r).any isB=false):zeh sh r rows=false:=by
 unfold zeh
 refine List.any_eq_false.2 fun x _=>?_
 have:zmq sh r x=false:=by
  unfold zmq
  refine List.any_eq_false.2 fun p hp=>?_
  have:=List.any_eq_false.1 h (atV r p.1) (List.mem_map.2 ⟨p.1,List.mem_map.2 ⟨p,hp,rfl⟩,rfl⟩)
  unfold zra
  simp [this]
 simp [this]
theorem z2a {sh:List (Nat × Nat)} {r:List Val} {rows:List (List Val)} {pre:List (RowN rows)} (hp:pre.map Subtype.val <+: fitN sh r rows) {x:RowN rows} (hx:x∈pre) (hm:zmq sh r (rows[x.1]'x.2)=true):zeh sh r rows=true:=by
 unfold zeh
 refine List.any_eq_true.2 ⟨rows[x.1]'x.2,List.getElem_mem _,?_⟩
 have h1:x.1∈fitN sh r rows:=hp.subset (List.mem_map.2 ⟨x,hx,rfl⟩)
 unfold fitN at h1
 obtain ⟨p,hp,e⟩:=List.mem_map.1 h1
 obtain ⟨hp1,hp2⟩:=List.mem_filter.1 hp
 have h2:=(List.mem_zipIdx' hp1).2
 have h3:p.1=rows[x.1]'x.2:=by rw [h2];simp only [e]
 rw [← h3,hp2,h3,hm]
 rfl
theorem take_no {sh:List (Nat × Nat)} {r:List Val} {rows:List (List Val)} {xs:List (RowN rows)} (hp:xs.map Subtype.val=fitN sh r rows) (hm:∀ x∈xs,zmq sh r (rows[x.1]'x.2)=false):zeh sh r rows=false:=by
 unfold zeh
 refine List.any_eq_false.2 fun y hy=>?_
 obtain ⟨i,hi,rfl⟩:=List.getElem_of_mem hy
 cases hf:fitB sh r rows[i] with
 | false=>simp
 | true=>
   have h1:i∈fitN sh r rows:=by
    unfold fitN
    refine List.mem_map.2 ⟨(rows[i],i),List.mem_filter.2 ⟨?_,hf⟩,rfl⟩
    rw [List.mem_zipIdx_iff_getElem?]
    exact List.getElem?_eq_getElem hi
   rw [← hp] at h1
   obtain ⟨x,hx,e⟩:=List.mem_map.1 h1
   have:=hm x hx
   simp only [e] at this
   simp [this]
theorem zmk {B:Nat} {W W':World} (h:Below W.heap.size W W'):KeepsFrom B W W':=⟨h.size,fun k _o _ hk _=>(h.block k (zaa hk)).trans hk⟩
set_option maxHeartbeats 12800000 in
set_option maxRecDepth 20000 in
theorem zzo (sh:List (Nat × Nat)) (rows:List (List Val)) (A B R L u:Value) (mb:Nat) (r:List Val) (w:World) (P:Nat→Prop) (hPo:∀ k,P k→k < w.heap.size) (hG:Gd w) (hx:IxIn sh rows A B R mb L P w) (hu:zai valE w P u r)
 (hin:∀ x∈rows,∀ p∈sh,p.1 < r.length∧p.2 < x.length) (hin1:∀ p∈sh,p.1 < r.length) (hmr:∀ v∈r,mayP v 0=true) (hmx:∀ x∈rows,∀ v∈x,mayP v 0=true) (hwt:13*wAll (zby sh r)≤700000000)
 (hsn:sh.length≤2097152) (hrn:r.length≤2097152) (hn:rows.length≤2097152):
 Calls Tryz.prog 81 #[.agg #[A,B,R,.map (some mb),L],u] w fun e w'=>e=.returned (.bool (zeh sh r rows))∧Below w.heap.size w w':=by
 obtain ⟨us,hus⟩:=zzm hx.rws
 obtain ⟨pA,kA,pB,kB,rfl,rfl⟩:=hx.shd.slice
 obtain ⟨pR,kR,rfl⟩:=hx.rws.slice
 obtain ⟨pL,kL,rfl⟩:=hx.loose.1.slice
 obtain ⟨pu,ku,rfl⟩:=hu.slice
 obtain ⟨W1,hW1⟩:∃ W1,W1=((w.alloc (.cells #[.slice pA sh.length kA,.slice pB sh.length kB,.slice pR rows.length kR,.map (some mb),.slice pL (zbi sh rows).length kL] 90)).alloc (.cells #[.slice pu r.length ku] 43)).alloc (.cells #[.bool false] 4):=⟨_,rfl⟩
 have b1:Below w.heap.size w W1:=by rw [hW1];exact (zcr _ _ _).alloc (by simp;omega) _
 have s1:W1.heap.size=w.heap.size+3:=by rw [hW1];simp
 have u2:W1.heap[w.heap.size]?=some (.cells #[.slice pA sh.length kA,.slice pB sh.length kB,.slice pR rows.length kR,.map (some mb),.slice pL (zbi sh rows).length kL] 90):=by rw [hW1];exact zaq _ (zaq _ (zaf _ _ rfl))
 have u3:W1.heap[w.heap.size+1]?=some (.cells #[.slice pu r.length ku] 43):=by rw [hW1];exact zaq _ (zaf _ _ (by simp))
 have n4:Boxed W1 (w.heap.size+1+1) 4 (.bool false):=by rw [hW1];exact zaf _ _ (by simp)
 have hx1:IxIn sh rows _ _ _ mb _ P W1:=hx.stays fun k hk=>⟨hk,b1.block k (hPo k hk)⟩
 have hu1:zai valE W1 P _ r:=hu.stays fun k hk=>⟨hk,b1.block k (hPo k hk)⟩
 have hPo1:zel P (Old W1) W1 W1:=fun k hk=>⟨Nat.lt_of_lt_of_le (hPo k hk) b1.size,rfl⟩
 have hsa:zai intE W1 (Old W1) (.slice pA sh.length kA) ((sh.map (·.1)).map fun i:Nat=>(i:Int)):=by
  have:=(hx1.shd.stays hPo1).a
  rwa [List.map_map]
 have HC:=Lib.hid (zs3 r (sh.map (·.1)) (.slice pu r.length ku) (.slice pA sh.length kA) W1 (hu1.stays hPo1) hsa (fun i hi=>by
  obtain ⟨p,hp,rfl⟩:=List.mem_map.1 hi
  exact hin1 p hp) (by simpa using hsn))
 have HG:=Lib.hid (hG.below b1)
 have HX:=Lib.hid (And.intro hx1 (And.intro hu1 hPo))
 have HUS:=Lib.hid fun i (h:i < rows.length)=>(by
  obtain ⟨g,off,cap,e,hg,hc,hs,hl⟩:=hus i h
  exact ⟨g,off,cap,e,hg,(b1.cell (p:=⟨g,off+i,none⟩) (World.block_lt_of_cell? w _ hc)).trans hc,hs.stays fun k hk=>⟨hk,b1.block k (hPo k hk)⟩,hl⟩:∃ g off cap,Value.slice pR rows.length kR=.slice (some ⟨g,off,none⟩) rows.length cap∧P g∧W1.cell? ⟨g,off+i,none⟩=some (us i)∧zai valE W1 P (us i) rows[i]∧rows[i].length≤2097152)
 have HB:=Lib.hid (And.intro b1 s1)
 have HU:=Lib.hid (And.intro u2 (And.intro u3 n4))
 have HM:=Lib.hid (And.intro hin (And.intro hin1 (And.intro hmr hmx)))
 have HW:=Lib.hid hW1
 have c2:=zad u2 0 rfl
 have c3:=zad u3 0 rfl
 obtain ⟨ans,hans⟩:∃ ans,ans=zeh sh r rows:=⟨_,rfl⟩
 rw [← hans]
 have HANS:=Lib.hid hans
 clear hans hW1 b1 u2 u3 n4 hx hu hx1 hu1 hPo1 hsa hus hin hin1 hmr hmx hG hPo
 refine (callsIn_wide (n:=4)).1 ?_
 refine callsIn_of_wp_marks Tryz.func81 rfl trivial ?_ rfl
 simp only [Tryz.ntmps81,List.size_toArray,List.length_cons,List.length_nil,Nat.reduceAdd,Nat.reduceSub,Array.replicate_succ,Array.replicate_zero,List.push_toArray,List.append_toArray,List.nil_append,List.cons_append]
 gi_upto_region 1 with fail
 rw [← HW.out]
 gi_wp2_with (first
  |(refine ⟨trivial,?_⟩;gi_at_call 125;(with_reducible refine (callsIn_wide.2 HC.out).mono ?_);rintro e w3 ⟨V,xs,rfl,hown,hrow,hb3⟩;refine Hid.out ?_))
 have hown2:=hown
 rw [List.length_map,List.length_map] at hown2
 obtain ⟨pV,kV,rfl⟩:=zat hown2
 have hsl:zai valE w3 (Old w3) (.slice pV sh.length kV) (zby sh r):=zbm hown hrow (fun g hg=>Nat.lt_of_lt_of_le hg hb3.size) (fun g e=>(hown.lt g e).2)
 have hcl:(zby sh r).length=sh.length:=by simp [zby]
 have HE:=Lib.hid (some133 isB (zby sh r) _ w3 hsl (by rw [hcl];exact hsn) (fun x _ W' c _ hr=>(zd6 x W' c (Old W') hr).mono (by rintro e w' ⟨rfl,h⟩;exact ⟨rfl,h.is⟩)))
 obtain ⟨q,hq⟩:∃ q,q=(zby sh r).any isB:=⟨_,rfl⟩
 rw [← hq] at HE
 have HQ:=Lib.hid hq
 have HB3:=Lib.hid hb3
 clear hown hown2 hrow hsl hq c2 c3 hcl HC hb3
 refine Lib.hid ?_
 cases q with
 | false=>
   have HNO:=Lib.hid (HANS.out.trans (zzn (rows:=rows) HQ.out.symm))
   gi_upto_region 2 with (first
    |(refine ⟨trivial,?_⟩;gi_at_call 133;(with_reducible refine (callsIn_wide.2 HE.out).mono ?_);rintro e w4 ⟨rfl,hb4⟩))
   have b4:=zab HB3.out hb4 HB3.out.size
   have n4:Boxed w4 (w.heap.size+1+1) 4 (.bool false):=(b4.block _ HU.out.2.2.lt).trans HU.out.2.2
   have c4:=n4.cell
   have f4:=n4.frozen
   have bw4:=HB.out.1.trans (b4.mono HB.out.1.size)
   have HF:Hid (Boxed (w4.setCell ⟨w.heap.size+1+1,0,none⟩ (.bool false)) (w.heap.size+1+1) 4 (.bool false)∧Below w.heap.size w (w4.setCell ⟨w.heap.size+1+1,0,none⟩ (.bool false))):=Lib.hid ⟨n4.set _,bw4.setCell (p:=⟨w.heap.size+1+1,0,none⟩) (show w.heap.size≤w.heap.size+1+1 by omega) _⟩
   clear b4 n4 bw4 hb4
   gi_wp2
   exact ⟨_,zfw rfl _ _ _ false rfl HF.out.1 rfl,by rw [HNO.out],HF.out.2⟩
 | true=>
   gi_upto_region 3 with (first
    |(refine ⟨trivial,?_⟩;gi_at_call 133;(with_reducible refine (callsIn_wide.2 HE.out).mono ?_);rintro e w4 ⟨rfl,hb4⟩))
   have b4:=zab HB3.out hb4 HB3.out.size
   have h24:=(b4.block _ (zaa HU.out.1)).trans HU.out.1
   have h34:=(b4.block _ (zaa HU.out.2.1)).trans HU.out.2.1
   have c34:=zad h34 0 rfl
   have HB4:=Lib.hid b4
   clear hb4 b4
   gi_wp2_with (first
    |((with_reducible refine ztc zf1 (.tmp 2) w.heap.size _ _ _ _ _ h24 ?_ ?_ ?_ ?_);rfl;rfl;rfl)
    |(refine ⟨trivial,?_⟩;gi_at_call 77;refine Hid.out ?_))
   refine Lib.hid ?_
   refine (callsIn_wide.2 (zmj pA pB pR pL pu sh.length kA sh.length kB rows.length kR (zbi sh rows).length kL r.length ku mb w4)).mono ?_
   rintro e w5 ⟨rfl,hw5⟩
   have b45:Below w4.heap.size w4 w5:=by rw [hw5];exact zcr _ _ _
   have b5:=zab HB4.out b45 HB4.out.size
   have v2:w5.heap[w4.heap.size]?=some (.cells #[.slice pA sh.length kA,.slice pB sh.length kB,.slice pR rows.length kR,.map (some mb),.slice pL (zbi sh rows).length kL] 90):=by rw [hw5];exact zaq _ (zaf _ _ rfl)
   have v3:w5.heap[w4.heap.size+1]?=some (.cells #[.slice pu r.length ku] 43):=by rw [hw5];exact zaf _ _ (by simp)
   have s5:w5.heap.size=w4.heap.size+2:=by rw [hw5];simp
   have hs15:=b5.size
   have hs14:=HB4.out.size
   have st5:zel P P W1 w5:=fun k hk=>⟨hk,b5.block k (Nat.lt_of_lt_of_le (HX.out.2.2 k hk) HB.out.1.size)⟩
   have HST:=Lib.hid (zn5 sh rows _ _ _ _ _ mb r us w5 (fun _ k=>k=w.heap.size+1+1) P w4.heap.size (w4.heap.size+1) (HG.out.below b5) (fun _ _ _ _ h=>h) (fun k h=>by omega) (fun k hk=>⟨by have:=HX.out.2.2 k hk;omega,by have:=HX.out.2.2 k hk;omega⟩) (HX.out.1.stays st5) (HX.out.2.1.stays st5) (fun i hi=>by
    obtain ⟨g,off,cap,e,hg,hc,hs,hl⟩:=HUS.out i hi
    exact ⟨g,off,cap,e,hg,st5.cell hg _ hc,hs.stays st5,hl⟩) v2 v3 (by omega) (by omega) HM.out.1 HM.out.2.1 HM.out.2.2.1 HM.out.2.2.2 hwt hsn hrn hn)
   have HB5:=Lib.hid b5
   clear hw5 b45 v2 v3 st5 h24 h34 c34 b5
   gi_wp2
   refine wpIn_rangeFunc_ownG (gf:=127) (lb:=#[.pointer (some ⟨w4.heap.size+1,0,none⟩),.pointer (some ⟨w4.heap.size,0,none⟩)]) rfl (by decide) rfl trivial (enters_of Tryz.func127 (by kernel_rfl) rfl) HST.out ztd (kpO_b (Nat.le_refl _) (fun _ _ _ _ h=>h)) (Below.refl _ _) (fun _=>rfl)
    (fun pre W=>(∀ x∈pre,zmq sh r (rows[x.1]'x.2)=false)∧Below W1.heap.size w5 W)
    (fun c pre W=>(c=.ret∧∃ x∈pre,zmq sh r (rows[x.1]'x.2)=true)∧Boxed W (w.heap.size+1+1) 4 (.bool true)∧Below w.heap.size w W)
    (OwnFrom.and (ownFrom_pure _ _) (ownFrom_below hs15 hs15))
    (fun c=>OwnFrom.and (ownFrom_pure _ _) (OwnFrom.and (Own.from (boxed_own (w.heap.size+1+1) 4 (fun _:List (RowN rows)=>.bool true)) _) (ownFrom_below (Nat.le_refl _) (by omega))))
    ⟨(fun x hx=>by cases hx),Below.refl _ _⟩
    ?act1 ?assign ?body ?done ?stop
   case assign=>
    intro l x W K hK
    gi_wp2
    exact hK
   case body=>
    rintro l pre x W ⟨hpre,hbW5⟩ hlt
    have hbW:=HB5.out.trans hbW5
    have HW5:=Lib.hid hbW5
    have hs5W:=hbW5.size
    clear hbW5
    have h2W:=(hbW.block _ (zaa HU.out.1)).trans HU.out.1
    have h3W:=(hbW.block _ (zaa HU.out.2.1)).trans HU.out.2.1
    have n4W:Boxed W (w.heap.size+1+1) 4 (.bool false):=(hbW.block _ HU.out.2.2.lt).trans HU.out.2.2
    have c3:=zad h3W 0 rfl
    have r01:W.rangeAt w.heap.size 0 [.slice pA sh.length kA,.slice pB sh.length kB]:=zce h2W 0 _ (fun j v hv=>by
     match j,hv with
     | 0,e | 1,e=>simpa using e
     | j+2,e=>simp at e)
    have stW:zel P (Old W) W1 W:=fun k hk=>by
     have h1:=Nat.lt_of_lt_of_le (HX.out.2.2 k hk) HB.out.1.size
     exact ⟨Nat.lt_of_lt_of_le h1 hbW.size,hbW.block k h1⟩
    obtain ⟨g,off,cap,_,_,_,hsx,hxl⟩:=HUS.out x.1 x.2
    obtain ⟨q,hq⟩:∃ q,q=zmq sh r (rows[x.1]'x.2):=⟨_,rfl⟩
    have HME:Hid (Calls Tryz.prog 134 #[.agg #[.slice pA sh.length kA,.slice pB sh.length kB],.slice pu r.length ku,us x.1] W fun e w'=>e=.returned (.bool q)∧Below W.heap.size W w'):=Lib.hid (by rw [hq];exact meetAt sh _ _ _ _ r _ W (HX.out.1.shd.stays stW) (HX.out.2.1.stays stW) (hsx.stays stW) (fun p hp=>HM.out.1 _ (List.getElem_mem x.2) p hp) hsn hrn hxl)
    have HQQ:=Lib.hid hq
    have HPRE:=Lib.hid hpre
    have HBW:=Lib.hid hbW
    have HN4:=Lib.hid n4W
    have hsW:=hbW.size
    clear h2W h3W stW hsx hxl hq hpre hbW n4W
    cases q with
    | false=>
      gi_wp2_with (first
       |((with_reducible refine zql (wideR l) (.tmp 17) w.heap.size 0 _ _ r01 ?_ ?_ ?_ ?_);rfl;rfl;rfl)
       |(refine ⟨trivial,?_⟩;gi_at_call 134;(with_reducible refine (CallsIn.inRound l (callsIn_wide.2 HME.out)).mono ?_);rintro e w6 ⟨rfl,hb6⟩))
      exact ⟨zmk hb6,KpO.of_below hb6 (by omega) (fun _ _ _ _ h=>h),fun y hy=>by
       rcases List.mem_append.1 hy with hy | hy
       ·exact HPRE.out y hy
       ·rw [List.mem_singleton.1 hy];exact HQQ.out.symm,HW5.out.trans (hb6.mono HBW.out.size)⟩
    | true=>
      gi_wp2_with (first
       |((with_reducible refine zql (wideR l) (.tmp 17) w.heap.size 0 _ _ r01 ?_ ?_ ?_ ?_);rfl;rfl;rfl)
       |(refine ⟨trivial,?_⟩;gi_at_call 134;(with_reducible refine (CallsIn.inRound l (callsIn_wide.2 HME.out)).mono ?_);rintro e w6 ⟨rfl,hb6⟩;have n46:Boxed w6 (w.heap.size+1+1) 4 (.bool false):=(hb6.block _ HN4.out.lt).trans HN4.out;have c46:=n46.cell;have f46:=n46.frozen))
      have bw6:=HB.out.1.trans ((HBW.out.trans (hb6.mono HBW.out.size)).mono HB.out.1.size)
      exact ⟨(zmk hb6).trans ((KeepsOthers.setCell _ _ _).from _),⟨rfl,x,by simp,HQQ.out.symm⟩,n46.set _,bw6.setCell (p:=⟨w.heap.size+1+1,0,none⟩) (show w.heap.size≤w.heap.size+1+1 by omega) _⟩
   case done=>
    rintro D ys W hD hys ⟨hpre,hbW5⟩ hK
    have hbW:=HB5.out.trans hbW5
    clear hbW5
    have HNO:=Lib.hid (HANS.out.trans (take_no hys hpre))
    have n4:Boxed W (w.heap.size+1+1) 4 (.bool false):=(hbW.block _ HU.out.2.2.lt).trans HU.out.2.2
    have c4:=n4.cell
    have f4:=n4.frozen
    have hDb:D≠w.heap.size+1+1:=by omega
    have hK2:(W.setCell ⟨w.heap.size+1+1,0,none⟩ (.bool false)).heap[D]?=some (.deferred (some [])):=(Below.heap_setCell _ _ _ _ hDb).trans hK
    have HF:Hid (Boxed ((W.setCell ⟨w.heap.size+1+1,0,none⟩ (.bool false)).putObj D (.deferred none)) (w.heap.size+1+1) 4 (.bool false)∧Below w.heap.size w ((W.setCell ⟨w.heap.size+1+1,0,none⟩ (.bool false)).putObj D (.deferred none))):=Lib.hid
     ⟨(World.putObj_heap_other (fun e=>hDb e.symm)).trans (n4.set _),((HB.out.1.trans (hbW.mono HB.out.1.size)).setCell (p:=⟨w.heap.size+1+1,0,none⟩) (show w.heap.size≤w.heap.size+1+1 by omega) _).trans (belowK_b (w:=w) (Nat.le_refl _) _ D _ _ (by omega) hK2 rfl rfl)⟩
    have HK:=Lib.hid hK2
    clear hpre hbW hys hK hK2 n4
    gi_wp2
    refine ⟨by simp,.inl ⟨_,_,rfl,run_takeDeferred HK.out,?_⟩⟩
    exact ⟨_,zfw rfl _ _ _ false rfl HF.out.1 rfl,by rw [HNO.out],HF.out.2⟩
   case stop=>
    rintro D c pre W hD hpre ⟨⟨rfl,x,hx,hm⟩,hbox,hbW⟩ hK
    have HNO:=Lib.hid (HANS.out.trans (z2a hpre hx hm))
    have hDb:D≠w.heap.size+1+1:=by omega
    have HF:Hid (Boxed (W.putObj D (.deferred none)) (w.heap.size+1+1) 4 (.bool true)∧Below w.heap.size w (W.putObj D (.deferred none))):=Lib.hid
     ⟨(World.putObj_heap_other (fun e=>hDb e.symm)).trans hbox,hbW.trans (belowK_b (w:=w) (Nat.le_refl _) _ D _ _ (by omega) hK rfl rfl)⟩
    have HK:=Lib.hid hK
    clear hpre hbW hK hbox
    gi_wp2
    refine ⟨by simp,.inl ⟨_,_,rfl,run_takeDeferred HK.out,?_⟩⟩
    exact ⟨_,zfw rfl _ _ _ true rfl HF.out.1 rfl,by rw [HNO.out],HF.out.2⟩
end YteclpnfckjfibaaGreatDoor
end Go.Proofs

/- OV -/
namespace Go.Proofs.YteclpnfckjfibaaGreatDoor
open Go.RowKit
theorem zdw {fn:Func} {p u:Tmp} (h:fn.results=#[.cell p 25,.tmp u]) (tmps:Array Value) (w:World) (g:Nat) (V R:Value)
 (hp:tmps.getD p undef=.pointer (some ⟨g,0,none⟩)) (hg:w.heap[g]?=some (.cells #[V,R] 25)):(results fn tmps).run Tryz.prog w=.ok (.tuple #[.agg #[V,R],tmps.getD u undef]) w:=by
 rw [results_cell_tmp h,hp]
 simp [asAddr,Result.andThen,run_loadVar_row (P:=Tryz.prog) w g 25 25 #[V,R] (0,0) _ hg Tryz.underlying25 rfl zag]
def za0 (ta tb:List ByteArray):List ByteArray:=ta++tb.filter fun x=>!memB x ta
theorem zn6 (ta tb:List ByteArray):(za0 ta tb).length≤ta.length+tb.length:=by
 unfold za0
 rw [List.length_append]
 have:=List.length_filter_le (fun x=>!memB x ta) tb
 omega
theorem zk9 {vs:List ByteArray} (h:zeb vs=true):vs.length≤64:=by
 unfold zeb at h
 simp only [Bool.and_eq_true,decide_eq_true_eq] at h
 exact h.1.1
theorem zcn {t:TabL} (h:tabP t=true):zeb t.vars=true:=by
 unfold tabP at h
 simp only [Bool.and_eq_true] at h
 exact h.1
theorem zbk {t:TabL} (h:tabP t=true):(∀ r∈t.rows,r.length=t.vars.length)∧∀ r∈t.rows,∀ v∈r,mayP v 0=true:=by
 unfold tabP at h
 simp only [Bool.and_eq_true,List.all_eq_true] at h
 constructor
 ·intro r hr
  have:=h.2 r hr
  unfold rowP at this
  simp only [Bool.and_eq_true,decide_eq_true_eq] at this
  exact this.1
 ·intro r hr v hv
  have:=h.2 r hr
  unfold rowP at this
  simp only [Bool.and_eq_true,List.all_eq_true] at this
  exact this.2 v hv
set_option maxHeartbeats 1600000 in
theorem over1At (x:ByteArray) (ta:List ByteArray) (VA RA:Value) (g:Nat) (W:World) (hg:W.heap[g]?=some (.cells #[VA,RA] 25)) (h:zai zaz W (Old W) VA ta) (hn:ta.length≤2097152):
 Calls Tryz.prog 119 #[.string x,.pointer (some ⟨g,0,none⟩)] W fun e w'=>e=.returned (.bool (!memB x ta))∧Below W.heap.size W w':=by
 have HC:=Lib.hid (zo3 VA ta x (Old W) W h hn)
 obtain ⟨p,k,rfl⟩:=h.slice
 have c0:=zad hg 0 rfl
 generalize memB x ta=q at*
 clear h hg
 cases q with
 | true=>
   go_enter Tryz.func119,Tryz.ntmps119
   go_wp2_with (first |(go_at_call 120;(with_reducible refine HC.out.mono ?_);rintro e w1 ⟨rfl,rfl⟩))
   go_ret
   exact ⟨by first | rfl | simp,Below.refl _ _⟩
 | false=>
   go_enter Tryz.func119,Tryz.ntmps119
   go_wp2_with (first |(go_at_call 120;(with_reducible refine HC.out.mono ?_);rintro e w1 ⟨rfl,rfl⟩))
   go_ret
   exact ⟨by first | rfl | simp,Below.refl _ _⟩
def zim (a b:TabL) (w:World) (e:Ending) (w':World):Prop:=
 if (tabP a && tabP b)=true then ∃ V,e=.returned (.tuple #[.agg #[V,.slice none 0 0],.bool (decide ((za0 a.vars b.vars).length≤64))])∧zai zaz w' (New w w') V (za0 a.vars b.vars)∧capK V∧V.oneCell'=true∧Below w.heap.size w w'
 else e=.returned (.tuple #[.agg #[.slice none 0 0,.slice none 0 0],.bool false])∧Below w.heap.size w w'
set_option maxHeartbeats 6400000 in
set_option maxRecDepth 20000 in
theorem z33 (a b:TabL) (VA RA VB RB:Value) (W:World) (hG:Gd W) (ha:tabE.rel W (Old W) [VA,RA] a) (hb:tabE.rel W (Old W) [VB,RB] b):Calls Tryz.prog 73 #[.agg #[VA,RA],.agg #[VB,RB]] W (zim a b W):=by
 have ha0:=ha
 have hb0:=hb
 obtain ⟨V',R',e,hva,hra,hcva,hcra,hlva,hlra⟩:=ha
 cases e
 obtain ⟨V',R',e,hvb,hrb,hcvb,hcrb,hlvb,hlrb⟩:=hb
 cases e
 obtain ⟨pA,kA,rfl⟩:=hva.slice
 obtain ⟨qA,lA,rfl⟩:=hra.slice
 obtain ⟨pB,kB,rfl⟩:=hvb.slice
 obtain ⟨qB,lB,rfl⟩:=hrb.slice
 obtain ⟨W1,hW1⟩:∃ W1,W1=((W.alloc (.cells #[.slice pA a.vars.length kA,.slice qA a.rows.length lA] 25)).alloc (.cells #[.slice pB b.vars.length kB,.slice qB b.rows.length lB] 25)).alloc (.cells #[.slice none 0 0,.slice none 0 0] 25):=⟨_,rfl⟩
 have b1:Below W.heap.size W W1:=by rw [hW1];exact (zcr _ _ _).alloc (by simp;omega) _
 have s1:W1.heap.size=W.heap.size+3:=by rw [hW1];simp
 have u2:W1.heap[W.heap.size]?=some (.cells #[.slice pA a.vars.length kA,.slice qA a.rows.length lA] 25):=by rw [hW1];exact zaq _ (zaq _ (zaf _ _ rfl))
 have u3:W1.heap[W.heap.size+1]?=some (.cells #[.slice pB b.vars.length kB,.slice qB b.rows.length lB] 25):=by rw [hW1];exact zaq _ (zaf _ _ (by simp))
 have u4:W1.heap[W.heap.size+1+1]?=some (.cells #[.slice none 0 0,.slice none 0 0] 25):=by rw [hW1];exact zaf _ _ (by simp)
 have h1:=zct a _ _ W1 (hG.below b1) (tabE.stays (zae b1) ha0)
 have h2:∀ W',Below W1.heap.size W1 W'→Calls Tryz.prog 14 #[.agg #[.slice pB b.vars.length kB,.slice qB b.rows.length lB]] W' fun e w'=>e=.returned (.bool (tabP b))∧Below W'.heap.size W' w':=fun W' h=>by
  have h':=zab b1 h b1.size
  exact zct b _ _ W' (hG.below h') (tabE.stays (zae h') hb0)
 have HVA:Hid (∀ W',Below W1.heap.size W1 W'→zai zaz W' (Old W') (.slice pA a.vars.length kA) a.vars):=Lib.hid fun W' h=>hva.stays (zae (zab b1 h b1.size))
 have HVB:Hid (∀ W',Below W1.heap.size W1 W'→zai zaz W' (Old W') (.slice pB b.vars.length kB) b.vars):=Lib.hid fun W' h=>hvb.stays (zae (zab b1 h b1.size))
 unfold zim
 have HPA:Hid (tabP a=true→zeb a.vars=true):=Lib.hid zcn
 have HPB:Hid (tabP b=true→zeb b.vars=true):=Lib.hid zcn
 generalize hpa:tabP a=pa at*
 generalize hpb:tabP b=pb at*
 have H1:=Lib.hid h1
 have H2:=Lib.hid h2
 have HW:=Lib.hid hW1
 have HB1:=Lib.hid b1
 have HU:=Lib.hid (And.intro u2 (And.intro u3 u4))
 have HK:=Lib.hid (And.intro hcva hcvb)
 clear h1 h2 ha0 hb0 hva hra hcra hvb hrb hcrb hG hW1 b1 hcva hcvb u3 hpa hpb
 cases pa with
 | false=>
   simp only [Bool.false_and,Bool.false_eq_true,if_false]
   go_enter Tryz.func73,Tryz.ntmps73
   go_upto_region 1 with fail
   rw [← HW.out]
   go_upto_region 2 with (first
    |((with_reducible refine zah (.tmp 2) W.heap.size 25 25 [.slice pA a.vars.length kA,.slice qA a.rows.length lA] 2 _ u2 rfl Tryz.underlying25 rfl zag ?_ ?_ ?_ ?_);rfl;rfl;rfl)
    |(go_at_call 14;(with_reducible refine H1.out.mono ?_);rintro e w2 ⟨rfl,hb2⟩))
   have u42:=(hb2.block _ (zaa u4)).trans u4
   have B2:=Lib.hid (zab HB1.out hb2 HB1.out.size)
   clear hb2 u2 u4
   go_wp2_with (first
    |((with_reducible refine zar (.tmp 4) (.tmp 16) (W.heap.size+1+1) 25 25 _ [.slice none 0 0,.slice none 0 0] 2 u42 rfl ?_ ?_ ?_ ?_ zag rfl (zbv rfl rfl) ?_);rfl;rfl;rfl;rfl;intro wX oX vX))
   refine bodyPost_ret (zdw (p:=4) (u:=5) Tryz.results73 _ _ (W.heap.size+1+1) _ _ rfl vX) rfl ⟨rfl,zam B2.out oX (by omega) B2.out.size⟩
 | true=>
   cases pb with
   | false=>
     simp only [Bool.and_false,Bool.false_eq_true,if_false]
     go_enter Tryz.func73,Tryz.ntmps73
     go_upto_region 1 with fail
     rw [← HW.out]
     go_upto_region 2 with (first
      |((with_reducible refine zah (.tmp 2) W.heap.size 25 25 [.slice pA a.vars.length kA,.slice qA a.rows.length lA] 2 _ u2 rfl Tryz.underlying25 rfl zag ?_ ?_ ?_ ?_);rfl;rfl;rfl)
      |((with_reducible refine zay ?_ (.tmp 3) (W.heap.size+1) 25 25 [.slice pB b.vars.length kB,.slice qB b.rows.length lB] 2 _ u32 rfl Tryz.underlying25 rfl zag ?_ ?_ ?_);rfl;rfl;rfl)
      |(go_at_call 14;(with_reducible refine H1.out.mono ?_);rintro e w2 ⟨rfl,hb2⟩;have u32:=(hb2.block _ (zaa HU.out.2.1)).trans HU.out.2.1)
      |(go_at_call 14;(with_reducible refine (H2.out _ hb2).mono ?_);rintro e w3 ⟨rfl,hb3⟩))
     have b3:=zab hb2 hb3 hb2.size
     have u42:=(b3.block _ (zaa u4)).trans u4
     have B2:=Lib.hid (zab HB1.out b3 HB1.out.size)
     clear hb2 hb3 b3 u2 u4 u32
     go_wp2_with (first
      |((with_reducible refine zar (.tmp 4) (.tmp 16) (W.heap.size+1+1) 25 25 _ [.slice none 0 0,.slice none 0 0] 2 u42 rfl ?_ ?_ ?_ ?_ zag rfl (zbv rfl rfl) ?_);rfl;rfl;rfl;rfl;intro wX oX vX))
     refine bodyPost_ret (zdw (p:=4) (u:=5) Tryz.results73 _ _ (W.heap.size+1+1) _ _ rfl vX) rfl ⟨rfl,zam B2.out oX (by omega) B2.out.size⟩
   | true=>
     simp only [Bool.and_true,if_true]
     go_enter Tryz.func73,Tryz.ntmps73
     go_upto_region 1 with fail
     rw [← HW.out]
     go_upto_region 3 with (first
      |((with_reducible refine zah (.tmp 2) W.heap.size 25 25 [.slice pA a.vars.length kA,.slice qA a.rows.length lA] 2 _ u2 rfl Tryz.underlying25 rfl zag ?_ ?_ ?_ ?_);rfl;rfl;rfl)
      |((with_reducible refine zay ?_ (.tmp 3) (W.heap.size+1) 25 25 [.slice pB b.vars.length kB,.slice qB b.rows.length lB] 2 _ u32 rfl Tryz.underlying25 rfl zag ?_ ?_ ?_);rfl;rfl;rfl)
      |(go_at_call 14;(with_reducible refine H1.out.mono ?_);rintro e w2 ⟨rfl,hb2⟩;have u32:=(hb2.block _ (zaa HU.out.2.1)).trans HU.out.2.1)
      |(go_at_call 14;(with_reducible refine (H2.out _ hb2).mono ?_);rintro e w3 ⟨rfl,hb3⟩))
     have b3:=zab hb2 hb3 hb2.size
     have u33:=(b3.block _ (zaa HU.out.2.1)).trans HU.out.2.1
     have u23:=(b3.block _ (zaa HU.out.1)).trans HU.out.1
     have c3:=zad u33 0 rfl
     have HF:=Lib.hid (z1j (.pointer (some ⟨W.heap.size,0,none⟩)) (fun x=>!memB x a.vars) b.vars _ w3 (HVB.out _ b3) hlvb (fun x _ W' c hb hr=>over1At x a.vars _ _ W.heap.size W' ((hb.block _ (zaa u23)).trans u23) (HVA.out _ (zab b3 hb b3.size)) hlva))
     have B3:=Lib.hid b3
     clear hb2 hb3 b3 u2 u4 u32 u33 u23
     go_upto_region 4 with (first
      |(go_at_call 118;(with_reducible refine HF.out.mono ?_);rintro e w4 ⟨V4,xs4,rfl,hown4,hrow4,hb4⟩))
     have b4:=zab B3.out hb4 B3.out.size
     have u24:=(b4.block _ (zaa HU.out.1)).trans HU.out.1
     have c2:=zad u24 0 rfl
     have hfl:(b.vars.filter fun x=>!memB x a.vars).length≤2097152:=Nat.le_trans (List.length_filter_le _ _) hlvb
     have hk4:=zb0 hown4
     have hs4:zai zaz w4 (Old w4) V4 (b.vars.filter fun x=>!memB x a.vars):=zbm hown4 hrow4 (fun g hg=>Nat.lt_of_lt_of_le hg hb4.size) (fun g e=>(hown4.lt g e).2)
     obtain ⟨p4,k4,rfl⟩:=hs4.slice
     have bz:Below w4.heap.size w4 (w4.alloc (.cells #[.slice pA a.vars.length kA,.slice p4 (b.vars.filter fun x=>!memB x a.vars).length k4] 132)):=zav _ _
     have HC:=Lib.hid (zyh a.vars (b.vars.filter fun x=>!memB x a.vars) _ _ w4.heap.size _ (zaf _ _ rfl) ((HVA.out _ b4).stays (zae bz)) (hs4.stays (zae bz)) HK.out.1 hk4 hlva hfl)
     have B4:=Lib.hid b4
     have hov:a.vars++(b.vars.filter fun x=>!memB x a.vars)=za0 a.vars b.vars:=rfl
     rw [hov] at HC
     clear hown4 hrow4 hb4 b4 hs4 hk4 u24 bz HF hfl c3 hov
     generalize (b.vars.filter fun x=>!memB x a.vars).length=nf at*
     go_upto_region 5 with (first
      |(go_at_call 121;(with_reducible refine HC.out.mono ?_);rintro e w5 ⟨V5,xs5,rfl,hown5,hrow5,hb5⟩))
     have b5:=zab B4.out ((zav w4 (.cells #[.slice pA a.vars.length kA,.slice p4 nf k4] 132)).trans (hb5.mono (by simp))) B4.out.size
     have hs5:zai zaz w5 (Old w5) V5 (za0 a.vars b.vars):=zbm hown5 hrow5 (fun g hg=>Nat.lt_of_lt_of_le hg hb5.size) (fun g e=>(hown5.lt g e).2)
     have hl64a:=zk9 (HPA.out (by simp))
     have hl64b:=zk9 (HPB.out (by simp))
     have hov:=zn6 a.vars b.vars
     obtain ⟨p5,k5,rfl⟩:=hs5.slice
     have HO:=Lib.hid (zkw (za0 a.vars b.vars) _ w5 hs5 (by omega))
     have B5:=Lib.hid b5
     have u45:=(b5.block _ (zaa HU.out.2.2)).trans HU.out.2.2
     have hz5:=b5.size
     clear hown5 hrow5 hb5 b5 hs5 HC c2
     obtain ⟨no,hno⟩:∃ no,no=(za0 a.vars b.vars).length:=⟨_,rfl⟩
     have HNO:=Lib.hid hno
     rw [← hno] at hov
     have hov2:no≤128:=by omega
     clear hno
     go_wp2_with (first
      |(go_at_call 71;(with_reducible refine HO.out.mono ?_);rintro e w6 ⟨V6,xs6,rfl,hown6,hrow6,hb6⟩;have u46:=(hb6.block _ (zaa u45)).trans u45;refine Hid.out ?_))
     refine Lib.hid ?_
     have hs6:=za1.slice hown6 hrow6
     have hk6:=zb0 hown6
     obtain ⟨p6,k6,rfl⟩:=zat hown6
     have H6:=Lib.hid (And.intro hs6 hk6)
     have B6:=Lib.hid (zab B5.out hb6 B5.out.size)
     have hz6:=hb6.size
     have B56:=Lib.hid hb6
     have hu4:=zaa u45
     rw [← HNO.out]
     clear hown6 hrow6 hs6 hk6 hb6 u45 HO
     have KEY:∀ wX,Only (W.heap.size+1+1) w6 wX→zai zaz wX (New W wX) (.slice p6 no k6) (za0 a.vars b.vars)∧capK (.slice p6 no k6)∧(Value.slice p6 no k6).oneCell'=true∧Below W.heap.size W wX:=fun wX oX=>by
      have hsb:=B5.out.size
      refine ⟨?_,?_,rfl,zam (HB1.out.trans (B6.out.mono HB1.out.size)) oX (by omega) (HB1.out.trans (B6.out.mono HB1.out.size)).size⟩
      ·rw [HNO.out]
       exact H6.out.1.stays fun g hg=>⟨⟨by have:=hg.1;omega,by have:=hg.2;have:=oX.size;omega⟩,oX.block g hg.2 (by have:=hg.1;omega)⟩
      ·rw [HNO.out]
       exact H6.out.2
     have HKEY:=Lib.hid KEY
     clear KEY
     by_cases hle:no≤64
     ·have hle2:(no:Int)≤64:=by omega
      go_wp2_with (first
       |((with_reducible refine zar (.tmp 4) (.tmp 28) (W.heap.size+1+1) 25 25 _ [.slice p6 no k6,.slice none 0 0] 2 u46 rfl ?_ ?_ ?_ ?_ zag rfl (zbv rfl rfl) ?_);rfl;rfl;rfl;rfl;intro wX oX vX))
      exact bodyPost_ret (zdw (p:=4) (u:=5) Tryz.results73 _ _ (W.heap.size+1+1) _ _ rfl vX) rfl ⟨_,by rw [decide_eq_true (by have:=HNO.out;omega)];rfl,HKEY.out wX oX⟩
     ·have hle2:¬ ((no:Int)≤64):=by omega
      go_wp2_with (first
       |((with_reducible refine zar (.tmp 4) (.tmp 28) (W.heap.size+1+1) 25 25 _ [.slice p6 no k6,.slice none 0 0] 2 u46 rfl ?_ ?_ ?_ ?_ zag rfl (zbv rfl rfl) ?_);rfl;rfl;rfl;rfl;intro wX oX vX))
      exact bodyPost_ret (zdw (p:=4) (u:=5) Tryz.results73 _ _ (W.heap.size+1+1) _ _ rfl vX) rfl ⟨_,by rw [decide_eq_false (by have:=HNO.out;omega)];rfl,HKEY.out wX oX⟩
end Go.Proofs.YteclpnfckjfibaaGreatDoor

/- MN -/
namespace Go.Proofs.YteclpnfckjfibaaGreatDoor
open Go.RowKit
theorem zrr {vs us:List ByteArray}:∀ p∈za4 vs us,p.1 < vs.length∧p.2 < us.length:=fun p hp=>by
 unfold za4 at hp
 obtain ⟨q,hq,h⟩:=List.mem_filterMap.1 hp
 have h1:=(List.mem_zipIdx' hq).1
 cases hk:zbl q.1 us with
 | none=>rw [hk] at h;cases h
 | some k=>
   rw [hk] at h
   cases h
   exact ⟨h1,zfg hk⟩
theorem zex (w:World) (P:Nat→Prop):tabE.rel w P [.slice none 0 0,.slice none 0 0] ⟨[],[]⟩:=⟨_,_,rfl,zai.nil _ _,zai.nil _ _,zp9,zp9,by simp,by simp⟩
theorem zqo {w:World} {base m n:Nat} {sh:List (Nat × Nat)} {A B:Value} (P:Nat→Prop) (hA:w.ownsRow base 3 1 A sh.length (sh.map fun p=>Value.int .i64 (p.1:Nat))) (hB:w.ownsRow base 3 1 B sh.length (sh.map fun p=>Value.int .i64 (p.2:Nat))) (hm:m≤2097152) (hn:n≤2097152) (hlt:∀ p∈sh,p.1 < m∧p.2 < n) (hP:∀ g,base≤g→g < w.heap.size→P g):ShIn w P sh A B:=by
 constructor
 ·refine zc4 (base:=base) P ?_ (fun z hz=>?_) (fun g e=>hP g (hA.lt g e).1 (hA.lt g e).2)
  ·rw [List.length_map,List.map_map]
   exact hA
  ·obtain ⟨p,hp,rfl⟩:=List.mem_map.1 hz
   exact zuq (hlt p hp).1 hm
 ·refine zc4 (base:=base) P ?_ (fun z hz=>?_) (fun g e=>hP g (hB.lt g e).1 (hB.lt g e).2)
  ·rw [List.length_map,List.map_map]
   exact hB
  ·obtain ⟨p,hp,rfl⟩:=List.mem_map.1 hz
   exact zuq (hlt p hp).2 hn
theorem zzp {v:Value} {V R:Value} (h:v.cells=#[V,R]):v=.agg #[V,R]:=by
 cases v <;> simp only [Value.cells] at h
 case agg cs=>rw [h]
 all_goals (exfalso;have:=congrArg Array.size h;simp at this)
set_option maxHeartbeats 1600000 in
theorem z2b (sh:List (Nat × Nat)) (rows:List (List Val)) (A B R L u:Value) (mb gi:Nat) (r:List Val) (w:World) (hgi:w.heap[gi]?=some (.cells #[A,B,R,.map (some mb),L] 90)) (hG:Gd w) (hx:IxIn sh rows A B R mb L (Old w) w) (hu:zai valE w (Old w) u r)
 (hin:∀ x∈rows,∀ p∈sh,p.1 < r.length∧p.2 < x.length) (hin1:∀ p∈sh,p.1 < r.length) (hmr:∀ v∈r,mayP v 0=true) (hmx:∀ x∈rows,∀ v∈x,mayP v 0=true) (hwt:13*wAll (zby sh r)≤700000000)
 (hsn:sh.length≤2097152) (hrn:r.length≤2097152) (hn:rows.length≤2097152):
 Calls Tryz.prog 80 #[u,.pointer (some ⟨gi,0,none⟩)] w fun e w'=>e=.returned (.bool (!zeh sh r rows))∧Below w.heap.size w w':=by
 have HT:=Lib.hid (zzo sh rows A B R L u mb r w (Old w) (fun _ h=>h) hG hx hu hin hin1 hmr hmx hwt hsn hrn hn)
 obtain ⟨pA,kA,pB,kB,rfl,rfl⟩:=hx.shd.slice
 obtain ⟨pR,kR,rfl⟩:=hx.rws.slice
 obtain ⟨pL,kL,rfl⟩:=hx.loose.1.slice
 obtain ⟨pu,ku,rfl⟩:=hu.slice
 generalize zeh sh r rows=q at*
 clear hx hu hin hin1 hmr hmx hwt hG
 cases q with
 | true=>
   go_enter Tryz.func80,Tryz.ntmps80
   go_wp2_with (first
    |((with_reducible refine zah (.tmp 1) gi 90 90 [.slice pA sh.length kA,.slice pB sh.length kB,.slice pR rows.length kR,.map (some mb),.slice pL (zbi sh rows).length kL] 5 _ hgi rfl Tryz.underlying90 rfl zh7 ?_ ?_ ?_ ?_);rfl;rfl;rfl)
    |(go_at_call 81;(with_reducible refine HT.out.mono ?_);rintro e w1 ⟨rfl,hb⟩))
   go_ret
   exact ⟨by first | rfl | simp,hb⟩
 | false=>
   go_enter Tryz.func80,Tryz.ntmps80
   go_wp2_with (first
    |((with_reducible refine zah (.tmp 1) gi 90 90 [.slice pA sh.length kA,.slice pB sh.length kB,.slice pR rows.length kR,.map (some mb),.slice pL (zbi sh rows).length kL] 5 _ hgi rfl Tryz.underlying90 rfl zh7 ?_ ?_ ?_ ?_);rfl;rfl;rfl)
    |(go_at_call 81;(with_reducible refine HT.out.mono ?_);rintro e w1 ⟨rfl,hb⟩))
   go_ret
   exact ⟨by first | rfl | simp,hb⟩
def zcd (a b:TabL):TabL:=if (tabP a && tabP b)=true then ⟨a.vars,a.rows.filter fun r=>!zeh (za4 a.vars b.vars) r b.rows⟩ else ⟨[],[]⟩
structure WtOk (a b:TabL):Prop where
 ra:∀ r∈a.rows,13*wAll (zby (za4 a.vars b.vars) r)≤700000000
 rb:∀ r∈b.rows,13*wAll (zbh (za4 a.vars b.vars) r)≤700000000
set_option maxHeartbeats 12800000 in
set_option maxRecDepth 20000 in
theorem zte (a b:TabL) (VA RA VB RB:Value) (W:World) (hG:Gd W) (ha:tabE.rel W (Old W) [VA,RA] a) (hb:tabE.rel W (Old W) [VB,RB] b) (hwt:WtOk a b):Calls Tryz.prog 27 #[.agg #[VA,RA],.agg #[VB,RB]] W (zbs tabE (zcd a b) W):=by
 have ha0:=ha
 have hb0:=hb
 obtain ⟨V',R',e,hva,hra,hcva,hcra,hlva,hlra⟩:=ha
 cases e
 obtain ⟨V',R',e,hvb,hrb,hcvb,hcrb,hlvb,hlrb⟩:=hb
 cases e
 obtain ⟨pA,kA,rfl⟩:=hva.slice
 obtain ⟨qA,lA,rfl⟩:=hra.slice
 obtain ⟨pB,kB,rfl⟩:=hvb.slice
 obtain ⟨qB,lB,rfl⟩:=hrb.slice
 obtain ⟨W1,hW1⟩:∃ W1,W1=((W.alloc (.cells #[.slice pA a.vars.length kA,.slice qA a.rows.length lA] 25)).alloc (.cells #[.slice pB b.vars.length kB,.slice qB b.rows.length lB] 25)).alloc (.cells #[.slice none 0 0,.slice none 0 0] 25):=⟨_,rfl⟩
 have b1:Below W.heap.size W W1:=by rw [hW1];exact (zcr _ _ _).alloc (by simp;omega) _
 have s1:W1.heap.size=W.heap.size+3:=by rw [hW1];simp
 have u2:W1.heap[W.heap.size]?=some (.cells #[.slice pA a.vars.length kA,.slice qA a.rows.length lA] 25):=by rw [hW1];exact zaq _ (zaq _ (zaf _ _ rfl))
 have u3:W1.heap[W.heap.size+1]?=some (.cells #[.slice pB b.vars.length kB,.slice qB b.rows.length lB] 25):=by rw [hW1];exact zaq _ (zaf _ _ (by simp))
 have u4:W1.heap[W.heap.size+1+1]?=some (.cells #[.slice none 0 0,.slice none 0 0] 25):=by rw [hW1];exact zaf _ _ (by simp)
 have h1:=zct a _ _ W1 (hG.below b1) (tabE.stays (zae b1) ha0)
 have h2:∀ W',Below W1.heap.size W1 W'→Calls Tryz.prog 14 #[.agg #[.slice pB b.vars.length kB,.slice qB b.rows.length lB]] W' fun e w'=>e=.returned (.bool (tabP b))∧Below W'.heap.size W' w':=fun W' h=>by
  have h':=zab b1 h b1.size
  exact zct b _ _ W' (hG.below h') (tabE.stays (zae h') hb0)
 have HVA:Hid (∀ W',Below W1.heap.size W1 W'→zai zaz W' (Old W') (.slice pA a.vars.length kA) a.vars):=Lib.hid fun W' h=>hva.stays (zae (zab b1 h b1.size))
 have HVB:Hid (∀ W',Below W1.heap.size W1 W'→zai zaz W' (Old W') (.slice pB b.vars.length kB) b.vars):=Lib.hid fun W' h=>hvb.stays (zae (zab b1 h b1.size))
 have HRA:Hid (∀ W',Below W1.heap.size W1 W'→zai rowE W' (Old W') (.slice qA a.rows.length lA) a.rows):=Lib.hid fun W' h=>hra.stays (zae (zab b1 h b1.size))
 have HRB:Hid (∀ W',Below W1.heap.size W1 W'→zai rowE W' (Old W') (.slice qB b.rows.length lB) b.rows):=Lib.hid fun W' h=>hrb.stays (zae (zab b1 h b1.size))
 have HGD:Hid (Gd W1):=Lib.hid (hG.below b1)
 have HTA:Hid (tabP a=true→(∀ r∈a.rows,r.length=a.vars.length)∧∀ r∈a.rows,∀ v∈r,mayP v 0=true):=Lib.hid zbk
 have HTB:Hid (tabP b=true→(∀ r∈b.rows,r.length=b.vars.length)∧∀ r∈b.rows,∀ v∈r,mayP v 0=true):=Lib.hid zbk
 unfold zcd
 have HPA:Hid (tabP a=true→zeb a.vars=true):=Lib.hid zcn
 have HPB:Hid (tabP b=true→zeb b.vars=true):=Lib.hid zcn
 generalize hpa:tabP a=pa at*
 generalize hpb:tabP b=pb at*
 have H1:=Lib.hid h1
 have H2:=Lib.hid h2
 have HW:=Lib.hid hW1
 have HB1:=Lib.hid b1
 have HU:=Lib.hid (And.intro u2 (And.intro u3 u4))
 have HK:=Lib.hid (And.intro hcva hcvb)
 clear h1 h2 ha0 hb0 hva hra hcra hvb hrb hcrb hG hW1 b1 hcva hcvb u3 hpa hpb
 cases pa with
 | false=>
   simp only [Bool.false_and,Bool.false_eq_true,if_false]
   go_enter Tryz.func27,Tryz.ntmps27
   go_upto_region 1 with fail
   rw [← HW.out]
   go_upto_region 2 with (first
    |((with_reducible refine zah (.tmp 2) W.heap.size 25 25 [.slice pA a.vars.length kA,.slice qA a.rows.length lA] 2 _ u2 rfl Tryz.underlying25 rfl zag ?_ ?_ ?_ ?_);rfl;rfl;rfl)
    |(go_at_call 14;(with_reducible refine H1.out.mono ?_);rintro e w2 ⟨rfl,hb2⟩))
   have u42:=(hb2.block _ (zaa u4)).trans u4
   have B2:=Lib.hid (zab HB1.out hb2 HB1.out.size)
   clear hb2 u2 u4
   go_wp2_with (first
    |((with_reducible refine zar (.tmp 4) (.tmp 16) (W.heap.size+1+1) 25 25 _ [.slice none 0 0,.slice none 0 0] 2 u42 rfl ?_ ?_ ?_ ?_ zag rfl (zbv rfl rfl) ?_);rfl;rfl;rfl;rfl;intro wX oX vX))
   refine bodyPost_ret (results_cell_row (p:=4) (ty:=25) Tryz.results27 _ _ (W.heap.size+1+1) 25 _ (0,0) _ rfl vX Tryz.underlying25 rfl zag) rfl ⟨_,[_,_],rfl,rfl,zex _ _,zam B2.out oX (by omega) B2.out.size⟩
 | true=>
   cases pb with
   | false=>
     simp only [Bool.and_false,Bool.false_eq_true,if_false]
     go_enter Tryz.func27,Tryz.ntmps27
     go_upto_region 1 with fail
     rw [← HW.out]
     go_upto_region 2 with (first
      |((with_reducible refine zah (.tmp 2) W.heap.size 25 25 [.slice pA a.vars.length kA,.slice qA a.rows.length lA] 2 _ u2 rfl Tryz.underlying25 rfl zag ?_ ?_ ?_ ?_);rfl;rfl;rfl)
      |((with_reducible refine zay ?_ (.tmp 3) (W.heap.size+1) 25 25 [.slice pB b.vars.length kB,.slice qB b.rows.length lB] 2 _ u32 rfl Tryz.underlying25 rfl zag ?_ ?_ ?_);rfl;rfl;rfl)
      |(go_at_call 14;(with_reducible refine H1.out.mono ?_);rintro e w2 ⟨rfl,hb2⟩;have u32:=(hb2.block _ (zaa HU.out.2.1)).trans HU.out.2.1)
      |(go_at_call 14;(with_reducible refine (H2.out _ hb2).mono ?_);rintro e w3 ⟨rfl,hb3⟩))
     have b3:=zab hb2 hb3 hb2.size
     have u42:=(b3.block _ (zaa u4)).trans u4
     have B2:=Lib.hid (zab HB1.out b3 HB1.out.size)
     clear hb2 hb3 b3 u2 u4 u32
     go_wp2_with (first
      |((with_reducible refine zar (.tmp 4) (.tmp 16) (W.heap.size+1+1) 25 25 _ [.slice none 0 0,.slice none 0 0] 2 u42 rfl ?_ ?_ ?_ ?_ zag rfl (zbv rfl rfl) ?_);rfl;rfl;rfl;rfl;intro wX oX vX))
     refine bodyPost_ret (results_cell_row (p:=4) (ty:=25) Tryz.results27 _ _ (W.heap.size+1+1) 25 _ (0,0) _ rfl vX Tryz.underlying25 rfl zag) rfl ⟨_,[_,_],rfl,rfl,zex _ _,zam B2.out oX (by omega) B2.out.size⟩
   | true=>
     simp only [Bool.and_true,if_true]
     go_enter Tryz.func27,Tryz.ntmps27
     go_upto_region 1 with fail
     rw [← HW.out]
     go_upto_region 3 with (first
      |((with_reducible refine zah (.tmp 2) W.heap.size 25 25 [.slice pA a.vars.length kA,.slice qA a.rows.length lA] 2 _ u2 rfl Tryz.underlying25 rfl zag ?_ ?_ ?_ ?_);rfl;rfl;rfl)
      |((with_reducible refine zay ?_ (.tmp 3) (W.heap.size+1) 25 25 [.slice pB b.vars.length kB,.slice qB b.rows.length lB] 2 _ u32 rfl Tryz.underlying25 rfl zag ?_ ?_ ?_);rfl;rfl;rfl)
      |(go_at_call 14;(with_reducible refine H1.out.mono ?_);rintro e w2 ⟨rfl,hb2⟩;have u32:=(hb2.block _ (zaa HU.out.2.1)).trans HU.out.2.1)
      |(go_at_call 14;(with_reducible refine (H2.out _ hb2).mono ?_);rintro e w3 ⟨rfl,hb3⟩))
     have b3:=zab hb2 hb3 hb2.size
     have c23:=zad ((b3.block _ (zaa HU.out.1)).trans HU.out.1) 0 rfl
     have c33:=zad ((b3.block _ (zaa HU.out.2.1)).trans HU.out.2.1) 0 rfl
     have HS:=Lib.hid (zul a.vars b.vars _ _ w3 (HVA.out _ b3) (HVB.out _ b3) hlva hlvb)
     have hsl:=zie a.vars b.vars
     have HSL:=Lib.hid (fun p hp=>zrr (vs:=a.vars) (us:=b.vars) p hp)
     have HWA:=Lib.hid hwt.ra
     have HWB:=Lib.hid hwt.rb
     have B3:=Lib.hid b3
     clear hb2 hb3 b3 u2 u4 u32 hwt
     generalize hsq:za4 a.vars b.vars=sh at*
     have HSQ:=Lib.hid hsq
     clear hsq
     go_upto_region 4 with (first
      |(go_at_call 76;(with_reducible refine HS.out.mono ?_);rintro e w4 ⟨A,B,rfl,hoA,hoB,hb4⟩;obtain ⟨pS,kS,rfl⟩:=zat hoA;obtain ⟨pT,kT,rfl⟩:=zat hoB)
      |((with_reducible refine zar (.tmp 5) (.tmp 21) w4.heap.size 87 87 _ [.slice pS sh.length kS,.slice pT sh.length kT] 2 (zaf _ _ rfl) rfl ?_ ?_ ?_ ?_ zmf rfl (zbv rfl rfl) ?_);rfl;rfl;rfl;rfl;intro wX oX vX))
     have bX:Below w4.heap.size w4 wX:=zam (zav w4 _) oX (Nat.le_refl _) (by simp)
     have b4:=zab (zab B3.out hb4 B3.out.size) bX (zab B3.out hb4 B3.out.size).size
     have hsh:ShIn wX (Old wX) sh (.slice pS sh.length kS) (.slice pT sh.length kT):=(zqo (Old w4) hoA hoB hlva hlvb HSL.out (fun g _ h=>h)).stays (zae bX)
     have c3X:=zad ((b4.block _ (zaa HU.out.2.1)).trans HU.out.2.1) 1 rfl
     have hta:=HTA.out (by simp)
     have htb:=HTB.out (by simp)
     have HNI:=Lib.hid (zii sh b.rows _ _ _ wX (HGD.out.below b4) hsh (HRB.out _ b4) (fun r hr p hp=>by rw [htb.1 r hr];exact (HSL.out p hp).2) htb.2 HWB.out (by omega) hlrb)
     have B4:=Lib.hid b4
     have HT:=Lib.hid (And.intro hta htb)
     clear hoA hoB hb4 oX bX b4 hsh hta htb c23 c33 HS
     go_upto_region 5 with (first
      |((with_reducible refine zah (.tmp 5) w4.heap.size 87 87 [.slice pS sh.length kS,.slice pT sh.length kT] 2 _ vX rfl Tryz.underlying87 rfl zmf ?_ ?_ ?_ ?_);rfl;rfl;rfl)
      |(go_at_call 75;(with_reducible refine HNI.out.mono ?_);rintro e w5 ⟨mb,L,rfl,hix,hLo,hb5⟩;obtain ⟨pL,kL,rfl⟩:=hix.loose.1.slice)
      |((with_reducible refine zar (.tmp 6) (.tmp 25) w5.heap.size 90 90 _ [.slice pS sh.length kS,.slice pT sh.length kT,.slice qB b.rows.length lB,.map (some mb),.slice pL (zbi sh b.rows).length kL] 5 (zaf _ _ rfl) rfl ?_ ?_ ?_ ?_ zh7 rfl (zk0 rfl rfl rfl rfl rfl) ?_);rfl;rfl;rfl;rfl;intro wY oY vY))
     have bY:Below w5.heap.size w5 wY:=zam (zav w5 _) oY (Nat.le_refl _) (by simp)
     have b5:=zab (zab B4.out hb5 B4.out.size) bY (zab B4.out hb5 B4.out.size).size
     have hiY:=hix.stays (zae bY)
     have hs5w:W1.heap.size≤w5.heap.size:=(zab B4.out hb5 B4.out.size).size
     have HIX:=Lib.hid (And.intro hiY vY)
     have B5:=Lib.hid b5
     have v2Y:=(b5.block _ (zaa HU.out.1)).trans HU.out.1
     have v4Y:=(b5.block _ (zaa HU.out.2.2)).trans HU.out.2.2
     clear hix hLo hb5 oY bY b5 hiY vY vX HNI c3X
     go_upto_region 6 with fail
     refine wp_region_held_drew (S:=fun W'=>W'.heap[W.heap.size]?=some (.cells #[.slice pA a.vars.length kA,.slice qA a.rows.length lA] 25)) (by kernel_rfl) v2Y (fun hh=>?_)
     have bq:Below wY.heap.size wY wY.drew:=(Below.refl _ _).drew
     have v4q:wY.drew.heap[W.heap.size+1+1]?=some (.cells #[.slice none 0 0,.slice none 0 0] 25):=v4Y
     clear v2Y v4Y
     generalize wY.drew=wD at*
     have HWH:=Lib.hid (z1k (.pointer (some ⟨w5.heap.size,0,none⟩)) (fun r=>!zeh sh r b.rows) a.rows _ wD (HRA.out _ (zab B5.out bq B5.out.size)) hlra (fun x hx W' u hb hr=>by
      obtain ⟨v,e,hsx,_,hxl⟩:=hr
      cases e
      have hb':=zab bq hb bq.size
      have hbW:=zab B5.out hb' B5.out.size
      refine z2b sh b.rows _ _ _ _ u mb w5.heap.size x W' ((hb'.block _ (zaa HIX.out.2)).trans HIX.out.2) (HGD.out.below hbW) (HIX.out.1.stays (zae hb')) hsx (fun y hy p hp=>⟨by rw [HT.out.1.1 x hx];exact (HSL.out p hp).1,by rw [HT.out.2.1 y hy];exact (HSL.out p hp).2⟩) (fun p hp=>by rw [HT.out.1.1 x hx];exact (HSL.out p hp).1) (HT.out.1.2 x hx) HT.out.2.2 (HWA.out x hx) (by omega) hxl hlrb))
     have bwD:=zab B5.out bq B5.out.size
     clear bq
     obtain ⟨ft,hft⟩:∃ ft,ft=a.rows.filter fun r=>!zeh sh r b.rows:=⟨_,rfl⟩
     rw [← hft] at HWH
     have hfn:ft.length≤2097152:=by rw [hft];exact Nat.le_trans (List.length_filter_le _ _) hlra
     have HFT:=Lib.hid hft
     clear hft
     refine tg (i:=0) (.pointer (some ⟨W.heap.size,0,none⟩)) rfl (hh) ?_
     refine tg (i:=2) (.pointer (some ⟨W.heap.size,1,none⟩)) rfl (hh) ?_
     refine tg (i:=4) (.func (.func 80) #[] #[.pointer (some ⟨w5.heap.size,0,none⟩)]) rfl (hh) ?_
     refine tk (i:=1) (v:=.slice pA a.vars.length kA) rfl (Or.inl ⟨by rfl,fun W' h=>by have c0:=zad h 0 rfl;go_simp⟩) (hh) ?_
     refine tk (i:=3) (v:=.slice qA a.rows.length lA) rfl (Or.inl ⟨by rfl,fun W' h=>by have c0:=zad h 1 rfl;go_simp⟩) (hh) ?_
     refine tr 5 rfl (fun K hK=>?_)
     try rw [if_pos (by rfl)]
     go_simp
     refine HWH.out.mono ?_
     rintro e0 w7 ⟨VF,xsF,rfl,hoF,hrF,hb7⟩
     obtain ⟨pF,kF,rfl⟩:=zat hoF
     have hsF:zai rowE w7 (Old w7) (.slice pF ft.length kF) ft:=zbm hoF hrF (fun g hg=>Nat.lt_of_lt_of_le hg hb7.size) (fun g e=>(hoF.lt g e).2)
     have b7:=zab bwD hb7 bwD.size
     have HOT:=Lib.hid (zo4 ⟨a.vars,ft⟩ _ _ w7 ⟨_,_,rfl,HVA.out _ b7,hsF,HK.out.1,zb0 hoF,hlva,hfn⟩)
     replace hh:=(hb7.block _ (zaa hh)).trans hh
     replace v4q:=(hb7.block _ (zaa v4q)).trans v4q
     have h7s:=b7.size
     clear hoF hrF hsF hb7 bwD
     refine hK.out _ _ (hh) (fun _=>?_)
     clear hK K
     try simp only [putS]
     refine tg (i:=6) (.agg #[.slice pA a.vars.length kA,.slice pF ft.length kF]) rfl (hh) ?_
     refine tr 7 rfl (fun K hK=>?_)
     try rw [if_pos (by rfl)]
     go_simp
     refine HOT.out.mono ?_
     rintro e0 w8 ⟨u8,c8,rfl,hc8,hr8,hb8⟩
     obtain ⟨V8,R8,rfl,hr8'⟩:=id hr8
     obtain rfl:=zzp (hc8.trans rfl)
     have hone8:=tabE.one hr8
     replace hh:=(hb8.block _ (zaa hh)).trans hh
     replace v4q:=(hb8.block _ (zaa v4q)).trans v4q
     have H8:=Lib.hid hr8
     have b8:=zab b7 hb8 b7.size
     have h8s:=hb8.size
     clear hc8 hr8 hr8' hb8 HOT
     refine hK.out _ _ (hh) (fun _=>?_)
     clear hK K
     try simp only [putS]
     refine tr 8 rfl (fun K hK=>?_)
     try rw [if_pos (by rfl)]
     refine zcl (.tmp 4) (.tmp 34) (W.heap.size+1+1) 25 25 _ [V8,R8] 2 v4q rfl rfl rfl rfl zag rfl hone8 ?_
     intro w9 o9 v9
     replace hh:=(o9.block _ (zaa hh) (by omega)).trans hh
     refine hK.out _ _ (hh) (fun _=>?_)
     clear hK K
     try simp only [putS]
     refine wpAnyH_done (by kernel_rfl) ?_ _
     go_wp2_with fail
     have hB1:=HB1.out
     have b9:=zam (hB1.trans (b8.mono hB1.size)) o9 (by omega) (hB1.trans (b8.mono hB1.size)).size
     have hft:=HFT.out
     refine bodyPost_ret (results_cell_row (p:=4) (ty:=25) Tryz.results27 _ _ (W.heap.size+1+1) 25 _ (0,0) _ rfl v9 Tryz.underlying25 rfl zag) rfl ⟨_,[V8,R8],rfl,rfl,?_,b9⟩
     rw [HSQ.out,← hft]
     exact tabE.stays (fun g hg=>⟨⟨by have:=hg.1;have:=hB1.size;omega,Nat.lt_of_lt_of_le hg.2 o9.size⟩,o9.block g hg.2 (by have:=hg.1;omega)⟩) H8.out
end Go.Proofs.YteclpnfckjfibaaGreatDoor
