/- Called with any script (triples, patterns, an order, what is asked of a cursor), of bulk at most 1048576, the law TriplesLoad returns true (the store, each triple once, in their order, or the refusal; what fits any patterns; what is handed in, or told, is written over) and leaves its argument as it was. Conditions: those of the given card alone, and the bulk. -/
import Derived.Test.YtanbgdhmfjgihaaGreatDoorUaz
import Derived.Test.YtanbgdhmfjgihaaGreatDoorUbj
import Derived.Test.YtanbgdhmfjgihaaGreatDoorUbl
import Derived.Test.YtanbgdhmfjgihaaGreatDoorTie
import Derived.Test.YtanbgdhmfjgihaaGreatDoorCards
import Derived.SevenTiedAt
import Derived.ProofKit
import Derived.LaidMore
import Derived.OpenShut
import Derived.Lay
import Derived.Carry
import Derived.HandedShaped
import Derived.Shelf.Vars
import Derived.Stop.Joined
import Derived.Stop.LaidErr
import Derived.Lib.SmallJoins
import Derived.Deep.DeepHandedRow
namespace Go.Proofs.YtanbgdhmfjgihaaGreatDoor
open Go.RowKit
set_option maxHeartbeats 12800000
set_option maxRecDepth 20000
section
open Go.ChangeShapes Go.WideShapes Go.ChangeAt Go.RowKit
theorem own:ownKnob Tryz.prog.godebug=none:=by kernel_rfl
theorem laidOut:laidOutB Tryz.prog=true:=by kernel_rfl
def lists:List (String × DataW Unit):=Rows.triplesLoadUptoRow.laid
theorem zr4 {W:World} (h:W.ShapedOpen Tryz.prog):Gd W:=
 cell_of_shapedOpen_int (t:=3) (zero:=#[.int .i64 0]) h (of_decide_eq_true (by kernel_rfl)) (by kernel_rfl) (by kernel_rfl) (by kernel_rfl) (by kernel_rfl) (by kernel_rfl)
theorem zr5 {W:World} (h:laidMetH Tryz.prog lists W):Tab W:=by
 rw [MakeChecks.laidMetH_plain _ _ _ (by kernel_rfl)] at h
 have h1:=laidMet.tail h
 have h2:=laidMet.tail h1
 exact Lib.tabIs_of_head (g:=3) (t:=258) (e:=176) (n:=20) (by kernel_rfl) (by kernel_rfl) (by kernel_rfl) (by kernel_rfl) (by kernel_rfl) (by kernel_rfl) h2
theorem loadMid (p0:Option Addr) (n cap:Nat) (P0 O0 D0:Value) (w:World) (hG:Gd w) (hT:Tab w) (hn:60 < n) (hm:n≤65536):
 Calls Tryz.prog 3 #[.agg #[.slice p0 n cap,P0,O0,D0]] w fun e w'=>e=.returned (.bool true)∧Below w.heap.size w w':=by
 obtain ⟨W1,hW1⟩:∃ W1,W1=w.alloc (.cells #[.slice p0 n cap,P0,O0,D0] 26):=⟨_,rfl⟩
 have b1:Below w.heap.size w W1:=by rw [hW1];exact zap _ _
 have c0:W1.cell? ⟨w.heap.size,0,none⟩=some (.slice p0 n cap):=by rw [hW1];exact zab (zag _ _ rfl) 0 rfl
 have hni:(60:Int) < n:=by omega
 have hni2:(n:Int)≤65536:=by omega
 have HK:=Lib.hid (zp6 W1 (hG.below b1) (hT.below b1))
 have HW:=Lib.hid hW1
 clear hW1
 go_enter Tryz.func3,Tryz.ntmps3
 go_upto_region 1 with fail
 rw [← HW.out]
 go_wp2_with (go_at_call 8;(with_reducible refine HK.out.mono ?_);rintro e w9 ⟨rfl,hb9⟩)
 go_ret
 exact ⟨rfl,b1.trans (hb9.mono b1.size)⟩
theorem loadAny (l pats:List Tri3) (L P0 O0 D:Value) (w:World) (hG:Gd w) (hT:Tab w) (hl:Tris w L l) (hp:Tris w P0 pats) (hn:l.length≤2097152):
 Calls Tryz.prog 3 #[.agg #[L,P0,O0,D]] w fun e w'=>e=.returned (.bool true)∧Below w.heap.size w w':=by
 by_cases h1:65536 < l.length
 ·exact zz2 l L P0 O0 D w hG hT hl hn h1
 ·by_cases h2:60 < l.length
  ·obtain ⟨p0,cap,rfl⟩:=zc9 hl
   exact loadMid p0 l.length cap P0 O0 D w hG hT h2 (by omega)
  ·by_cases hg:∀ t∈l,zci t=true
   ·exact zz5 l L P0 O0 D w hG hT hl hn (by omega) hg pats hp
   ·exact loadFew l L P0 O0 D w hG hT hl hn (by omega) hg
section
open Go.ChangeShapes
variable {H:Type} {enc:TypeId × Value→H}
theorem zr6 {W:World} (B:Nat) (hBB:B≤2097152) {n:Nat} {cs:List Value} {y:DataW H × List MemPlace} (h:DataW.trod enc Tryz.prog W 0 (fun _=>true) true n 45 cs=some y) (hB:Rows.uptoBulk y.1≤B):
 ∃ t:Tri3,∀ g off,(∀ j,j < 18→W.cell? ⟨g,off+j,none⟩=cs[j]?)→zax W g off t.s∧zax W g (off+6) t.p∧zax W g (off+12) t.o:=by
 obtain ⟨xs,n',rfl,rfl,hl,hlen,hf⟩:=DataW.trod_struct Tryz.underlying45 h
 have hl18:cs.length=18:=hl.trans (by kernel_rfl:Tryz.prog.cellsOf 45=18)
 have hlen3:xs.length=3:=hlen.trans rfl
 obtain ⟨y0,y1,y2,rfl⟩:∃ a b c,xs=[a,b,c]:=by
  match xs,hlen3 with
  | [a,b,c],_=>exact ⟨a,b,c,rfl⟩
 have e6:Tryz.prog.cellsOf 39=6:=by kernel_rfl
 have h0:DataW.trod enc Tryz.prog W 0 (fun _=>true) true n' 39 ((cs.drop 0).take (Tryz.prog.cellsOf 39))=[y0,y1,y2][0]?:=hf 0 _ rfl
 have h1:DataW.trod enc Tryz.prog W 0 (fun _=>true) true n' 39 ((cs.drop 6).take (Tryz.prog.cellsOf 39))=[y0,y1,y2][1]?:=hf 1 _ rfl
 have h2:DataW.trod enc Tryz.prog W 0 (fun _=>true) true n' 39 ((cs.drop 12).take (Tryz.prog.cellsOf 39))=[y0,y1,y2][2]?:=hf 2 _ rfl
 rw [e6] at h0 h1 h2
 have hall:Rows.uptoBulk y0.1+(Rows.uptoBulk y1.1+(Rows.uptoBulk y2.1+0))+1≤B:=hB
 obtain ⟨k0,b0,m0,t0,x0,q0,p0,e0,f0,d0⟩:=zc7 B hBB h0 (by omega)
 obtain ⟨k1,b1,m1,t1,x1,q1,p1,e1,f1,d1⟩:=zc7 B hBB h1 (by omega)
 obtain ⟨k2,b2,m2,t2,x2,q2,p2,e2,f2,d2⟩:=zc7 B hBB h2 (by omega)
 have part:∀ (o:Nat) (L:List Value),(cs.drop o).take 6=L→L.length=6→∀ g off,(∀ j,j < 18→W.cell? ⟨g,off+j,none⟩=cs[j]?)→o+6≤18→∀ j v,L[j]?=some v→W.cell? ⟨g,off+o+j,none⟩=some v:=by
  intro o L hL hL6 g off hc ho j v hv
  have hj:j < 6:=by rw [← hL6];exact (List.getElem?_eq_some_iff.1 hv).1
  rw [← hL,List.getElem?_take,if_pos hj,List.getElem?_drop] at hv
  rw [Nat.add_assoc,hc (o+j) (by omega),hv]
 refine ⟨⟨.mk k0 b0 m0 t0 x0 q0,.mk k1 b1 m1 t1 x1 q1,.mk k2 b2 m2 t2 x2 q2⟩,fun g off hc=>⟨zc8 (part 0 _ e0 rfl g off hc (by omega)) f0 d0,zc8 (part 6 _ e1 rfl g off hc (by omega)) f1 d1,zc8 (part 12 _ e2 rfl g off hc (by omega)) f2 d2⟩⟩
theorem zqp {W:World} (B:Nat) (hBB:B≤2097152) {n:Nat} {L:Value} {y:DataW H × List MemPlace} (h:DataW.trod enc Tryz.prog W 0 (fun _=>true) true n 23 [L]=some y) (hB:Rows.uptoBulk y.1≤B):
 ∃ l,Tris W L l∧l.length≤B:=by
 obtain ⟨p,len,cap,rfl,hln,hh⟩:=znb (B:=B) (size:=18) Tryz.underlying23 (by kernel_rfl) (by omega) h hB
 rcases hh with rfl | ⟨g,off,rfl,each⟩
 ·exact ⟨[],⟨p,cap,rfl,fun e=>absurd rfl e⟩,Nat.zero_le _⟩
 ·have build:∀ m,m≤len→∃ l:List Tri3,l.length=m∧zaq W g (off+(len - m)*18) (flat l):=by
   intro m
   induction m with
   | zero=>exact fun _=>⟨[],rfl,by rw [zdp];unfold zaq;trivial⟩
   | succ m ih=>
     intro hm1
     obtain ⟨l,hll,hh⟩:=ih (by omega)
     obtain ⟨n',cs,yi,h1,h2,h3⟩:=each (len - (m+1)) (by omega)
     obtain ⟨t,ht⟩:=zr6 B hBB h1 h2
     obtain ⟨t1,t2,t3⟩:=ht g _ h3
     refine ⟨t::l,by simp [hll],?_⟩
     rw [zbv]
     unfold zaq
     refine ⟨t1,?_⟩
     unfold zaq
     refine ⟨t2,?_⟩
     unfold zaq
     refine ⟨t3,?_⟩
     rw [show off+(len - (m+1))*18+6+6+6=off+(len - m)*18 by omega]
     exact hh
  obtain ⟨l,hll,hh⟩:=build len (Nat.le_refl _)
  rw [Nat.sub_self,Nat.zero_mul,Nat.add_zero] at hh
  exact ⟨l,⟨_,cap,by rw [hll],fun _=>⟨g,off,rfl,hh⟩⟩,by omega⟩
end
def start:Array Value:=#[.agg #[.slice none 0 0,.slice none 0 0,.string ⟨#[]⟩,.slice none 0 0]]
theorem zr7 (os:Os):((World.laidAll Tryz.prog os lists).forCall (fun _ _=>0) ⟨#[],start,[]⟩).Shaped Tryz.prog:=
 World.shaped_of_ZipB (by kernel_rfl) (by kernel_rfl)
theorem zx2 (os:Os):laidMetH Tryz.prog lists ((World.laidAll Tryz.prog os lists).forCall (fun _ _=>0) ⟨#[],start,[]⟩).memory:=by
 rw [MakeChecks.laidMetH_plain _ _ _ (by kernel_rfl)]
 exact laidMet_laidAll _ (by kernel_rfl) (by kernel_rfl)
theorem zuw (os:Os) {H:Type} (enc:TypeId × Value→H):∃ places,DataW.whole enc Tryz.prog ((World.laidAll Tryz.prog os lists).forCall (fun _ _=>0) ⟨#[],start,[]⟩).memory Tryz.f3.params.toList Rows.triplesLoadSpec.vars false start.toList 8=some ([.agg [.nil,.nil,.lit (.string []),.nil]],[],places):=
 ⟨[],by kernel_rfl⟩
set_option maxRecDepth 100000 in
theorem zux (os:Os) (started:os.Started) (H:Type) (enc:TypeId × Value→H) (F:Stop.Interp):
 ReturnsInHanded {} Tryz.checked os 3 .any ((Rows.OpenSpec.upto Rows.triplesLoadSpec).preRow enc Tryz.prog Tryz.f3 Rows.triplesLoadUptoRow.domain false Rows.triplesLoadUptoRow.laid) (((Rows.OpenSpec.upto Rows.triplesLoadSpec).at F).post enc Tryz.prog Tryz.f3 false true false false):=by
 obtain ⟨places,hx⟩:=zuw os enc
 refine returnsInHanded_of_row (C:=Tryz.checked) (s:=Rows.OpenSpec.upto Rows.triplesLoadSpec) own started (by kernel_rfl) Tryz.func3
  ⟨World.laidAll Tryz.prog os lists,fun _ _=>0,⟨#[],start,[]⟩,World.laidAll_os _ _ _,zr7 os,rfl,(Input.okWide_of_okWideB (base:=0) (by kernel_rfl)).2,
   OpenSpec.preRow_of_cond 8 hx (by kernel_rfl) (fun k hk=>by cases hk;kernel_rfl) (by kernel_rfl) (zx2 os),by
    simp only [Assume.holds]
    exact ⟨by simp,by simp,fun h=>(by cases h),by simp,by simp⟩⟩ ?_
 intro W base args ds gs before hval0 hW _ hcond _ hL hsh _
 have hval:∀ (j:Nat) t v,Tryz.f3.params[j]?=some t→args[j]?=some v→Value.okWide Tryz.prog W .any base t v:=hval0
 have hW':=hW
 obtain ⟨p,q,hA0,hV,rfl,hfz,hnd⟩:=hW
 have hA:DataW.TrodAll enc Tryz.prog W 0 (fun _=>true) true Tryz.f3.params.toList args.toList ds p:=hA0
 rw [Tryz.params3] at hA hval
 obtain ⟨v0,d0,rfl,rfl,h0⟩:=ChangeShapes.trodAll_one hA
 obtain ⟨rfl,rfl⟩:=ChangeShapes.trodVars_none hV
 obtain ⟨L,P0,O0,D,y0,y1,y2,y3,n,rfl,rfl,rfl,t0,t1,t2,t3⟩:=Joins.open_agg4 Tryz.underlying26 (by kernel_rfl) (by kernel_rfl) (hval 0 26 v0 rfl rfl) h0
 have hk:=hcond _ rfl
 have hbulk:Rows.uptoBulk y0.1≤1048576∧Rows.uptoBulk y1.1≤1048576:=by
  have h1:Rows.uptoBulkAll [DataW.agg [y0.1,y1.1,y2.1,y3.1]]≤1048576:=of_decide_eq_true hk
  have e:Rows.uptoBulkAll [DataW.agg [y0.1,y1.1,y2.1,y3.1]]=(Rows.uptoBulk y0.1+(Rows.uptoBulk y1.1+(Rows.uptoBulk y2.1+(Rows.uptoBulk y3.1+0)))+1)+0:=rfl
  rw [e] at h1
  omega
 obtain ⟨l,hl,hln⟩:=zp8 1048576 (by decide) t0 hbulk.1
 obtain ⟨pats,hp,_⟩:=zqp 1048576 (by decide) t1 hbulk.2
 refine (loadAny l pats L P0 O0 D W (zr4 hsh) (zr5 hL) hl hp (by omega)).mono fun e W' ⟨he,hb⟩=>?_
 subst he
 have hlt:∀ x∈y0.2++(y1.2++(y2.2++y3.2)),x.block < W.heap.size:=fun x hx=>by simpa using hW'.lt x (by simpa using hx)
 refine ⟨_,rfl,_,_,_,[],_,[],hW',?_,ChangeShapes.trodAll_mk1 (Below.trod laidOut (by kernel_rfl) (of_decide_eq_true (by kernel_rfl)) h0 hb hlt),rfl,hb.frame _,fun h=>by cases h⟩
 exact ChangeShapes.trodAll_mk1 (shut_bool Tryz.underlying4 true)
theorem zx3:Rows.TriplesLoadUptoSaid:=
 OpenClaim.holds_of_cond 3 Tryz.f3 rfl rfl rfl rfl rfl rfl rfl ⟨rfl,rfl,rfl,rfl,rfl⟩ rfl rfl rfl rfl rfl (by kernel_rfl) Tryz.func3 (by kernel_rfl)
  (of_decide_eq_true (by kernel_rfl)) (by unfold Func.isWrapper;first |(rw [if_pos (by decide +kernel)];kernel_rfl) |(rw [if_neg (by decide +kernel)];exact ⟨rfl,rfl⟩))
  (fun os started H enc _ F=>by rw [OpenClaim.pre_eq_preRow];exact zux os started H enc F)
theorem zx4 (f:FuncId) (fn:Func) (hf:Tryz.pinned.checked.prog.funcNamed "diptych/diptychlaw5.TriplesLoad"=some f) (hfn:Tryz.pinned.checked.prog.funcs[f]?=some fn):
 true=Tryz.pinned.checked.prog.looks []∧∀ (j:Nat) t,fn.params[j]?=some t→Tryz.pinned.checked.prog.wantsStandIn t=false:=by
 obtain rfl:f=3:=Option.some.inj ((show Tryz.prog.funcNamed "diptych/diptychlaw5.TriplesLoad"=some 3 by kernel_rfl).symm.trans hf) |>.symm
 obtain rfl:fn=Tryz.f3:=(Option.some.inj (Tryz.func3.symm.trans hfn)).symm
 refine ⟨by kernel_rfl,fun j t ht=>?_⟩
 rw [Tryz.params3] at ht
 have h3:t=26:=by
  rcases j with _ | j
  ·simpa using ht.symm
  ·simp at ht
 subst h3
 exact (show Tryz.prog.wantsStandIn 26=false by kernel_rfl)
theorem loadCard:Rows.TriplesLoadUptoCardSaid:=
 Claim7.holds_tied_plain_at .later [] _ _ _ _ zx3 (fun _ h=>by cases h) (by kernel_rfl) (fun _ h=>by cases h) triplesLoadUpto_row_tie rfl ⟨rfl,rfl⟩ (by kernel_rfl) rfl zx4 (by kernel_rfl)
#print axioms loadCard
end
end Go.Proofs.YtanbgdhmfjgihaaGreatDoor
