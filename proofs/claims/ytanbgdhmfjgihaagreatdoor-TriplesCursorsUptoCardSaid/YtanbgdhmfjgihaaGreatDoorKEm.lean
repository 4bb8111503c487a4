/- Called with any script (triples, patterns, an order, what is asked of a cursor), of bulk at most 1048576, the law TriplesCursors returns true (levels, values, every answer of a cursor are the document's) and leaves its argument as it was. Conditions: those of the given card alone, and the bulk. -/
import Derived.Test.YtanbgdhmfjgihaaGreatDoorTaz
import Derived.Test.YtanbgdhmfjgihaaGreatDoorTbh
import Derived.Test.YtanbgdhmfjgihaaGreatDoorTie
import Derived.Test.YtanbgdhmfjgihaaGreatDoorCards
import Derived.SevenTiedAt
import Derived.ProofKit
import Derived.LaidMore
import Derived.OpenShut
import Derived.Lay
import Derived.Carry
import Derived.HandedShaped
import Derived.Shelf.Vars
import Derived.Stop.Joined
import Derived.Stop.LaidErr
import Derived.Lib.SmallJoins
import Derived.Deep.DeepHandedRow
namespace Go.Proofs.YtanbgdhmfjgihaaGreatDoor
open Go.RowKit
set_option maxHeartbeats 12800000
set_option maxRecDepth 20000
section
open Go.ChangeShapes Go.WideShapes Go.ChangeAt Go.RowKit
theorem own:ownKnob Tryz.prog.godebug=none:=by kernel_rfl
theorem laidOut:laidOutB Tryz.prog=true:=by kernel_rfl
def lists:List (String × DataW Unit):=Rows.triplesCursorsUptoRow.laid
theorem zql {W:World} (h:W.ShapedOpen Tryz.prog):Gd W:=
 cell_of_shapedOpen_int (t:=3) (zero:=#[.int .i64 0]) h (of_decide_eq_true (by kernel_rfl)) (by kernel_rfl) (by kernel_rfl) (by kernel_rfl) (by kernel_rfl) (by kernel_rfl)
theorem zqm {W:World} (h:laidMetH Tryz.prog lists W):Tab W:=by
 rw [MakeChecks.laidMetH_plain _ _ _ (by kernel_rfl)] at h
 have h1:=laidMet.tail h
 have h2:=laidMet.tail h1
 exact Lib.tabIs_of_head (g:=3) (t:=258) (e:=176) (n:=20) (by kernel_rfl) (by kernel_rfl) (by kernel_rfl) (by kernel_rfl) (by kernel_rfl) (by kernel_rfl) h2
theorem cursAny (l:List Tri3) (dl:List (Int × Val)) (L P0 D:Value) (nm:ByteArray) (w:World) (hG:Gd w) (hT:Tab w) (hl:Tris w L l) (hd:zs5 w D dl) (hdn:dl.length≤2097152):
 Calls Tryz.prog 4 #[.agg #[L,P0,.string nm,D]] w fun e w'=>e=.returned (.bool true)∧Below w.heap.size w w':=by
 obtain ⟨p0,cap,rfl⟩:=zhf hl
 obtain ⟨pd,dcap,rfl,hd2⟩:=hd
 by_cases hn:60 < l.length
 ·exact zxp l.length p0 cap P0 _ _ w hG hT hn
 ·by_cases hg:∀ t∈l,zbl t=true
  ·by_cases hk:∃ k,k < 6∧nm=onm k
   ·obtain ⟨k,hk,e⟩:=hk
    exact zxr l p0 cap P0 nm dl pd dcap w hG hT hl (by omega) ⟨pd,dcap,rfl,hd2⟩ hdn hg k hk e
   ·exact zxq l p0 cap P0 nm dl pd dcap w hG hT hl (by omega) hg fun j hj e=>hk ⟨j,hj,e.symm⟩
  ·exact cursBad l p0 cap P0 nm dl pd dcap w hG hT hl (by omega) hg
def start:Array Value:=#[.agg #[.slice none 0 0,.slice none 0 0,.string ⟨#[]⟩,.slice none 0 0]]
theorem zqn (os:Os):((World.laidAll Tryz.prog os lists).forCall (fun _ _=>0) ⟨#[],start,[]⟩).Shaped Tryz.prog:=
 World.shaped_of_ZipB (by kernel_rfl) (by kernel_rfl)
theorem zvw (os:Os):laidMetH Tryz.prog lists ((World.laidAll Tryz.prog os lists).forCall (fun _ _=>0) ⟨#[],start,[]⟩).memory:=by
 rw [MakeChecks.laidMetH_plain _ _ _ (by kernel_rfl)]
 exact laidMet_laidAll _ (by kernel_rfl) (by kernel_rfl)
theorem zs8 (os:Os) {H:Type} (enc:TypeId × Value→H):∃ places,DataW.whole enc Tryz.prog ((World.laidAll Tryz.prog os lists).forCall (fun _ _=>0) ⟨#[],start,[]⟩).memory Tryz.f4.params.toList Rows.triplesCursorsSpec.vars false start.toList 8=some ([.agg [.nil,.nil,.lit (.string []),.nil]],[],places):=
 ⟨[],by kernel_rfl⟩
set_option maxRecDepth 100000 in
theorem zph (os:Os) (started:os.Started) (H:Type) (enc:TypeId × Value→H) (F:Stop.Interp):
 ReturnsInHanded {} Tryz.checked os 4 .any ((Rows.OpenSpec.upto Rows.triplesCursorsSpec).preRow enc Tryz.prog Tryz.f4 Rows.triplesCursorsUptoRow.domain false Rows.triplesCursorsUptoRow.laid) (((Rows.OpenSpec.upto Rows.triplesCursorsSpec).at F).post enc Tryz.prog Tryz.f4 false true false false):=by
 obtain ⟨places,hx⟩:=zs8 os enc
 refine returnsInHanded_of_row (C:=Tryz.checked) (s:=Rows.OpenSpec.upto Rows.triplesCursorsSpec) own started (by kernel_rfl) Tryz.func4
  ⟨World.laidAll Tryz.prog os lists,fun _ _=>0,⟨#[],start,[]⟩,World.laidAll_os _ _ _,zqn os,rfl,(Input.okWide_of_okWideB (base:=0) (by kernel_rfl)).2,
   OpenSpec.preRow_of_cond 8 hx (by kernel_rfl) (fun k hk=>by cases hk;kernel_rfl) (by kernel_rfl) (zvw os),by
    simp only [Assume.holds]
    exact ⟨by simp,by simp,fun h=>(by cases h),by simp,by simp⟩⟩ ?_
 intro W base args ds gs before hval0 hW _ hcond _ hL hsh _
 have hval:∀ (j:Nat) t v,Tryz.f4.params[j]?=some t→args[j]?=some v→Value.okWide Tryz.prog W .any base t v:=hval0
 have hW':=hW
 obtain ⟨p,q,hA0,hV,rfl,hfz,hnd⟩:=hW
 have hA:DataW.TrodAll enc Tryz.prog W 0 (fun _=>true) true Tryz.f4.params.toList args.toList ds p:=hA0
 rw [Tryz.params4] at hA hval
 obtain ⟨v0,d0,rfl,rfl,h0⟩:=ChangeShapes.trodAll_one hA
 obtain ⟨rfl,rfl⟩:=ChangeShapes.trodVars_none hV
 obtain ⟨L,P0,O0,D,y0,y1,y2,y3,n,rfl,rfl,rfl,t0,t1,t2,t3⟩:=Joins.open_agg4 Tryz.underlying26 (by kernel_rfl) (by kernel_rfl) (hval 0 26 v0 rfl rfl) h0
 have hk:=hcond _ rfl
 have hbulk:Rows.uptoBulk y0.1≤1048576∧Rows.uptoBulk y3.1≤1048576:=by
  have h1:Rows.uptoBulkAll [DataW.agg [y0.1,y1.1,y2.1,y3.1]]≤1048576:=of_decide_eq_true hk
  have e:Rows.uptoBulkAll [DataW.agg [y0.1,y1.1,y2.1,y3.1]]=(Rows.uptoBulk y0.1+(Rows.uptoBulk y1.1+(Rows.uptoBulk y2.1+(Rows.uptoBulk y3.1+0)))+1)+0:=rfl
  rw [e] at h1
  omega
 obtain ⟨l,hl,_⟩:=zo9 1048576 (by decide) t0 hbulk.1
 obtain ⟨nm,a2,_,_⟩:=DataW.trod_string Tryz.underlying9 t2
 simp only [List.cons.injEq,and_true] at a2
 subst a2
 obtain ⟨dl,hd,hdn⟩:=zqh 1048576 (by decide) t3 hbulk.2
 refine (cursAny l dl L P0 D nm W (zql hsh) (zqm hL) hl hd (by omega)).mono fun e W' ⟨he,hb⟩=>?_
 subst he
 have hlt:∀ x∈y0.2++(y1.2++(y2.2++y3.2)),x.block < W.heap.size:=fun x hx=>by simpa using hW'.lt x (by simpa using hx)
 refine ⟨_,rfl,_,_,_,[],_,[],hW',?_,ChangeShapes.trodAll_mk1 (Below.trod laidOut (by kernel_rfl) (of_decide_eq_true (by kernel_rfl)) h0 hb hlt),rfl,hb.frame _,fun h=>by cases h⟩
 exact ChangeShapes.trodAll_mk1 (shut_bool Tryz.underlying4 true)
theorem zqo:Rows.TriplesCursorsUptoSaid:=
 OpenClaim.holds_of_cond 4 Tryz.f4 rfl rfl rfl rfl rfl rfl rfl ⟨rfl,rfl,rfl,rfl,rfl⟩ rfl rfl rfl rfl rfl (by kernel_rfl) Tryz.func4 (by kernel_rfl)
  (of_decide_eq_true (by kernel_rfl)) (by unfold Func.isWrapper;first |(rw [if_pos (by decide +kernel)];kernel_rfl) |(rw [if_neg (by decide +kernel)];exact ⟨rfl,rfl⟩))
  (fun os started H enc _ F=>by rw [OpenClaim.pre_eq_preRow];exact zph os started H enc F)
theorem zqp (f:FuncId) (fn:Func) (hf:Tryz.pinned.checked.prog.funcNamed "diptych/diptychlaw5.TriplesCursors"=some f) (hfn:Tryz.pinned.checked.prog.funcs[f]?=some fn):
 true=Tryz.pinned.checked.prog.looks []∧∀ (j:Nat) t,fn.params[j]?=some t→Tryz.pinned.checked.prog.wantsStandIn t=false:=by
 obtain rfl:f=4:=Option.some.inj ((show Tryz.prog.funcNamed "diptych/diptychlaw5.TriplesCursors"=some 4 by kernel_rfl).symm.trans hf) |>.symm
 obtain rfl:fn=Tryz.f4:=(Option.some.inj (Tryz.func4.symm.trans hfn)).symm
 refine ⟨by kernel_rfl,fun j t ht=>?_⟩
 rw [Tryz.params4] at ht
 have h3:t=26:=by
  rcases j with _ | j
  ·simpa using ht.symm
  ·simp at ht
 subst h3
 exact (show Tryz.prog.wantsStandIn 26=false by kernel_rfl)
theorem cursCard:Rows.TriplesCursorsUptoCardSaid:=
 Claim7.holds_tied_plain_at .later [] _ _ _ _ zqo (fun _ h=>by cases h) (by kernel_rfl) (fun _ h=>by cases h) triplesCursorsUpto_row_tie rfl ⟨rfl,rfl⟩ (by kernel_rfl) rfl zqp (by kernel_rfl)
#print axioms cursCard
end
end Go.Proofs.YtanbgdhmfjgihaaGreatDoor
