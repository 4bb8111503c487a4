/- Called with any graph, of bulk at most 1048576, the law GraphLoads returns true (the store of what may be, its plain form, the refusal of what may not be; what is handed in, or told, is written over) and leaves its argument as it was. Conditions: those of the given card alone, and the bulk. -/
import Derived.Test.YtcfmenkigolnoaaGreatDoorWav
import Derived.Test.YtcfmenkigolnoaaGreatDoorWbd
import Derived.Test.YtcfmenkigolnoaaGreatDoorTie
import Derived.Test.YtcfmenkigolnoaaGreatDoorCards
import Derived.SevenTiedAt
import Derived.ProofKit
import Derived.LaidMore
import Derived.OpenShut
import Derived.Lay
import Derived.Carry
import Derived.HandedShaped
import Derived.Shelf.Vars
import Derived.Stop.Joined
import Derived.Stop.LaidErr
import Derived.Lib.SmallJoins
import Derived.Deep.DeepHandedRow
namespace Go.Proofs.YtcfmenkigolnoaaGreatDoor
open Go.ChangeShapes Go.WideShapes Go.ChangeAt Go.RowKit
theorem own:ownKnob Tryz.prog.godebug=none:=by kernel_rfl
theorem laidOut:laidOutB Tryz.prog=true:=by kernel_rfl
def lists:List (String × DataW Unit):=Rows.graphLoadsUptoRow.laid
theorem zoo {W:World} (h:W.ShapedOpen Tryz.prog):Gd W:=
 cell_of_shapedOpen_int (t:=3) (zero:=#[.int .i64 0]) h (of_decide_eq_true (by kernel_rfl)) (by kernel_rfl) (by kernel_rfl) (by kernel_rfl) (by kernel_rfl) (by kernel_rfl)
def start:Array Value:=#[.agg #[.slice none 0 0,.slice none 0 0]]
theorem zop (os:Os):((World.laidAll Tryz.prog os lists).forCall (fun _ _=>0) ⟨#[],start,[]⟩).Shaped Tryz.prog:=
 World.shaped_of_ZipB (by kernel_rfl) (by kernel_rfl)
theorem zur (os:Os):laidMetH Tryz.prog lists ((World.laidAll Tryz.prog os lists).forCall (fun _ _=>0) ⟨#[],start,[]⟩).memory:=by
 rw [MakeChecks.laidMetH_plain _ _ _ (by kernel_rfl)]
 exact laidMet_laidAll _ (by kernel_rfl) (by kernel_rfl)
theorem zqt (os:Os) {H:Type} (enc:TypeId × Value→H):∃ places,DataW.whole enc Tryz.prog ((World.laidAll Tryz.prog os lists).forCall (fun _ _=>0) ⟨#[],start,[]⟩).memory Tryz.f3.params.toList Rows.graphLoadsSpec.vars false start.toList 8=some ([.agg [.nil,.nil]],[],places):=
 ⟨[],by kernel_rfl⟩
set_option maxRecDepth 100000 in
theorem zus (os:Os) (started:os.Started) (H:Type) (enc:TypeId × Value→H) (F:Stop.Interp):
 ReturnsInHanded {} Tryz.checked os 3 .any ((Rows.OpenSpec.upto Rows.graphLoadsSpec).preRow enc Tryz.prog Tryz.f3 Rows.graphLoadsUptoRow.domain false Rows.graphLoadsUptoRow.laid) (((Rows.OpenSpec.upto Rows.graphLoadsSpec).at F).post enc Tryz.prog Tryz.f3 false true false false):=by
 obtain ⟨places,hx⟩:=zqt os enc
 refine returnsInHanded_of_row (C:=Tryz.checked) (s:=Rows.OpenSpec.upto Rows.graphLoadsSpec) own started (by kernel_rfl) Tryz.func3
  ⟨World.laidAll Tryz.prog os lists,fun _ _=>0,⟨#[],start,[]⟩,World.laidAll_os _ _ _,zop os,rfl,(Input.okWide_of_okWideB (base:=0) (by kernel_rfl)).2,
   OpenSpec.preRow_of_cond 8 hx (by kernel_rfl) (fun k hk=>by cases hk;kernel_rfl) (by kernel_rfl) (zur os),by
    simp only [Assume.holds]
    exact ⟨by simp,by simp,fun h=>(by cases h),by simp,by simp⟩⟩ ?_
 intro W base args ds gs before hval0 hW _ hcond _ hL hsh _
 have hval:∀ (j:Nat) t v,Tryz.f3.params[j]?=some t→args[j]?=some v→Value.okWide Tryz.prog W .any base t v:=hval0
 have hW':=hW
 obtain ⟨p,q,hA0,hV,rfl,hfz,hnd⟩:=hW
 have hA:DataW.TrodAll enc Tryz.prog W 0 (fun _=>true) true Tryz.f3.params.toList args.toList ds p:=hA0
 rw [Tryz.params3] at hA hval
 obtain ⟨v0,d0,rfl,rfl,h0⟩:=ChangeShapes.trodAll_one hA
 obtain ⟨rfl,rfl⟩:=ChangeShapes.trodVars_none hV
 obtain ⟨L,P0,y0,y1,n,rfl,rfl,rfl,t0,t1⟩:=Joins.open_agg2 Tryz.underlying25 (by kernel_rfl) (by kernel_rfl) (hval 0 25 v0 rfl rfl) h0
 have hk:=hcond _ rfl
 have hbulk:Rows.uptoBulk y0.1≤1048576∧Rows.uptoBulk y1.1≤1048576:=by
  have h1:Rows.uptoBulkAll [DataW.agg [y0.1,y1.1]]≤1048576:=of_decide_eq_true hk
  have e:Rows.uptoBulkAll [DataW.agg [y0.1,y1.1]]=(Rows.uptoBulk y0.1+(Rows.uptoBulk y1.1+0)+1)+0:=rfl
  rw [e] at h1
  omega
 obtain ⟨ns,hns,hn1⟩:=ziq (B:=1048576) (by decide) t0 hbulk.1
 obtain ⟨es,hes,hn2⟩:=zjt (B:=1048576) (by decide) t1 hbulk.2
 refine (zv8 ⟨ns,es⟩ L P0 W (zoo hsh) hns hes (by show ns.length≤_;omega) (by show es.length≤_;omega)).mono fun e W' ⟨he,hb⟩=>?_
 subst he
 have hlt:∀ x∈y0.2++y1.2,x.block < W.heap.size:=fun x hx=>by simpa using hW'.lt x (by simpa using hx)
 refine ⟨_,rfl,_,_,_,[],_,[],hW',?_,ChangeShapes.trodAll_mk1 (Below.trod laidOut (by kernel_rfl) (of_decide_eq_true (by kernel_rfl)) h0 hb hlt),rfl,hb.frame _,fun h=>by cases h⟩
 exact ChangeShapes.trodAll_mk1 (shut_bool Tryz.underlying4 true)
theorem zv9:Rows.GraphLoadsUptoSaid:=
 OpenClaim.holds_of_cond 3 Tryz.f3 rfl rfl rfl rfl rfl rfl rfl ⟨rfl,rfl,rfl,rfl,rfl⟩ rfl rfl rfl rfl rfl (by kernel_rfl) Tryz.func3 (by kernel_rfl)
  (of_decide_eq_true (by kernel_rfl)) (by unfold Func.isWrapper;first |(rw [if_pos (by decide +kernel)];kernel_rfl) |(rw [if_neg (by decide +kernel)];exact ⟨rfl,rfl⟩))
  (fun os started H enc _ F=>by rw [OpenClaim.pre_eq_preRow];exact zus os started H enc F)
theorem zwa (f:FuncId) (fn:Func) (hf:Tryz.pinned.checked.prog.funcNamed "diptych/diptychlaw6.GraphLoads"=some f) (hfn:Tryz.pinned.checked.prog.funcs[f]?=some fn):
 true=Tryz.pinned.checked.prog.looks []∧∀ (j:Nat) t,fn.params[j]?=some t→Tryz.pinned.checked.prog.wantsStandIn t=false:=by
 obtain rfl:f=3:=Option.some.inj ((show Tryz.prog.funcNamed "diptych/diptychlaw6.GraphLoads"=some 3 by kernel_rfl).symm.trans hf) |>.symm
 obtain rfl:fn=Tryz.f3:=(Option.some.inj (Tryz.func3.symm.trans hfn)).symm
 refine ⟨by kernel_rfl,fun j t ht=>?_⟩
 rw [Tryz.params3] at ht
 have h3:t=25:=by
  rcases j with _ | j
  ·simpa using ht.symm
  ·simp at ht
 subst h3
 exact (show Tryz.prog.wantsStandIn 25=false by kernel_rfl)
theorem lawCard:Rows.GraphLoadsUptoCardSaid:=
 Claim7.holds_tied_plain_at .later [] _ _ _ _ zv9 (fun _ h=>by cases h) (by kernel_rfl) (fun _ h=>by cases h) graphLoadsUpto_row_tie rfl ⟨rfl,rfl⟩ (by kernel_rfl) rfl zwa (by kernel_rfl)
#print axioms lawCard
end Go.Proofs.YtcfmenkigolnoaaGreatDoor
