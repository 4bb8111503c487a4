/- Called with any two tables, and whatever is handed in besides, of bulk at most 1048576, the law RowsBags returns true (counts of unions are sums; Canon changes no bag, and Canon of it nothing; Distinct has each row once; a table less what shares no variable is the table, less itself it has only rows without a bound cell) and leaves its argument as it was. Conditions: those of the given card alone, and the bulk. -/
import Derived.Test.YteclpnfckjfibaaGreatDoorDaq
import Derived.Test.YteclpnfckjfibaaGreatDoorDat
import Derived.Test.YteclpnfckjfibaaGreatDoorDat
import Derived.Test.YteclpnfckjfibaaGreatDoorTie
import Derived.Test.YteclpnfckjfibaaGreatDoorCards
import Derived.SevenTiedAt
import Derived.ProofKit
import Derived.Lib.LaidTab
import Derived.LaidMore
import Derived.OpenShut
import Derived.Lay
import Derived.Carry
import Derived.HandedShaped
import Derived.Shelf.Vars
import Derived.Stop.Joined
import Derived.Stop.LaidErr
import Derived.Lib.SmallJoins
import Derived.Deep.DeepHandedRow
namespace Go.Proofs.YteclpnfckjfibaaGreatDoor
open Go.ChangeShapes Go.WideShapes Go.ChangeAt Go.RowKit
theorem zsm {α:Type} {E:Elem α} {w:World} {P:Nat→Prop} {v:Value} {l:List α} (h:zai E w P v l):v.oneCell'=true:=by
 obtain ⟨p,c,rfl⟩:=h.slice
 rfl
theorem own:ownKnob Tryz.prog.godebug=none:=by kernel_rfl
theorem laidOut:laidOutB Tryz.prog=true:=by kernel_rfl
def lists:List (String × DataW Unit):=Rows.rowsBagsUptoRow.laid
theorem zt3 {W:World} (h:W.ShapedOpen Tryz.prog):Gd W:=
 cell_of_shapedOpen_int (t:=3) (zero:=#[.int .i64 0]) h (of_decide_eq_true (by kernel_rfl)) (by kernel_rfl) (by kernel_rfl) (by kernel_rfl) (by kernel_rfl) (by kernel_rfl)
theorem zt4 {W:World} (h:laidMetH Tryz.prog lists W):Tab W:=by
 rw [MakeChecks.laidMetH_plain _ _ _ (by kernel_rfl)] at h
 have h1:=laidMet.tail h
 have h2:=laidMet.tail h1
 exact Lib.tabIs_of_head (g:=3) (t:=305) (e:=213) (n:=20) (by kernel_rfl) (by kernel_rfl) (by kernel_rfl) (by kernel_rfl) (by kernel_rfl) (by kernel_rfl) h2
def start:Array Value:=#[.agg #[.slice none 0 0,.slice none 0 0,.slice none 0 0,.slice none 0 0,.slice none 0 0,.int .i64 0,.slice none 0 0]]
theorem zt5 (os:Os):((World.laidAll Tryz.prog os lists).forCall (fun _ _=>0) ⟨#[],start,[]⟩).Shaped Tryz.prog:=
 World.shaped_of_ZipB (by kernel_rfl) (by kernel_rfl)
theorem z0r (os:Os):laidMetH Tryz.prog lists ((World.laidAll Tryz.prog os lists).forCall (fun _ _=>0) ⟨#[],start,[]⟩).memory:=by
 rw [MakeChecks.laidMetH_plain _ _ _ (by kernel_rfl)]
 exact laidMet_laidAll _ (by kernel_rfl) (by kernel_rfl)
theorem zw2 (os:Os) {H:Type} (enc:TypeId × Value→H):∃ places,DataW.whole enc Tryz.prog ((World.laidAll Tryz.prog os lists).forCall (fun _ _=>0) ⟨#[],start,[]⟩).memory Tryz.f7.params.toList Rows.rowsBagsSpec.vars false start.toList 8=some ([.agg [.agg [.nil,.nil],.agg [.nil,.nil],.nil,.lit (.int .i64 0),.nil]],[],places):=
 ⟨[],by kernel_rfl⟩
set_option maxRecDepth 100000 in
theorem z0s (os:Os) (started:os.Started) (H:Type) (enc:TypeId × Value→H) (F:Stop.Interp):
 ReturnsInHanded {} Tryz.checked os 7 .any ((Rows.OpenSpec.upto Rows.rowsBagsSpec).preRow enc Tryz.prog Tryz.f7 Rows.rowsBagsUptoRow.domain false Rows.rowsBagsUptoRow.laid) (((Rows.OpenSpec.upto Rows.rowsBagsSpec).at F).post enc Tryz.prog Tryz.f7 false true false false):=by
 obtain ⟨places,hx⟩:=zw2 os enc
 refine returnsInHanded_of_row (C:=Tryz.checked) (s:=Rows.OpenSpec.upto Rows.rowsBagsSpec) own started (by kernel_rfl) Tryz.func7
  ⟨World.laidAll Tryz.prog os lists,fun _ _=>0,⟨#[],start,[]⟩,World.laidAll_os _ _ _,zt5 os,rfl,(Input.okWide_of_okWideB (base:=0) (by kernel_rfl)).2,
   OpenSpec.preRow_of_cond 8 hx (by kernel_rfl) (fun k hk=>by cases hk;kernel_rfl) (by kernel_rfl) (z0r os),by
    simp only [Assume.holds]
    exact ⟨by simp,by simp,fun h=>(by cases h),by simp,by simp⟩⟩ ?_
 intro W base args ds gs before hval0 hW _ hcond _ hL hsh _
 have hval:∀ (j:Nat) t v,Tryz.f7.params[j]?=some t→args[j]?=some v→Value.okWide Tryz.prog W .any base t v:=hval0
 have hW':=hW
 obtain ⟨p,q,hA0,hV,rfl,hfz,hnd⟩:=hW
 have hA:DataW.TrodAll enc Tryz.prog W 0 (fun _=>true) true Tryz.f7.params.toList args.toList ds p:=hA0
 rw [Tryz.params7] at hA hval
 obtain ⟨v0,d0,rfl,rfl,h0⟩:=ChangeShapes.trodAll_one hA
 obtain ⟨rfl,rfl⟩:=ChangeShapes.trodVars_none hV
 have hk:=hcond _ rfl
 have hbulk:Rows.uptoBulk d0≤1048576:=by
  have h1:Rows.uptoBulkAll [d0]≤1048576:=of_decide_eq_true hk
  have e:Rows.uptoBulkAll [d0]=Rows.uptoBulk d0+0:=rfl
  rw [e] at h1
  omega
 obtain ⟨q⟩:=zto (B:=1048576) (by decide) (hval 0 28 v0 rfl rfl) h0 hbulk
 obtain ⟨a,b,vs,lang,ns,VA,RA,VB,RB,VV,NV,rfl,two,hv,hn,cv,cn,wl,bs⟩:=q
 refine (bagsLaw a b VA RA VB RB VV NV lang W (zt3 hsh) (zt4 hL) two (zsm hv) (zsm hn)).mono fun e W' ⟨he,hb⟩=>?_
 subst he
 have hlt:∀ x∈p,x.block < W.heap.size:=fun x hx=>by simpa using hW'.lt x (by simpa using hx)
 refine ⟨_,rfl,_,_,_,[],_,[],hW',?_,ChangeShapes.trodAll_mk1 (Below.trod laidOut (by kernel_rfl) (of_decide_eq_true (by kernel_rfl)) h0 hb hlt),rfl,hb.frame _,fun h=>by cases h⟩
 exact ChangeShapes.trodAll_mk1 (shut_bool Tryz.underlying4 true)
theorem z3f:Rows.RowsBagsUptoSaid:=
 OpenClaim.holds_of_cond 7 Tryz.f7 rfl rfl rfl rfl rfl rfl rfl ⟨rfl,rfl,rfl,rfl,rfl⟩ rfl rfl rfl rfl rfl z3e Tryz.func7 z3d
  (of_decide_eq_true (by kernel_rfl)) (by unfold Func.isWrapper;first |(rw [if_pos (by decide +kernel)];kernel_rfl) |(rw [if_neg (by decide +kernel)];exact ⟨rfl,rfl⟩))
  (fun os started H enc _ F=>by rw [OpenClaim.pre_eq_preRow];exact z0s os started H enc F)
theorem z3g (f:FuncId) (fn:Func) (hf:Tryz.pinned.checked.prog.funcNamed "diptych/diptychlaw9.RowsBags"=some f) (hfn:Tryz.pinned.checked.prog.funcs[f]?=some fn):
 true=Tryz.pinned.checked.prog.looks []∧∀ (j:Nat) t,fn.params[j]?=some t→Tryz.pinned.checked.prog.wantsStandIn t=false:=by
 obtain rfl:f=7:=Option.some.inj ((show Tryz.prog.funcNamed "diptych/diptychlaw9.RowsBags"=some 7 by kernel_rfl).symm.trans hf) |>.symm
 obtain rfl:fn=Tryz.f7:=(Option.some.inj (Tryz.func7.symm.trans hfn)).symm
 refine ⟨by kernel_rfl,fun j t ht=>?_⟩
 rw [Tryz.params7] at ht
 have h3:t=28:=by
  rcases j with _ | j
  ·simpa using ht.symm
  ·simp at ht
 subst h3
 exact (show Tryz.prog.wantsStandIn 28=false by kernel_rfl)
theorem lawCard:Rows.RowsBagsUptoCardSaid:=
 Claim7.holds_tied_plain_at .later [] _ _ _ _ z3f (fun _ h=>by cases h) (by kernel_rfl) (fun _ h=>by cases h) rowsBagsUpto_row_tie rfl ⟨rfl,rfl⟩ (by kernel_rfl) rfl z3g (by kernel_rfl)
#print axioms lawCard
end Go.Proofs.YteclpnfckjfibaaGreatDoor
