/- Texts of one kind, one behind the other: each says ahead of itself what it shows. -/
import Derived.Maps.OwnOps
import Derived.Maps.OwnSet
import Derived.Maps.AppendAt
import Derived.Maps.Views
import Derived.Shelf.SlicesG.Clone
import Derived.Shelf.SlicesG.CompactI
import Derived.Shelf.SlicesG.CompactS
import Derived.Shelf.SlicesG.SearchI
import Derived.Shelf.SlIterI.Sorted
import Derived.Shelf.SlLaysM
import Derived.Shelf.SlSortCmp.WholeK
import Derived.Test.YtcfmenkigolnoaaGreatDoorProg
import Derived.Lib.SlicesCompact
import Derived.KernelRfl
import Derived.WalkKit
import Derived.WalkSpells
import Derived.Outline
import Derived.LoopTactic
import Derived.Lib.Hide
import Derived.Below
import Derived.Deep.QuietTactic
import Derived.BigQuiet
import Derived.Laws.Rows
import Derived.Laws.Tables
import Derived.Deep.MidRow
import Derived.OrdersHeld
import Derived.Deep.RegionHeld
import Derived.Lib.IndexMore
import Derived.Lib.TrimByte
import Derived.BigGuardPart
/- GM -/
namespace Go.Proofs.YtcfmenkigolnoaaGreatDoor
open Go.RowKit
def zfh (v:Value):Option (DataW Value × List MemPlace):=some (.held v,[])
def HMap (w:World) (P:Program) (k:TypeId) (b n:Nat) (f:Lit→Option Value):Prop:=
 ∃ D,w.ownsMap P k zfh b n D∧∀ kl,WideAt.IsKeyLit kl→Maps.has D kl=(f kl).isSome∧∀ z,D.atKey kl (.held z)=.held ((f kl).getD z)
open Classical in
noncomputable def updH (f:Lit→Option Value) (k:Lit) (v:Value):Lit→Option Value:=fun x=>if x=k then some v else f x
theorem zcw (f:Lit→Option Value) (k:Lit) (v:Value):updH f k v k=some v:=by unfold updH;exact if_pos rfl
theorem zb0 {f:Lit→Option Value} {k x:Lit} {v:Value} (h:x≠k):updH f k v x=f x:=by unfold updH;exact if_neg h
section
variable {w w':World} {P:Program} {k:TypeId} {b n:Nat} {f:Lit→Option Value}
theorem HMap.made (w:World) (P:Program) (k:TypeId):HMap (w.alloc (.map #[] 0)) P k w.heap.size 0 (fun _=>none):=
 ⟨_,World.ownsMap_made w P k zfh,fun _ _=>⟨rfl,fun _=>rfl⟩⟩
theorem HMap.lt (h:HMap w P k b n f):b < w.heap.size:=by obtain ⟨D,h,_⟩:=h;exact h.lt
theorem HMap.block (h:HMap w P k b n f):∃ es clock,w.heap[b]?=some (.map es clock):=by obtain ⟨D,⟨es,c,e,_⟩,_⟩:=h;exact ⟨es,c,e⟩
theorem HMap.keep (h:HMap w P k b n f) (e:w'.heap[b]?=w.heap[b]?):HMap w' P k b n f:=by
 obtain ⟨D,⟨es,c,h1,h2,h3,h4⟩,r⟩:=h
 exact ⟨D,⟨es,c,e.trans h1,h2,h3,h4⟩,r⟩
theorem HMap.look {t e:TypeId} (h:HMap w P k b n f) (K:Go.Maps.Keyed P k) (ht:P.underlying t=some (.map k e)) {z:Value} (hz:(zeroValue e).run P w=.ok z w) {key:Value} {kl:Lit} (hkey:keyOf P k key=some kl) (hl:WideAt.IsKeyLit kl):
 (Instr.lookup t (.map (some b)) key false).run P w=.ok ((f kl).getD z) w:=by
 obtain ⟨D,h,r⟩:=h
 obtain ⟨v,ps,hrun,hv⟩:=h.lookup K ht hz (zd:=.held z) (zp:=[]) rfl hkey
 rw [(r kl hl).2 z] at hv
 simp only [zfh,Option.some.injEq,Prod.mk.injEq,DataW.held.injEq] at hv
 rw [hrun,hv.1]
theorem HMap.update {t e:TypeId} (h:HMap w P k b n f) (K:Go.Maps.Keyed P k) (ht:P.underlying t=some (.map k e)) (hn:n < maxLen) {key:Value} {kl:Lit} (hkey:keyOf P k key=some kl) (hl:WideAt.IsKeyLit kl) (v:Value):
 ∃ w',(Instr.mapUpdate t (.map (some b)) key v).run P w=.ok () w'∧HMap w' P k b (n+1) (updH f kl v)∧w.grownBy w' (some b):=by
 obtain ⟨D,h,r⟩:=h
 obtain ⟨w',hrun,h',g⟩:=h.update K ht hn hkey (d:=.held v) (ps:=[]) rfl
 refine ⟨w',hrun,⟨_,h',fun x hx=>?_⟩,g⟩
 by_cases e:x=kl
 ·subst e
  rw [zcw,Maps.has_put_same h.isMap hl]
  exact ⟨rfl,fun z=>Maps.atKey_put_same h.isMap hl _ _⟩
 ·rw [zb0 e,Maps.has_put_other e]
  exact ⟨(r x hx).1,fun z=>by rw [Maps.atKey_put_other e];exact (r x hx).2 z⟩
end
section
variable {P:Program} {w:World} {ops:Array Oper} {rest:List Oper} {o:Oper} {a:Act} {Q:Exit→Act→World→Prop} {f:Lit→Option Value}
theorem zbs (hg:o.guard=none) (m x:Operand) (t:TypeId) (hop:o.op=Op.lookup t m x false) (k e:TypeId) (K:Go.Maps.Keyed P k) (ht:P.underlying t=some (.map k e)) {z:Value} (hz:(zeroValue e).run P w=.ok z w) (b n:Nat)
 (hm:a.eval m=.map (some b)) (hown:HMap w P k b n f) (key:Value) (kl:Lit) (hx:a.eval x=key) (hkey:keyOf P k key=some kl) (hl:WideAt.IsKeyLit kl)
 (hK:wpList P ops Q rest (a.put o.dst ((f kl).getD z)) w):wpList P ops Q (o::rest) a w:=by
 refine wpList_plain hg fun K' hK'=>?_
 have hrun:=hown.look K ht hz hkey hl
 unfold Oper.wp
 simp [execOp,hop,hm,hx,hrun,Result.andThen]
 exact hK' _ _ hK
end
end Go.Proofs.YtcfmenkigolnoaaGreatDoor

/- GL -/
namespace Go.Proofs
open Go.Shelf
def Tryz.cloneI_ren:Go.Shelf.Ren:=⟨fun | 41=>96 | n=>n,fun | 22=>42 | 23=>2 | 4=>4 | n=>n,fun | n=>n⟩
theorem Tryz.cloneI:Go.Proofs.SlLaysN.n41 Tryz.prog Tryz.cloneI_ren:={
 mixed:=by kernel_rfl
 f41:=⟨Tryz.f96.name,by decide,Tryz.func96.trans (congrArg some (by kernel_rfl))⟩
 t4:=Tryz.underlying4
 a4:=Tryz.isAgg4
 z4:=Tryz.sizeOf4
 v4:=Tryz.zeroValue4
 t22:=Tryz.underlying42
 a22:=Tryz.isAgg42
 z22:=Tryz.sizeOf42
 v22:=Tryz.zeroValue42
 t23:=Tryz.underlying2
 a23:=Tryz.isAgg2
 z23:=Tryz.sizeOf2
 v23:=Tryz.zeroValue2
 i23:=by kernel_rfl }
def Tryz.cloneS_ren:Go.Shelf.Ren:=⟨fun | 42=>89 | n=>n,fun | 25=>35 | 26=>9 | 4=>4 | n=>n,fun | n=>n⟩
theorem Tryz.cloneS:Go.Proofs.SlLaysN.n42 Tryz.prog Tryz.cloneS_ren:={
 mixed:=by kernel_rfl
 f42:=⟨Tryz.f89.name,by decide,Tryz.func89.trans (congrArg some (by kernel_rfl))⟩
 t4:=Tryz.underlying4
 a4:=Tryz.isAgg4
 z4:=Tryz.sizeOf4
 v4:=Tryz.zeroValue4
 t25:=Tryz.underlying35
 a25:=Tryz.isAgg35
 z25:=Tryz.sizeOf35
 v25:=Tryz.zeroValue35
 t26:=Tryz.underlying9
 a26:=Tryz.isAgg9
 z26:=Tryz.sizeOf9
 v26:=Tryz.zeroValue9
 i26:=by kernel_rfl }
def Tryz.cloneJ_ren:Go.Shelf.Ren:=⟨fun | 41=>63 | n=>n,fun | 22=>77 | 23=>2 | 4=>4 | n=>n,fun | n=>n⟩
theorem Tryz.cloneJ:Go.Proofs.SlLaysN.n41 Tryz.prog Tryz.cloneJ_ren:={
 mixed:=by kernel_rfl
 f41:=⟨Tryz.f63.name,by decide,Tryz.func63.trans (congrArg some (by kernel_rfl))⟩
 t4:=Tryz.underlying4
 a4:=Tryz.isAgg4
 z4:=Tryz.sizeOf4
 v4:=Tryz.zeroValue4
 t22:=Tryz.underlying77
 a22:=Tryz.isAgg77
 z22:=Tryz.sizeOf77
 v22:=Tryz.zeroValue77
 t23:=Tryz.underlying2
 a23:=Tryz.isAgg2
 z23:=Tryz.sizeOf2
 v23:=Tryz.zeroValue2
 i23:=by kernel_rfl }
def Tryz.compI_ren:Go.Shelf.Ren:=⟨fun | 43=>98 | n=>n,fun | 22=>42 | 23=>2 | 3=>3 | 4=>4 | 0=>0 | n=>n,fun | n=>n⟩
theorem Tryz.compI:Go.Proofs.SlLaysN.n43 Tryz.prog Tryz.compI_ren:={
 mixed:=by kernel_rfl
 f43:=⟨Tryz.f98.name,by decide,Tryz.func98.trans (congrArg some (by kernel_rfl))⟩
 t0:=Tryz.underlying0
 a0:=Tryz.isAgg0
 z0:=Tryz.sizeOf0
 v0:=Tryz.zeroValue0
 t3:=Tryz.underlying3
 a3:=Tryz.isAgg3
 z3:=Tryz.sizeOf3
 v3:=Tryz.zeroValue3
 t4:=Tryz.underlying4
 a4:=Tryz.isAgg4
 z4:=Tryz.sizeOf4
 v4:=Tryz.zeroValue4
 t22:=Tryz.underlying42
 a22:=Tryz.isAgg42
 z22:=Tryz.sizeOf42
 v22:=Tryz.zeroValue42
 t23:=Tryz.underlying2
 a23:=Tryz.isAgg2
 z23:=Tryz.sizeOf2
 v23:=Tryz.zeroValue2
 i23:=by kernel_rfl }
def Tryz.compS_ren:Go.Shelf.Ren:=⟨fun | 44=>91 | n=>n,fun | 25=>35 | 26=>9 | 3=>3 | 4=>4 | 0=>0 | n=>n,fun | n=>n⟩
theorem Tryz.compS:Go.Proofs.SlLaysN.n44 Tryz.prog Tryz.compS_ren:={
 mixed:=by kernel_rfl
 f44:=⟨Tryz.f91.name,by decide,Tryz.func91.trans (congrArg some (by kernel_rfl))⟩
 t0:=Tryz.underlying0
 a0:=Tryz.isAgg0
 z0:=Tryz.sizeOf0
 v0:=Tryz.zeroValue0
 t3:=Tryz.underlying3
 a3:=Tryz.isAgg3
 z3:=Tryz.sizeOf3
 v3:=Tryz.zeroValue3
 t4:=Tryz.underlying4
 a4:=Tryz.isAgg4
 z4:=Tryz.sizeOf4
 v4:=Tryz.zeroValue4
 t25:=Tryz.underlying35
 a25:=Tryz.isAgg35
 z25:=Tryz.sizeOf35
 v25:=Tryz.zeroValue35
 t26:=Tryz.underlying9
 a26:=Tryz.isAgg9
 z26:=Tryz.sizeOf9
 v26:=Tryz.zeroValue9
 i26:=by kernel_rfl }
def Tryz.findI_ren:Go.Shelf.Ren:=⟨fun | 49=>101 | 59=>123 | 60=>124 | 68=>151 | n=>n,fun | 22=>77 | 23=>2 | 3=>3 | 4=>4 | 51=>132 | 0=>0 | n=>n,fun | n=>n⟩
theorem Tryz.findI:Go.Proofs.SlLaysN.n49 Tryz.prog Tryz.findI_ren:={
 mixed:=by kernel_rfl
 f49:=⟨Tryz.f101.name,by decide,Tryz.func101.trans (congrArg some (by kernel_rfl))⟩
 f59:=⟨Tryz.f123.name,by decide,Tryz.func123.trans (congrArg some (by kernel_rfl))⟩
 f60:=⟨Tryz.f124.name,by decide,Tryz.func124.trans (congrArg some (by kernel_rfl))⟩
 f68:=⟨Tryz.f151.name,by decide,Tryz.func151.trans (congrArg some (by kernel_rfl))⟩
 t0:=Tryz.underlying0
 a0:=Tryz.isAgg0
 z0:=Tryz.sizeOf0
 v0:=Tryz.zeroValue0
 t3:=Tryz.underlying3
 a3:=Tryz.isAgg3
 z3:=Tryz.sizeOf3
 v3:=Tryz.zeroValue3
 t4:=Tryz.underlying4
 a4:=Tryz.isAgg4
 z4:=Tryz.sizeOf4
 v4:=Tryz.zeroValue4
 t22:=Tryz.underlying77
 a22:=Tryz.isAgg77
 z22:=Tryz.sizeOf77
 v22:=Tryz.zeroValue77
 t23:=Tryz.underlying2
 a23:=Tryz.isAgg2
 z23:=Tryz.sizeOf2
 v23:=Tryz.zeroValue2
 t51:=Tryz.underlying132
 a51:=Tryz.isAgg132
 z51:=Tryz.sizeOf132
 v51:=Tryz.zeroValue132 }
def Tryz.keysN_ren:Go.Shelf.Ren:=⟨fun | 7=>80 | 10=>106 | n=>n,fun | 23=>73 | 26=>2 | 3=>38 | 28=>121 | 0=>0 | 27=>120 | 33=>117 | 4=>4 | n=>n,fun | n=>n⟩
theorem Tryz.keysN:Go.Proofs.SlLaysZI.n7 Tryz.prog Tryz.keysN_ren:={
 mixed:=by kernel_rfl
 f7:=⟨Tryz.f80.name,by decide,Tryz.func80.trans (congrArg some (by kernel_rfl))⟩
 f10:=⟨Tryz.f106.name,by decide,Tryz.func106.trans (congrArg some (by kernel_rfl))⟩
 t0:=Tryz.underlying0
 a0:=Tryz.isAgg0
 z0:=Tryz.sizeOf0
 v0:=Tryz.zeroValue0
 t4:=Tryz.underlying4
 a4:=Tryz.isAgg4
 z4:=Tryz.sizeOf4
 v4:=Tryz.zeroValue4
 t23:=Tryz.underlying73
 a23:=Tryz.isAgg73
 z23:=Tryz.sizeOf73
 v23:=Tryz.zeroValue73
 t26:=Tryz.underlying2
 a26:=Tryz.isAgg2
 z26:=Tryz.sizeOf2
 v26:=Tryz.zeroValue2
 t27:=Tryz.underlying120
 a27:=Tryz.isAgg120
 z27:=Tryz.sizeOf120
 v27:=Tryz.zeroValue120
 t28:=Tryz.underlying121
 a28:=Tryz.isAgg121
 z28:=Tryz.sizeOf121
 v28:=Tryz.zeroValue121
 t33:=Tryz.underlying117
 a33:=Tryz.isAgg117
 z33:=Tryz.sizeOf117
 v33:=Tryz.zeroValue117 }
def Tryz.keysE_ren:Go.Shelf.Ren:=⟨fun | 7=>82 | 10=>107 | n=>n,fun | 23=>74 | 26=>2 | 3=>41 | 28=>121 | 0=>0 | 27=>120 | 33=>117 | 4=>4 | n=>n,fun | n=>n⟩
theorem Tryz.keysE:Go.Proofs.SlLaysZI.n7 Tryz.prog Tryz.keysE_ren:={
 mixed:=by kernel_rfl
 f7:=⟨Tryz.f82.name,by decide,Tryz.func82.trans (congrArg some (by kernel_rfl))⟩
 f10:=⟨Tryz.f107.name,by decide,Tryz.func107.trans (congrArg some (by kernel_rfl))⟩
 t0:=Tryz.underlying0
 a0:=Tryz.isAgg0
 z0:=Tryz.sizeOf0
 v0:=Tryz.zeroValue0
 t4:=Tryz.underlying4
 a4:=Tryz.isAgg4
 z4:=Tryz.sizeOf4
 v4:=Tryz.zeroValue4
 t23:=Tryz.underlying74
 a23:=Tryz.isAgg74
 z23:=Tryz.sizeOf74
 v23:=Tryz.zeroValue74
 t26:=Tryz.underlying2
 a26:=Tryz.isAgg2
 z26:=Tryz.sizeOf2
 v26:=Tryz.zeroValue2
 t27:=Tryz.underlying120
 a27:=Tryz.isAgg120
 z27:=Tryz.sizeOf120
 v27:=Tryz.zeroValue120
 t28:=Tryz.underlying121
 a28:=Tryz.isAgg121
 z28:=Tryz.sizeOf121
 v28:=Tryz.zeroValue121
 t33:=Tryz.underlying117
 a33:=Tryz.isAgg117
 z33:=Tryz.sizeOf117
 v33:=Tryz.zeroValue117 }
def Tryz.sorted_ren:Go.Shelf.Ren:=⟨fun | 6=>79 | 8=>105 | 9=>97 | 11=>126 | 13=>111 | 12=>115 | 23=>136 | 24=>137 | 14=>140 | 15=>141 | 16=>142 | 17=>143 | 18=>144 | 19=>145 | 20=>123 | 21=>146 | 22=>147 | 25=>168 | 26=>164 | 27=>165 | 28=>169 | 29=>170 | 30=>151 | 31=>177 | n=>n,fun | 26=>2 | 28=>121 | 24=>42 | 0=>0 | 3=>3 | 37=>132 | 48=>164 | 50=>166 | 4=>4 | 40=>158 | 39=>157 | 45=>101 | 5=>5 | 9=>9 | 51=>178 | 55=>182 | 57=>190 | 58=>191 | 33=>117 | n=>n,fun | n=>n⟩
theorem Tryz.sorted:Go.Proofs.SlLaysZI.n6 Tryz.prog Tryz.sorted_ren:={
 mixed:=by kernel_rfl
 f6:=⟨Tryz.f79.name,by decide,Tryz.func79.trans (congrArg some (by kernel_rfl))⟩
 f8:=⟨Tryz.f105.name,by decide,Tryz.func105.trans (congrArg some (by kernel_rfl))⟩
 f11:=⟨Tryz.f126.name,by decide,Tryz.func126.trans (congrArg some (by kernel_rfl))⟩
 t0:=Tryz.underlying0
 a0:=Tryz.isAgg0
 z0:=Tryz.sizeOf0
 v0:=Tryz.zeroValue0
 t24:=Tryz.underlying42
 a24:=Tryz.isAgg42
 z24:=Tryz.sizeOf42
 v24:=Tryz.zeroValue42
 t26:=Tryz.underlying2
 a26:=Tryz.isAgg2
 z26:=Tryz.sizeOf2
 v26:=Tryz.zeroValue2
 t28:=Tryz.underlying121
 a28:=Tryz.isAgg121
 z28:=Tryz.sizeOf121
 v28:=Tryz.zeroValue121
 i26:=by kernel_rfl }
def Tryz.sortI_ren:Go.Shelf.Ren:=⟨fun | 5=>97 | 8=>111 | 7=>115 | 19=>136 | 20=>137 | 10=>140 | 11=>141 | 12=>142 | 13=>143 | 14=>144 | 15=>145 | 16=>123 | 17=>146 | 18=>147 | 30=>168 | 31=>164 | 32=>165 | 33=>169 | 34=>170 | 35=>151 | 40=>177 | n=>n,fun | 23=>42 | 25=>2 | 3=>3 | 32=>132 | 22=>42 | 0=>0 | 44=>164 | 46=>166 | 4=>4 | 36=>158 | 35=>157 | 41=>101 | 5=>5 | 9=>9 | 53=>178 | 57=>182 | 63=>190 | 64=>191 | n=>n,fun | n=>n⟩
theorem Tryz.sortI:Go.Proofs.SlLaysM.n5 Tryz.prog Tryz.sortI_ren:={
 mixed:=by kernel_rfl
 f5:=⟨Tryz.f97.name,by decide,Tryz.func97.trans (congrArg some (by kernel_rfl))⟩
 f7:=⟨Tryz.f115.name,by decide,Tryz.func115.trans (congrArg some (by kernel_rfl))⟩
 f8:=Tryz.func111.trans (congrArg some (by kernel_rfl))
 f10:=⟨Tryz.f140.name,by decide,Tryz.func140.trans (congrArg some (by kernel_rfl))⟩
 f11:=⟨Tryz.f141.name,by decide,Tryz.func141.trans (congrArg some (by kernel_rfl))⟩
 f12:=⟨Tryz.f142.name,by decide,Tryz.func142.trans (congrArg some (by kernel_rfl))⟩
 f13:=⟨Tryz.f143.name,by decide,Tryz.func143.trans (congrArg some (by kernel_rfl))⟩
 f14:=⟨Tryz.f144.name,by decide,Tryz.func144.trans (congrArg some (by kernel_rfl))⟩
 f15:=⟨Tryz.f145.name,by decide,Tryz.func145.trans (congrArg some (by kernel_rfl))⟩
 f16:=⟨Tryz.f123.name,by decide,Tryz.func123.trans (congrArg some (by kernel_rfl))⟩
 f17:=⟨Tryz.f146.name,by decide,Tryz.func146.trans (congrArg some (by kernel_rfl))⟩
 f18:=⟨Tryz.f147.name,by decide,Tryz.func147.trans (congrArg some (by kernel_rfl))⟩
 f19:=Tryz.func136.trans (congrArg some (by kernel_rfl))
 f20:=Tryz.func137.trans (congrArg some (by kernel_rfl))
 f30:=⟨Tryz.f168.name,by decide,Tryz.func168.trans (congrArg some (by kernel_rfl))⟩
 f31:=Tryz.func164.trans (congrArg some (by kernel_rfl))
 f32:=Tryz.func165.trans (congrArg some (by kernel_rfl))
 f33:=⟨Tryz.f169.name,by decide,Tryz.func169.trans (congrArg some (by kernel_rfl))⟩
 f34:=⟨Tryz.f170.name,by decide,Tryz.func170.trans (congrArg some (by kernel_rfl))⟩
 f35:=⟨Tryz.f151.name,by decide,Tryz.func151.trans (congrArg some (by kernel_rfl))⟩
 f40:=⟨Tryz.f177.name,by decide,Tryz.func177.trans (congrArg some (by kernel_rfl))⟩
 t0:=Tryz.underlying0
 a0:=Tryz.isAgg0
 z0:=Tryz.sizeOf0
 v0:=Tryz.zeroValue0
 t3:=Tryz.underlying3
 a3:=Tryz.isAgg3
 z3:=Tryz.sizeOf3
 v3:=Tryz.zeroValue3
 t4:=Tryz.underlying4
 a4:=Tryz.isAgg4
 z4:=Tryz.sizeOf4
 v4:=Tryz.zeroValue4
 t5:=Tryz.underlying5
 a5:=Tryz.isAgg5
 z5:=Tryz.sizeOf5
 v5:=Tryz.zeroValue5
 t9:=Tryz.underlying9
 a9:=Tryz.isAgg9
 z9:=Tryz.sizeOf9
 v9:=Tryz.zeroValue9
 t22:=Tryz.underlying42
 a22:=Tryz.isAgg42
 z22:=Tryz.sizeOf42
 v22:=Tryz.zeroValue42
 t23:=Tryz.underlying42
 a23:=Tryz.isAgg42
 z23:=Tryz.sizeOf42
 v23:=Tryz.zeroValue42
 t25:=Tryz.underlying2
 a25:=Tryz.isAgg2
 z25:=Tryz.sizeOf2
 v25:=Tryz.zeroValue2
 t32:=Tryz.underlying132
 a32:=Tryz.isAgg132
 z32:=Tryz.sizeOf132
 v32:=Tryz.zeroValue132
 t35:=Tryz.underlying157
 a35:=Tryz.isAgg157
 z35:=Tryz.sizeOf157
 v35:=Tryz.zeroValue157
 t36:=Tryz.underlying158
 a36:=Tryz.isAgg158
 z36:=Tryz.sizeOf158
 v36:=Tryz.zeroValue158
 t41:=Tryz.underlying101
 a41:=Tryz.isAgg101
 z41:=Tryz.sizeOf101
 v41:=Tryz.zeroValue101
 t44:=Tryz.underlying164
 a44:=Tryz.isAgg164
 z44:=Tryz.sizeOf164
 v44:=Tryz.zeroValue164
 t46:=Tryz.underlying166
 a46:=Tryz.isAgg166
 z46:=Tryz.sizeOf166
 v46:=Tryz.zeroValue166
 t53:=Tryz.underlying178
 a53:=Tryz.isAgg178
 z53:=Tryz.sizeOf178
 v53:=Tryz.zeroValue178
 t57:=Tryz.underlying182
 a57:=Tryz.isAgg182
 z57:=Tryz.sizeOf182
 v57:=Tryz.zeroValue182
 t63:=Tryz.underlying190
 a63:=Tryz.isAgg190
 z63:=Tryz.sizeOf190
 v63:=Tryz.zeroValue190
 t64:=Tryz.underlying191
 a64:=Tryz.isAgg191
 z64:=Tryz.sizeOf191
 v64:=Tryz.zeroValue191 }
def Tryz.sortS_ren:Go.Shelf.Ren:=⟨fun | 6=>90 | 8=>111 | 9=>110 | 19=>136 | 20=>137 | 21=>128 | 22=>129 | 23=>130 | 24=>131 | 25=>132 | 26=>133 | 27=>112 | 28=>134 | 29=>135 | 36=>163 | 31=>164 | 32=>165 | 37=>166 | 38=>167 | 39=>138 | 41=>176 | n=>n,fun | 27=>35 | 29=>9 | 3=>3 | 32=>132 | 26=>35 | 0=>0 | 44=>164 | 46=>166 | 4=>4 | 36=>158 | 35=>157 | 41=>101 | 5=>5 | 9=>9 | 53=>178 | 57=>182 | 63=>190 | 64=>191 | n=>n,fun | n=>n⟩
theorem Tryz.sortS:Go.Proofs.SlLaysM.n6 Tryz.prog Tryz.sortS_ren:={
 mixed:=by kernel_rfl
 f6:=⟨Tryz.f90.name,by decide,Tryz.func90.trans (congrArg some (by kernel_rfl))⟩
 f8:=Tryz.func111.trans (congrArg some (by kernel_rfl))
 f9:=⟨Tryz.f110.name,by decide,Tryz.func110.trans (congrArg some (by kernel_rfl))⟩
 f19:=Tryz.func136.trans (congrArg some (by kernel_rfl))
 f20:=Tryz.func137.trans (congrArg some (by kernel_rfl))
 f21:=⟨Tryz.f128.name,by decide,Tryz.func128.trans (congrArg some (by kernel_rfl))⟩
 f22:=⟨Tryz.f129.name,by decide,Tryz.func129.trans (congrArg some (by kernel_rfl))⟩
 f23:=⟨Tryz.f130.name,by decide,Tryz.func130.trans (congrArg some (by kernel_rfl))⟩
 f24:=⟨Tryz.f131.name,by decide,Tryz.func131.trans (congrArg some (by kernel_rfl))⟩
 f25:=⟨Tryz.f132.name,by decide,Tryz.func132.trans (congrArg some (by kernel_rfl))⟩
 f26:=⟨Tryz.f133.name,by decide,Tryz.func133.trans (congrArg some (by kernel_rfl))⟩
 f27:=⟨Tryz.f112.name,by decide,Tryz.func112.trans (congrArg some (by kernel_rfl))⟩
 f28:=⟨Tryz.f134.name,by decide,Tryz.func134.trans (congrArg some (by kernel_rfl))⟩
 f29:=⟨Tryz.f135.name,by decide,Tryz.func135.trans (congrArg some (by kernel_rfl))⟩
 f31:=Tryz.func164.trans (congrArg some (by kernel_rfl))
 f32:=Tryz.func165.trans (congrArg some (by kernel_rfl))
 f36:=⟨Tryz.f163.name,by decide,Tryz.func163.trans (congrArg some (by kernel_rfl))⟩
 f37:=⟨Tryz.f166.name,by decide,Tryz.func166.trans (congrArg some (by kernel_rfl))⟩
 f38:=⟨Tryz.f167.name,by decide,Tryz.func167.trans (congrArg some (by kernel_rfl))⟩
 f39:=⟨Tryz.f138.name,by decide,Tryz.func138.trans (congrArg some (by kernel_rfl))⟩
 f41:=⟨Tryz.f176.name,by decide,Tryz.func176.trans (congrArg some (by kernel_rfl))⟩
 t0:=Tryz.underlying0
 a0:=Tryz.isAgg0
 z0:=Tryz.sizeOf0
 v0:=Tryz.zeroValue0
 t3:=Tryz.underlying3
 a3:=Tryz.isAgg3
 z3:=Tryz.sizeOf3
 v3:=Tryz.zeroValue3
 t4:=Tryz.underlying4
 a4:=Tryz.isAgg4
 z4:=Tryz.sizeOf4
 v4:=Tryz.zeroValue4
 t5:=Tryz.underlying5
 a5:=Tryz.isAgg5
 z5:=Tryz.sizeOf5
 v5:=Tryz.zeroValue5
 t9:=Tryz.underlying9
 a9:=Tryz.isAgg9
 z9:=Tryz.sizeOf9
 v9:=Tryz.zeroValue9
 t26:=Tryz.underlying35
 a26:=Tryz.isAgg35
 z26:=Tryz.sizeOf35
 v26:=Tryz.zeroValue35
 t27:=Tryz.underlying35
 a27:=Tryz.isAgg35
 z27:=Tryz.sizeOf35
 v27:=Tryz.zeroValue35
 t29:=Tryz.underlying9
 a29:=Tryz.isAgg9
 z29:=Tryz.sizeOf9
 v29:=Tryz.zeroValue9
 t32:=Tryz.underlying132
 a32:=Tryz.isAgg132
 z32:=Tryz.sizeOf132
 v32:=Tryz.zeroValue132
 t35:=Tryz.underlying157
 a35:=Tryz.isAgg157
 z35:=Tryz.sizeOf157
 v35:=Tryz.zeroValue157
 t36:=Tryz.underlying158
 a36:=Tryz.isAgg158
 z36:=Tryz.sizeOf158
 v36:=Tryz.zeroValue158
 t41:=Tryz.underlying101
 a41:=Tryz.isAgg101
 z41:=Tryz.sizeOf101
 v41:=Tryz.zeroValue101
 t44:=Tryz.underlying164
 a44:=Tryz.isAgg164
 z44:=Tryz.sizeOf164
 v44:=Tryz.zeroValue164
 t46:=Tryz.underlying166
 a46:=Tryz.isAgg166
 z46:=Tryz.sizeOf166
 v46:=Tryz.zeroValue166
 t53:=Tryz.underlying178
 a53:=Tryz.isAgg178
 z53:=Tryz.sizeOf178
 v53:=Tryz.zeroValue178
 t57:=Tryz.underlying182
 a57:=Tryz.isAgg182
 z57:=Tryz.sizeOf182
 v57:=Tryz.zeroValue182
 t63:=Tryz.underlying190
 a63:=Tryz.isAgg190
 z63:=Tryz.sizeOf190
 v63:=Tryz.zeroValue190
 t64:=Tryz.underlying191
 a64:=Tryz.isAgg191
 z64:=Tryz.sizeOf191
 v64:=Tryz.zeroValue191 }
def Tryz.sortV_ren:Go.Shelf.Ren:=⟨fun | 6=>103 | 15=>111 | 14=>125 | 28=>136 | 29=>137 | 20=>152 | 21=>153 | 22=>154 | 23=>155 | 24=>156 | 25=>157 | 26=>158 | 27=>159 | 46=>172 | 47=>164 | 48=>165 | 49=>173 | 50=>174 | 57=>184 | n=>n,fun | 22=>36 | 24=>70 | 25=>139 | 3=>3 | 39=>132 | 0=>0 | 53=>164 | 55=>166 | 4=>4 | 46=>158 | 45=>157 | 50=>101 | 5=>5 | 9=>9 | 66=>178 | 70=>182 | 76=>190 | 77=>191 | n=>n,fun | n=>n⟩
theorem Tryz.sortV:Go.Proofs.SlLaysF0.n6 Tryz.prog Tryz.sortV_ren:={
 mixed:=by kernel_rfl
 f6:=⟨Tryz.f103.name,by decide,Tryz.func103.trans (congrArg some (by kernel_rfl))⟩
 f14:=⟨Tryz.f125.name,by decide,Tryz.func125.trans (congrArg some (by kernel_rfl))⟩
 f15:=Tryz.func111.trans (congrArg some (by kernel_rfl))
 f20:=⟨Tryz.f152.name,by decide,Tryz.func152.trans (congrArg some (by kernel_rfl))⟩
 f21:=⟨Tryz.f153.name,by decide,Tryz.func153.trans (congrArg some (by kernel_rfl))⟩
 f22:=⟨Tryz.f154.name,by decide,Tryz.func154.trans (congrArg some (by kernel_rfl))⟩
 f23:=⟨Tryz.f155.name,by decide,Tryz.func155.trans (congrArg some (by kernel_rfl))⟩
 f24:=⟨Tryz.f156.name,by decide,Tryz.func156.trans (congrArg some (by kernel_rfl))⟩
 f25:=⟨Tryz.f157.name,by decide,Tryz.func157.trans (congrArg some (by kernel_rfl))⟩
 f26:=⟨Tryz.f158.name,by decide,Tryz.func158.trans (congrArg some (by kernel_rfl))⟩
 f27:=⟨Tryz.f159.name,by decide,Tryz.func159.trans (congrArg some (by kernel_rfl))⟩
 f28:=Tryz.func136.trans (congrArg some (by kernel_rfl))
 f29:=Tryz.func137.trans (congrArg some (by kernel_rfl))
 f46:=⟨Tryz.f172.name,by decide,Tryz.func172.trans (congrArg some (by kernel_rfl))⟩
 f47:=Tryz.func164.trans (congrArg some (by kernel_rfl))
 f48:=Tryz.func165.trans (congrArg some (by kernel_rfl))
 f49:=⟨Tryz.f173.name,by decide,Tryz.func173.trans (congrArg some (by kernel_rfl))⟩
 f50:=⟨Tryz.f174.name,by decide,Tryz.func174.trans (congrArg some (by kernel_rfl))⟩
 f57:=⟨Tryz.f184.name,by decide,Tryz.func184.trans (congrArg some (by kernel_rfl))⟩
 t0:=Tryz.underlying0
 a0:=Tryz.isAgg0
 z0:=Tryz.sizeOf0
 v0:=Tryz.zeroValue0
 t3:=Tryz.underlying3
 a3:=Tryz.isAgg3
 z3:=Tryz.sizeOf3
 v3:=Tryz.zeroValue3
 t4:=Tryz.underlying4
 a4:=Tryz.isAgg4
 z4:=Tryz.sizeOf4
 v4:=Tryz.zeroValue4
 t5:=Tryz.underlying5
 a5:=Tryz.isAgg5
 z5:=Tryz.sizeOf5
 v5:=Tryz.zeroValue5
 t9:=Tryz.underlying9
 a9:=Tryz.isAgg9
 z9:=Tryz.sizeOf9
 v9:=Tryz.zeroValue9
 t22:=Tryz.underlying36
 a22:=Tryz.isAgg36
 z22:=Tryz.sizeOf36
 v22:=Tryz.zeroValue36
 t25:=Tryz.underlying139
 a25:=Tryz.isAgg139
 z25:=Tryz.sizeOf139
 v25:=Tryz.zeroValue139
 t39:=Tryz.underlying132
 a39:=Tryz.isAgg132
 z39:=Tryz.sizeOf132
 v39:=Tryz.zeroValue132
 t45:=Tryz.underlying157
 a45:=Tryz.isAgg157
 z45:=Tryz.sizeOf157
 v45:=Tryz.zeroValue157
 t46:=Tryz.underlying158
 a46:=Tryz.isAgg158
 z46:=Tryz.sizeOf158
 v46:=Tryz.zeroValue158
 t50:=Tryz.underlying101
 a50:=Tryz.isAgg101
 z50:=Tryz.sizeOf101
 v50:=Tryz.zeroValue101
 t53:=Tryz.underlying164
 a53:=Tryz.isAgg164
 z53:=Tryz.sizeOf164
 v53:=Tryz.zeroValue164
 t55:=Tryz.underlying166
 a55:=Tryz.isAgg166
 z55:=Tryz.sizeOf166
 v55:=Tryz.zeroValue166
 t66:=Tryz.underlying178
 a66:=Tryz.isAgg178
 z66:=Tryz.sizeOf178
 v66:=Tryz.zeroValue178
 t70:=Tryz.underlying182
 a70:=Tryz.isAgg182
 z70:=Tryz.sizeOf182
 v70:=Tryz.zeroValue182
 t76:=Tryz.underlying190
 a76:=Tryz.isAgg190
 z76:=Tryz.sizeOf190
 v76:=Tryz.zeroValue190
 t77:=Tryz.underlying191
 a77:=Tryz.isAgg191
 z77:=Tryz.sizeOf191
 v77:=Tryz.zeroValue191 }
end Go.Proofs

/- GS -/
namespace Go.Proofs.YtcfmenkigolnoaaGreatDoor
open Go.Lib
section
variable {α:Type} [Inhabited α] [DecidableEq α] {le:α→α→Bool}
theorem zei (tr:∀ a b c,le a b=true→le b c=true→le a c=true) (an:∀ a b,le a b=true→le b a=true→a=b) (d:Array α) (hd:∀ i j,i < j→j < d.size→le d[i]! d[j]! =true):
 (m:Nat)→m≤d.size→(∀ x,x∈compactUpTo d m↔∃ j,j < m∧d[j]! =x)∧(compactUpTo d m).Pairwise (fun a b=>le a b=true∧a≠b)
 | 0,_=>⟨fun x=>by simp [compactUpTo],by simp [compactUpTo]⟩
 | m+1,hm=>by
   obtain ⟨h1,h2⟩:=zei tr an d hd m (by omega)
   rw [compactUpTo_succ]
   by_cases hk:keeps d m=true
   ·rw [if_pos hk]
    refine ⟨fun x=>?_,List.pairwise_append.2 ⟨h2,by simp,fun x hx y hy=>?_⟩⟩
    ·rw [List.mem_append,h1]
     constructor
     ·rintro (⟨j,hj,e⟩ | h)
      ·exact ⟨j,by omega,e⟩
      ·exact ⟨m,by omega,(by simpa using h:x=_).symm⟩
     ·rintro ⟨j,hj,rfl⟩
      by_cases e:j=m
      ·subst e;exact .inr (by simp)
      ·exact .inl ⟨j,by omega,rfl⟩
    ·obtain rfl:y=d[m]!:=by simpa using hy
     obtain ⟨j,hj,rfl⟩:=(h1 x).1 hx
     refine ⟨hd j m hj (by omega),fun e=>?_⟩
     have q:m=0∨d[m]!≠d[m - 1]!:=by simpa [keeps] using hk
     rcases q with q | q
     ·omega
     ·by_cases e2:j=m - 1
      ·subst e2;exact q e.symm
      ·refine q (an _ _ ?_ (hd (m - 1) m (by omega) (by omega)))
       rw [← e]
       exact hd j (m - 1) (by omega) (by omega)
   ·rw [if_neg hk,List.append_nil]
    refine ⟨fun x=>?_,h2⟩
    rw [h1]
    constructor
    ·rintro ⟨j,hj,e⟩;exact ⟨j,by omega,e⟩
    ·rintro ⟨j,hj,rfl⟩
     by_cases e:j=m
     ·subst e
      have q:¬ (j=0∨d[j]!≠d[j - 1]!):=by simpa [keeps] using hk
      exact ⟨j - 1,by omega,by by_cases h:d[j]! =d[j - 1]! <;> simp_all⟩
     ·exact ⟨j,by omega,rfl⟩
theorem zec (l:List α):(compact l).Sublist l:=by
 unfold compact compactUpTo
 have h:((List.range l.toArray.size).map (l.toArray[·]!))=l:=by
  have:=range_map_get l.toArray
  simpa using this
 have h2:(((List.range l.length).filter (keeps l.toArray)).map (l.toArray[·]!)).Sublist ((List.range l.length).map (l.toArray[·]!)):=List.filter_sublist.map _
 simp only [List.size_toArray] at h
 rw [h] at h2
 exact h2
def setL (le:α→α→Bool) (l:List α):List α:=compact (l.mergeSort le)
theorem zfi (l:List α):(setL le l).length≤l.length:=by
 have:=(zec (l.mergeSort le)).length_le
 rw [List.length_mergeSort] at this
 exact this
theorem zd3 (tr:∀ a b c,le a b=true→le b c=true→le a c=true) (to:∀ a b,(le a b || le b a)=true) (an:∀ a b,le a b=true→le b a=true→a=b) (l:List α):
 (∀ x,x∈setL le l↔x∈l)∧(setL le l).Pairwise (fun a b=>le a b=true∧a≠b):=by
 have hp:=List.pairwise_mergeSort tr to l
 have hd:∀ i j,i < j→j < (l.mergeSort le).toArray.size→le (l.mergeSort le).toArray[i]! (l.mergeSort le).toArray[j]! =true:=fun i j hij hj=>by
  have hj':j < (l.mergeSort le).length:=by simpa using hj
  have h:=List.pairwise_iff_getElem.1 hp i j (by omega) hj' hij
  rw [List.getElem!_toArray,List.getElem!_toArray,getElem!_pos _ i (by omega),getElem!_pos _ j hj']
  exact h
 obtain ⟨h1,h2⟩:=zei tr an _ hd (l.mergeSort le).length (by simp)
 refine ⟨fun x=>?_,h2⟩
 unfold setL compact
 rw [h1]
 constructor
 ·rintro ⟨j,hj,rfl⟩
  rw [List.getElem!_toArray,getElem!_pos _ j hj]
  exact List.mem_mergeSort.1 (List.getElem_mem hj)
 ·intro hx
  obtain ⟨j,hj,rfl⟩:=List.getElem_of_mem (List.mem_mergeSort.2 hx:x∈l.mergeSort le)
  exact ⟨j,hj,by rw [List.getElem!_toArray,getElem!_pos _ j hj]⟩
theorem zoq (tr:∀ a b c,le a b=true→le b c=true→le a c=true) (to:∀ a b,(le a b || le b a)=true) (an:∀ a b,le a b=true→le b a=true→a=b) (l:List α):(setL le l).length=l.length↔l.Nodup:=by
 obtain ⟨h1,h2⟩:=zd3 tr to an l
 have hn:(setL le l).Nodup:=h2.imp fun h=>h.2
 constructor
 ·intro e
  have q:=(zec (l.mergeSort le)).eq_of_length (by rw [List.length_mergeSort];exact e)
  have:(l.mergeSort le).Nodup:=by rw [← q];exact hn
  exact (List.mergeSort_perm l le).nodup_iff.1 this
 ·intro h
  exact ((List.perm_ext_iff_of_nodup hn h).2 h1).length_eq
end
end Go.Proofs.YtcfmenkigolnoaaGreatDoor

/- M -/
namespace Go.Proofs.YtcfmenkigolnoaaGreatDoor
def BASE:Nat:=1000000000
def vN:Nat→(Nat→Nat)→Nat
 | 0,_=>0
 | n+1,f=>vN n f+f n*BASE ^ n
def wval (f:Nat→Nat):Nat:=vN 16 f
def zem (f:Nat→Nat):Prop:=∀ j,j < 16→f j < BASE
def upd (f:Nat→Nat) (k v:Nat):Nat→Nat:=fun j=>if j=k then v else f j
theorem zor (f:Nat→Nat) (k v:Nat):upd f k v k=v:=by simp [upd]
theorem zfj (f:Nat→Nat) {k j:Nat} (v:Nat) (h:j≠k):upd f k v j=f j:=by simp [upd,h]
theorem zem.upd {f:Nat→Nat} (h:zem f) {k v:Nat} (hv:v < BASE):zem (upd f k v):=by
 intro j hj
 by_cases e:j=k
 ·subst e;rw [zor];exact hv
 ·rw [zfj _ _ e];exact h j hj
theorem zut (f g:Nat→Nat) (n:Nat) (h:∀ j,j < n→f j=g j):vN n f=vN n g:=by
 induction n with
 | zero=>rfl
 | succ n ih=>simp only [vN];rw [ih (fun j hj=>h j (by omega)),h n (by omega)]
theorem vN_upd (f:Nat→Nat) (k v n:Nat) (h:n≤k):vN n (upd f k v)=vN n f:=
 zut _ _ _ fun j hj=>zfj _ _ (by omega)
theorem vN_lt (f:Nat→Nat) (h:zem f) (n:Nat) (hn:n≤16):vN n f < BASE ^ n:=by
 induction n with
 | zero=>simp [vN]
 | succ n ih=>
   have hj:=h n (by omega)
   have ih:=ih (by omega)
   have:f n*BASE ^ n+BASE ^ n≤BASE ^ (n+1):=by
    have:(f n+1)*BASE ^ n≤BASE*BASE ^ n:=Nat.mul_le_mul_right _ hj
    rw [Nat.pow_succ,Nat.mul_comm (BASE ^ n)]
    rw [Nat.add_mul,Nat.one_mul] at this
    exact this
   simp only [vN];omega
theorem zuu (f g:Nat→Nat) (k n:Nat) (h:k≤n) (he:∀ j,k≤j→j < n→f j=g j):
 (vN n f:Int) - vN n g=(vN k f:Int) - vN k g:=by
 induction n with
 | zero=>obtain rfl:k=0:=by omega
         rfl
 | succ n ih=>
   by_cases hk:k=n+1
   ·subst hk;rfl
   ·have:=ih (by omega) (fun j a b=>he j a (by omega))
    have e:=he n (by omega) (by omega)
    simp only [vN,e];omega
structure zuv (f g h:Nat→Nat) (c k:Nat):Prop where
 sum:vN k h+c*BASE ^ k=vN k f+vN k g
 rest:∀ j,k≤j→h j=f j
 words:zem h
 one:c≤1
theorem zuv.zero {f g:Nat→Nat} (hf:zem f):zuv f g f 0 0:=⟨by simp [vN],fun _ _=>rfl,hf,by omega⟩
structure zgx (f g h:Nat→Nat) (c k:Nat):Prop where
 sum:vN k h+vN k g=vN k f+c*BASE ^ k
 rest:∀ j,k≤j→h j=f j
 words:zem h
 one:c≤1
theorem zgx.zero {f g:Nat→Nat} (hf:zem f):zgx f g f 0 0:=⟨by simp [vN],fun _ _=>rfl,hf,by omega⟩
structure zos (f:Nat→Nat) (d:Nat) (h:Nat→Nat) (c k:Nat):Prop where
 sum:vN k h+c*BASE ^ k=vN k f*10+d
 rest:∀ j,k≤j→h j=f j
 words:zem h
 one:c≤9
theorem zos.zero {f:Nat→Nat} (hf:zem f) {d:Nat} (hd:d≤9):zos f d f d 0:=⟨by simp [vN],fun _ _=>rfl,hf,by omega⟩
end Go.Proofs.YtcfmenkigolnoaaGreatDoor

/- A0 -/
namespace Go.Proofs.YtcfmenkigolnoaaGreatDoor
open Go.RowKit
structure IsNum (c:Array Value) (n:Bool) (f:Nat→Nat):Prop where
 neg:c[0]?=some (.bool n)
 word:∀ j,j < 16→c[1+j]?=some (.int .u32 (f j))
 size:c.size=17
 lt:zem f
structure Only (b:Nat) (w w':World):Prop where
 os:w'.os=w.os
 tape:w'.tape=w.tape
 output:w'.output=w.output
 size:w.heap.size≤w'.heap.size
 block:∀ k,k < w.heap.size→k≠b→w'.heap[k]?=w.heap[k]?
theorem Only.refl (b:Nat) (w:World):Only b w w:=⟨rfl,rfl,rfl,Nat.le_refl _,fun _ _ _=>rfl⟩
theorem Only.trans {b:Nat} {x y z:World} (h:Only b x y) (k:Only b y z):Only b x z:=
 ⟨k.os.trans h.os,k.tape.trans h.tape,k.output.trans h.output,Nat.le_trans h.size k.size,fun i hi e=>(k.block i (Nat.lt_of_lt_of_le hi h.size) e).trans (h.block i hi e)⟩
theorem Only.drewN {b:Nat} {x y:World} (h:Only b x y) (n:Nat):Only b x (y.drewN n):=⟨h.os,h.tape,h.output,h.size,h.block⟩
theorem Only.setCell {b:Nat} {x y:World} (h:Only b x y) (o:Nat) (s:Option Nat) (v:Value):Only b x (y.setCell ⟨b,o,s⟩ v):=
 h.trans ⟨rfl,rfl,rfl,by simp [World.setCell],fun _ _ e=>Below.heap_setCell _ _ _ _ e⟩
theorem Only.of_below {b:Nat} {x y:World} (h:Below x.heap.size x y):Only b x y:=⟨h.os,h.tape,h.output,h.size,fun k hk _=>h.block k hk⟩
theorem zag {B b:Nat} {x y z:World} (h:Below B x y) (k:Only b y z) (hb:B≤b) (hs:B≤y.heap.size):Below B x z:=
 h.trans ⟨k.os,k.tape,k.output,k.size,fun i hi=>k.block i (by omega) (by omega)⟩
theorem zbt {B:Nat} {a w:World} (h:Below B a w) (n:Nat):Below B a (w.drewN n):=⟨h.os,h.tape,h.output,h.size,h.block⟩
theorem zab {B:Nat} {x y z:World} (h:Below B x y) (k:Below y.heap.size y z) (hs:B≤y.heap.size):Below B x z:=h.trans (k.mono hs)
theorem zac {w:World} {b:Nat} {c:Array Value} {t:TypeId} (h:w.heap[b]?=some (.cells c t)) (o:Nat) {v:Value} (hv:c[o]?=some v):
 w.cell? ⟨b,o,none⟩=some v:=by
 simp [World.cell?,h,hv]
theorem zbj {w:World} {b:Nat} {c:Array Value} {t:TypeId} (h:w.heap[b]?=some (.cells c t)) (o:Nat):w.frozen? ⟨b,o,none⟩=false:=by
 simp [World.frozen?,h]
theorem zae (w:World) (o:Obj) {n:Nat} (h:w.heap.size=n):(w.alloc o).heap[n]?=some o:=by
 show (w.heap.push o)[n]?=_
 simp [← h]
theorem zar {w:World} (o:Obj) {n:Nat} {x:Obj} (h:w.heap[n]?=some x):(w.alloc o).heap[n]?=some x:=by
 rw [Below.heap_alloc _ _ _ (by have:=Array.getElem?_eq_some_iff.1 h;obtain ⟨a,_⟩:=this;exact a)];exact h
theorem za6 {w:World} {b:Nat} {c:Array Value} {t:TypeId} (h:w.heap[b]?=some (.cells c t)) (o:Nat) (v:Value):
 (w.setCell ⟨b,o,none⟩ v).heap[b]?=some (.cells (c.setIfInBounds o v) t):=by
 simp [World.setCell,Array.getElem?_modify,h]
theorem zaa {w:World} {b:Nat} {x:Obj} (h:w.heap[b]?=some x):b < w.heap.size:=by
 obtain ⟨a,_⟩:=Array.getElem?_eq_some_iff.1 h;exact a
theorem IsNum.one {c:Array Value} {n:Bool} {f:Nat→Nat} (h:IsNum c n f):c.all (·.oneCell')=true:=by
 rw [Array.all_eq_true]
 intro i hi
 rw [h.size] at hi
 cases i with
 | zero=>have:=h.neg;rw [Array.getElem?_eq_getElem (by rw [h.size];omega)] at this;rw [Option.some.inj this];rfl
 | succ i=>have:=h.word i (by omega);rw [Nat.add_comm] at this;rw [Array.getElem?_eq_getElem (by rw [h.size];omega)] at this;rw [Option.some.inj this];rfl
theorem zc7 {w:World} {g:Nat} {c c':Array Value} {t:TypeId} (h:w.heap[g]?=some (.cells c t)):(w.setRow g c').heap[g]?=some (.cells c' t):=by
 simp [World.setRow,Array.getElem?_modify,h]
theorem Only.setRow {b:Nat} (w:World) (c:Array Value):Only b w (w.setRow b c):=
 ⟨rfl,rfl,rfl,by simp [World.setRow],fun k _ e=>by simp only [World.setRow,Array.getElem?_modify];rw [if_neg (by omega)]⟩
theorem putS:(∀ (a:Act) (d:Tmp) (v:Value),a.put (some d) v={ a with tmps:=a.tmps.setIfInBounds d v })∧(∀ (a:Act) (v:Value),a.put none v=a)∧(∀ (l:List Value) (i:Nat) (v:Value),l.toArray.setIfInBounds i v=(l.set i v).toArray)∧(∀ (a v:Value) (l:List Value),(a::l).set 0 v=v::l)∧(∀ (a v:Value) (l:List Value) (n:Nat),(a::l).set (n+1) v=a::l.set n v)∧
 (∀ (l:List Oper) (i:Nat) (h:i < l.toArray.size),l.toArray[i]=l[i]'(by simpa using h))∧(∀ (a:Oper) (l:List Oper) (h:0 < (a::l).length),(a::l)[0]=a)∧(∀ (a:Oper) (l:List Oper) (i:Nat) (h:i+1 < (a::l).length),(a::l)[i+1]=l[i]'(by simpa using h)):=
 ⟨fun _ _ _=>rfl,fun _ _=>rfl,fun _ _ _=>List.setIfInBounds_toArray _ _ _,fun _ _ _=>rfl,fun _ _ _ _=>rfl,fun _ _ h=>List.getElem_toArray h,fun _ _ _=>rfl,fun _ _ _ _=>rfl⟩
section
variable {ops:Array Oper} {Q:Exit→Act→World→Prop} {md:Region.Mode} {S:World→Prop}
theorem tk {i:Nat} {oi:Oper} {v:Value} {fuel:Nat} {listed l':Array Bool} {a a':Act} {w:World} (hi:ops[i]?=some oi) (hy:YieldsIf Tryz.prog ops S oi v a) (hS:S w)
 (h:wpAnyH Tryz.prog md ops Q S fuel l' a' w) (hs:Region.noSelect ops=true:=by kernel_rfl) (hf:Region.free md ops listed i=true:=by kernel_rfl) (hr:(Region.ready md ops listed).contains i=true:=by kernel_rfl)
 (hQ:∀ c a w,Q (.panic c) (a.put oi.dst v) w→Q (.panic c) a w:=by exact fun _ _ _ h=>h) (ha:a.put oi.dst v=a':=by (try simp only [putS]);exact rfl) (hl:listed.setIfInBounds i true=l':=by (try simp only [putS]);exact rfl):wpAnyH Tryz.prog md ops Q S (fuel+1) listed a w:=by
 subst ha hl
 exact wpAnyH_take hi hs hf hr hQ hy hS h
theorem tg {i:Nat} {oi:Oper} (v:Value) {fuel:Nat} {listed l':Array Bool} {a a':Act} {w:World} (hi:ops[i]?=some oi) (hS:S w)
 (h:wpAnyH Tryz.prog md ops Q S fuel l' a' w) (hy:YieldsIf Tryz.prog ops S oi v a:=by exact Or.inl ⟨by rfl,fun W _=>by go_simp⟩) (hs:Region.noSelect ops=true:=by kernel_rfl) (hf:Region.free md ops listed i=true:=by kernel_rfl) (hr:(Region.ready md ops listed).contains i=true:=by kernel_rfl)
 (hQ:∀ c a w,Q (.panic c) (a.put oi.dst v) w→Q (.panic c) a w:=by exact fun _ _ _ h=>h) (ha:a.put oi.dst v=a':=by (try simp only [putS]);exact rfl) (hl:listed.setIfInBounds i true=l':=by (try simp only [putS]);exact rfl):wpAnyH Tryz.prog md ops Q S (fuel+1) listed a w:=by
 subst ha hl
 exact wpAnyH_take hi hs hf hr hQ hy hS h
theorem tn {i:Nat} {oi:Oper} {fuel:Nat} {listed l':Array Bool} {a a':Act} {w:World} (hi:ops[i]?=some oi) (hS:S w)
 (h:wpAnyH Tryz.prog md ops Q S fuel l' a' w) (hy:YieldsIf Tryz.prog ops S oi undef a:=by exact Or.inr ⟨by rfl,rfl⟩) (hs:Region.noSelect ops=true:=by kernel_rfl) (hf:Region.free md ops listed i=true:=by kernel_rfl) (hr:(Region.ready md ops listed).contains i=true:=by kernel_rfl)
 (hQ:∀ c a w,Q (.panic c) (a.put oi.dst undef) w→Q (.panic c) a w:=by exact fun _ _ _ h=>h) (ha:a.put oi.dst undef=a':=by (try simp only [putS]);exact rfl) (hl:listed.setIfInBounds i true=l':=by (try simp only [putS]);exact rfl):wpAnyH Tryz.prog md ops Q S (fuel+1) listed a w:=by
 subst ha hl
 exact wpAnyH_take hi hs hf hr hQ hy hS h
theorem tr (i:Nat) {oi:Oper} {fuel:Nat} {listed:Array Bool} {a:Act} {w:World} (ho:ops[i]?=some oi)
 (h:∀ K':Act→World→Prop,Shut (∀ a w,S w→(S w→wpAnyH Tryz.prog md ops Q S fuel (listed.setIfInBounds i true) a w)→K' a w)→if Region.wanted oi (yielded ops a.tmps)=true then Oper.wp Tryz.prog oi a w K' Q else K' (a.put oi.dst undef) w)
 (hr:Region.ready md ops listed=[i]:=by kernel_rfl):wpAnyH Tryz.prog md ops Q S (fuel+1) listed a w:=
 wpAnyH_ready hr (by simp) (AllReadyH.cons ho h AllReadyH.nil)
end
end Go.Proofs.YtcfmenkigolnoaaGreatDoor

/- P -/
namespace Go.Proofs.YtcfmenkigolnoaaGreatDoor
def zbx (c:UInt8):Bool:=48≤c && c≤57
def digs (l:List UInt8):Bool:=!l.isEmpty && l.all zbx
def orN (l:List UInt8):List UInt8:=if l.isEmpty then [48] else l
def wr (neg:Bool) (a b:List UInt8):Option (List UInt8):=
 let x:=Lib.trimLeftB a 48
 let y:=Lib.trimRightB b 48
 if 40 < x.length∨20 < y.length then none
 else some ((if neg && !(x++y).isEmpty then [45] else [])++(orN x++46::orN y))
def sgn:List UInt8→Bool × List UInt8
 | []=>(false,[])
 | c::r=>if c=45 then (true,r) else if c=43 then (false,r) else (false,c::r)
def zfk (l:List UInt8):Option (Bool × List UInt8 × List UInt8):=
 let c:=Lib.cut (sgn l).2 [46]
 if digs c.1 && (!c.2.2 || digs c.2.1) then some ((sgn l).1,c.1,c.2.1) else none
def zjj (l:List UInt8):Option (Option (List UInt8)):=(zfk l).map fun x=>wr x.1 x.2.1 x.2.2
def chk (l:List UInt8):Bool:=zjj l == some (some l)
theorem zcx (c:UInt8):zbx c=true↔48≤(c.toNat:Int)∧(c.toNat:Int)≤57:=by
 unfold zbx
 rw [Bool.and_eq_true,decide_eq_true_iff,decide_eq_true_iff,UInt8.le_iff_toNat_le,UInt8.le_iff_toNat_le]
 show 48≤c.toNat∧c.toNat≤57↔_
 omega
end Go.Proofs.YtcfmenkigolnoaaGreatDoor

/- S1 -/
namespace Go.Proofs.YtcfmenkigolnoaaGreatDoor
open Go.RowKit
theorem zqu {s:ByteArray} {k:Nat} (h:k < s.size) (hk:zbx s[k]=false):digs s.data.toList=false:=by
 unfold digs
 have:s.data.toList.all zbx=false:=by
  rw [List.all_eq_false]
  exact ⟨s[k],by simp [ByteArray.getElem_eq_getElem_data],by rw [hk];simp⟩
 rw [this,Bool.and_false]
theorem zuw {s:ByteArray} {k:Nat} (h:k < s.size) (ha:(s.data.toList.take k).all zbx=true) (hk:zbx s[k]=true):(s.data.toList.take (k+1)).all zbx=true:=by
 rw [List.take_succ_eq_append_getElem (by simpa using h),List.all_append,ha]
 simpa [ByteArray.getElem_eq_getElem_data] using hk
set_option maxHeartbeats 400000 in
theorem zpj (s:ByteArray) (w:World) (hs:s.size≤maxLen):
 Calls Tryz.prog 197 #[.string s] w fun e w'=>e=.returned (.bool (digs s.data.toList))∧w'=w:=by
 unfold maxLen at hs
 go_enter Tryz.func197,Tryz.ntmps197
 go_wp2
 go_loop [6] (fun i=>∃ k:Nat,k≤s.size∧i=.int .i64 k∧(s.data.toList.take k).all zbx=true) (fun i=>s.size - (intOf i).toNat)
 case atStart=>exact ⟨0,Nat.zero_le _,rfl,by simp⟩
 case round=>
  obtain ⟨k,hk,rfl,hall⟩:=hrel
  have HA:=Lib.hid hall
  clear hall
  by_cases hlt:k < s.size
  ·by_cases h1:(s[k].toNat:Int) < 48
   ·go_wp2
    go_ret
    refine ⟨?_,rfl⟩
    rw [zqu hlt (Bool.eq_false_iff.2 fun e=>by have:=(zcx _).1 e;omega)]
    rfl
   ·by_cases h2:(57:Int) < s[k].toNat
    ·go_wp2
     go_ret
     refine ⟨?_,rfl⟩
     rw [zqu hlt (Bool.eq_false_iff.2 fun e=>by have:=(zcx _).1 e;omega)]
     rfl
    ·go_wp2
     go_round
     case rel=>exact ⟨k+1,by omega,by go_num,zuw hlt HA.out ((zcx _).2 ⟨by omega,by omega⟩)⟩
     case measure=>simp [intOf];omega
  ·go_wp2
   go_ret
   refine ⟨?_,rfl⟩
   have hk':k=s.data.toList.length:=by have:s.data.toList.length=s.size:=by simp
                                       omega
   have ha:=HA.out
   rw [hk',List.take_length] at ha
   unfold digs
   rw [ha,Bool.and_true,← ByteArray.toList_eq]
   rfl
theorem zpk (s:ByteArray) (w:World):
 Calls Tryz.prog 200 #[.string s] w fun e w'=>e=.returned (.string ⟨(orN s.data.toList).toArray⟩)∧w'=w:=by
 by_cases h:s.toList.isEmpty=true
 ·go_enter Tryz.func200,Tryz.ntmps200
  go_wp2
  go_ret
  refine ⟨?_,rfl⟩
  unfold orN
  rw [← ByteArray.toList_eq,if_pos h]
  rfl
 ·have h':s.toList.isEmpty=false:=by simpa using h
  go_enter Tryz.func200,Tryz.ntmps200
  go_wp2
  go_ret
  refine ⟨?_,rfl⟩
  unfold orN
  rw [← ByteArray.toList_eq,if_neg h,ByteArray.toList_eq]
  rfl
end Go.Proofs.YtcfmenkigolnoaaGreatDoor

/- N0 -/
namespace Go.Proofs.YtcfmenkigolnoaaGreatDoor
open Go.RowKit
theorem zas (w:World) (o:Obj):Below w.heap.size w (w.alloc o):=(Below.refl _ _).alloc (Nat.le_refl _) _
theorem zbk (w:World) (o p:Obj):Below w.heap.size w ((w.alloc o).alloc p):=(zas w o).alloc (by simp) _
end Go.Proofs.YtcfmenkigolnoaaGreatDoor

/- N1 -/
namespace Go.Proofs.YtcfmenkigolnoaaGreatDoor
open Go.RowKit
def zpl (k:Int):Nat:=
 if k=0 then 196 else if k=1 then 197 else if k=2 then 198 else if k=3 then 201 else if k=4 then 202 else if k=5 then 206 else
 if k=6 then 199 else if k=7 then 200 else if k=8 then 203 else if k=9 then 204 else if k=10 then 205 else 214
theorem zbl (k:Int) (b:Bool) (n:Int) (t x:ByteArray) (L:Value) (T:Nat) (hT:T=zpl k) (w:World):
 Calls Tryz.prog 178 #[.agg #[.int .i64 k,.bool b,.int .i64 n,.string t,.string x,L]] w fun e w'=>e=.returned (.iface T (.agg #[]))∧Below w.heap.size w w':=by
 have h0:(w.alloc (.cells #[.int .i64 k,.bool b,.int .i64 n,.string t,.string x,L] 60)).cell? ⟨w.heap.size,0,none⟩=some (.int .i64 k):=zac (zae _ _ rfl) _ rfl
 subst hT
 by_cases h:0≤k∧k≤10
 ·obtain ⟨h1,h2⟩:=h
  obtain ⟨j,rfl⟩:∃ j:Nat,k=j:=⟨k.toNat,by omega⟩
  have hj:j≤10:=by omega
  clear h1 h2
  match j,hj,h0 with
  | 0,_,h0 | 1,_,h0 | 2,_,h0 | 3,_,h0 | 4,_,h0 | 5,_,h0 | 6,_,h0 | 7,_,h0 | 8,_,h0 | 9,_,h0 | 10,_,h0=>
    go_enter Tryz.func178,Tryz.ntmps178
    go_wp2_with fail
    go_ret
    exact ⟨rfl,zas _ _⟩
 ·have e0:k≠0:=by omega
  have e1:k≠1:=by omega
  have e2:k≠2:=by omega
  have e3:k≠3:=by omega
  have e4:k≠4:=by omega
  have e5:k≠5:=by omega
  have e6:k≠6:=by omega
  have e7:k≠7:=by omega
  have e8:k≠8:=by omega
  have e9:k≠9:=by omega
  have e10:k≠10:=by omega
  have hv:zpl k=214:=by simp [zpl,e0,e1,e2,e3,e4,e5,e6,e7,e8,e9,e10]
  rw [hv]
  clear h hv
  go_enter Tryz.func178,Tryz.ntmps178
  go_wp2_with fail
  go_ret
  exact ⟨rfl,zas _ _⟩
end Go.Proofs.YtcfmenkigolnoaaGreatDoor
