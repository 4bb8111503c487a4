/- Texts of one kind, one behind the other: each says ahead of itself what it shows. -/
import Derived.Shelf.Spec.SlicesGrow
import Derived.Test.YteclpnfckjfibaaGreatDoorBaf
/- RG -/
namespace Go.Proofs
open Go.Shelf
def Tryz.grow167_ren:Go.Shelf.Ren:=⟨fun | 4=>167 | n=>n,fun | 22=>22 | 25=>9 | n=>n,fun | n=>n⟩
theorem Tryz.grow167:Go.Proofs.Lays8.n4 Tryz.prog Tryz.grow167_ren:={
 mixed:=by kernel_rfl
 f4:=⟨Tryz.f167.name,by decide,Tryz.func167.trans (congrArg some (by kernel_rfl))⟩
 t0:=Tryz.underlying0
 a0:=Tryz.isAgg0
 z0:=Tryz.sizeOf0
 v0:=Tryz.zeroValue0
 t3:=Tryz.underlying3
 a3:=Tryz.isAgg3
 z3:=Tryz.sizeOf3
 v3:=Tryz.zeroValue3
 t4:=Tryz.underlying4
 a4:=Tryz.isAgg4
 z4:=Tryz.sizeOf4
 v4:=Tryz.zeroValue4
 t9:=Tryz.underlying9
 a9:=Tryz.isAgg9
 z9:=Tryz.sizeOf9
 v9:=Tryz.zeroValue9
 t20:=Tryz.underlying20
 a20:=Tryz.isAgg20
 z20:=Tryz.sizeOf20
 v20:=Tryz.zeroValue20
 t22:=Tryz.underlying22
 a22:=Tryz.isAgg22
 z22:=Tryz.sizeOf22
 v22:=Tryz.zeroValue22 }
def Tryz.grow132_ren:Go.Shelf.Ren:=⟨fun | 4=>132 | n=>n,fun | 22=>23 | 25=>43 | n=>n,fun | n=>n⟩
theorem Tryz.grow132:Go.Proofs.Lays8.n4 Tryz.prog Tryz.grow132_ren:={
 mixed:=by kernel_rfl
 f4:=⟨Tryz.f132.name,by decide,Tryz.func132.trans (congrArg some (by kernel_rfl))⟩
 t0:=Tryz.underlying0
 a0:=Tryz.isAgg0
 z0:=Tryz.sizeOf0
 v0:=Tryz.zeroValue0
 t3:=Tryz.underlying3
 a3:=Tryz.isAgg3
 z3:=Tryz.sizeOf3
 v3:=Tryz.zeroValue3
 t4:=Tryz.underlying4
 a4:=Tryz.isAgg4
 z4:=Tryz.sizeOf4
 v4:=Tryz.zeroValue4
 t9:=Tryz.underlying9
 a9:=Tryz.isAgg9
 z9:=Tryz.sizeOf9
 v9:=Tryz.zeroValue9
 t20:=Tryz.underlying20
 a20:=Tryz.isAgg20
 z20:=Tryz.sizeOf20
 v20:=Tryz.zeroValue20
 t22:=Tryz.underlying23
 a22:=Tryz.isAgg23
 z22:=Tryz.sizeOf23
 v22:=Tryz.zeroValue23 }
def Tryz.grow171_ren:Go.Shelf.Ren:=⟨fun | 4=>171 | n=>n,fun | 22=>43 | 25=>48 | n=>n,fun | n=>n⟩
theorem Tryz.grow171:Go.Proofs.Lays8.n4 Tryz.prog Tryz.grow171_ren:={
 mixed:=by kernel_rfl
 f4:=⟨Tryz.f171.name,by decide,Tryz.func171.trans (congrArg some (by kernel_rfl))⟩
 t0:=Tryz.underlying0
 a0:=Tryz.isAgg0
 z0:=Tryz.sizeOf0
 v0:=Tryz.zeroValue0
 t3:=Tryz.underlying3
 a3:=Tryz.isAgg3
 z3:=Tryz.sizeOf3
 v3:=Tryz.zeroValue3
 t4:=Tryz.underlying4
 a4:=Tryz.isAgg4
 z4:=Tryz.sizeOf4
 v4:=Tryz.zeroValue4
 t9:=Tryz.underlying9
 a9:=Tryz.isAgg9
 z9:=Tryz.sizeOf9
 v9:=Tryz.zeroValue9
 t20:=Tryz.underlying20
 a20:=Tryz.isAgg20
 z20:=Tryz.sizeOf20
 v20:=Tryz.zeroValue20
 t22:=Tryz.underlying43
 a22:=Tryz.isAgg43
 z22:=Tryz.sizeOf43
 v22:=Tryz.zeroValue43 }
def Tryz.grow172_ren:Go.Shelf.Ren:=⟨fun | 4=>172 | n=>n,fun | 22=>132 | 25=>9 | n=>n,fun | n=>n⟩
theorem Tryz.grow172:Go.Proofs.Lays8.n4 Tryz.prog Tryz.grow172_ren:={
 mixed:=by kernel_rfl
 f4:=⟨Tryz.f172.name,by decide,Tryz.func172.trans (congrArg some (by kernel_rfl))⟩
 t0:=Tryz.underlying0
 a0:=Tryz.isAgg0
 z0:=Tryz.sizeOf0
 v0:=Tryz.zeroValue0
 t3:=Tryz.underlying3
 a3:=Tryz.isAgg3
 z3:=Tryz.sizeOf3
 v3:=Tryz.zeroValue3
 t4:=Tryz.underlying4
 a4:=Tryz.isAgg4
 z4:=Tryz.sizeOf4
 v4:=Tryz.zeroValue4
 t9:=Tryz.underlying9
 a9:=Tryz.isAgg9
 z9:=Tryz.sizeOf9
 v9:=Tryz.zeroValue9
 t20:=Tryz.underlying20
 a20:=Tryz.isAgg20
 z20:=Tryz.sizeOf20
 v20:=Tryz.zeroValue20
 t22:=Tryz.underlying132
 a22:=Tryz.isAgg132
 z22:=Tryz.sizeOf132
 v22:=Tryz.zeroValue132 }
def Tryz.grow173_ren:Go.Shelf.Ren:=⟨fun | 4=>173 | n=>n,fun | 22=>84 | 25=>138 | n=>n,fun | n=>n⟩
theorem Tryz.grow173:Go.Proofs.Lays8.n4 Tryz.prog Tryz.grow173_ren:={
 mixed:=by kernel_rfl
 f4:=⟨Tryz.f173.name,by decide,Tryz.func173.trans (congrArg some (by kernel_rfl))⟩
 t0:=Tryz.underlying0
 a0:=Tryz.isAgg0
 z0:=Tryz.sizeOf0
 v0:=Tryz.zeroValue0
 t3:=Tryz.underlying3
 a3:=Tryz.isAgg3
 z3:=Tryz.sizeOf3
 v3:=Tryz.zeroValue3
 t4:=Tryz.underlying4
 a4:=Tryz.isAgg4
 z4:=Tryz.sizeOf4
 v4:=Tryz.zeroValue4
 t9:=Tryz.underlying9
 a9:=Tryz.isAgg9
 z9:=Tryz.sizeOf9
 v9:=Tryz.zeroValue9
 t20:=Tryz.underlying20
 a20:=Tryz.isAgg20
 z20:=Tryz.sizeOf20
 v20:=Tryz.zeroValue20
 t22:=Tryz.underlying84
 a22:=Tryz.isAgg84
 z22:=Tryz.sizeOf84
 v22:=Tryz.zeroValue84 }
def Tryz.grow210_ren:Go.Shelf.Ren:=⟨fun | 4=>210 | n=>n,fun | 22=>26 | 25=>3 | n=>n,fun | n=>n⟩
theorem Tryz.grow210:Go.Proofs.Lays8.n4 Tryz.prog Tryz.grow210_ren:={
 mixed:=by kernel_rfl
 f4:=⟨Tryz.f210.name,by decide,Tryz.func210.trans (congrArg some (by kernel_rfl))⟩
 t0:=Tryz.underlying0
 a0:=Tryz.isAgg0
 z0:=Tryz.sizeOf0
 v0:=Tryz.zeroValue0
 t3:=Tryz.underlying3
 a3:=Tryz.isAgg3
 z3:=Tryz.sizeOf3
 v3:=Tryz.zeroValue3
 t4:=Tryz.underlying4
 a4:=Tryz.isAgg4
 z4:=Tryz.sizeOf4
 v4:=Tryz.zeroValue4
 t9:=Tryz.underlying9
 a9:=Tryz.isAgg9
 z9:=Tryz.sizeOf9
 v9:=Tryz.zeroValue9
 t20:=Tryz.underlying20
 a20:=Tryz.isAgg20
 z20:=Tryz.sizeOf20
 v20:=Tryz.zeroValue20
 t22:=Tryz.underlying26
 a22:=Tryz.isAgg26
 z22:=Tryz.sizeOf26
 v22:=Tryz.zeroValue26 }
def Tryz.grow211_ren:Go.Shelf.Ren:=⟨fun | 4=>211 | n=>n,fun | 22=>188 | 25=>3 | n=>n,fun | n=>n⟩
theorem Tryz.grow211:Go.Proofs.Lays8.n4 Tryz.prog Tryz.grow211_ren:={
 mixed:=by kernel_rfl
 f4:=⟨Tryz.f211.name,by decide,Tryz.func211.trans (congrArg some (by kernel_rfl))⟩
 t0:=Tryz.underlying0
 a0:=Tryz.isAgg0
 z0:=Tryz.sizeOf0
 v0:=Tryz.zeroValue0
 t3:=Tryz.underlying3
 a3:=Tryz.isAgg3
 z3:=Tryz.sizeOf3
 v3:=Tryz.zeroValue3
 t4:=Tryz.underlying4
 a4:=Tryz.isAgg4
 z4:=Tryz.sizeOf4
 v4:=Tryz.zeroValue4
 t9:=Tryz.underlying9
 a9:=Tryz.isAgg9
 z9:=Tryz.sizeOf9
 v9:=Tryz.zeroValue9
 t20:=Tryz.underlying20
 a20:=Tryz.isAgg20
 z20:=Tryz.sizeOf20
 v20:=Tryz.zeroValue20
 t22:=Tryz.underlying188
 a22:=Tryz.isAgg188
 z22:=Tryz.sizeOf188
 v22:=Tryz.zeroValue188 }
namespace YteclpnfckjfibaaGreatDoor
open Go.RowKit
def srcE:Elem (Int × Int) where
 k:=2
 rel:=fun _ _ xs s=>xs=[.int .i64 s.1,.int .i64 s.2]∧(Lit.int .i64 s.1).wf=true∧(Lit.int .i64 s.2).wf=true
 len:=fun h=>by rw [h.1];rfl
 one:=fun h u hu=>by
  rw [h.1] at hu
  simp only [List.mem_cons,List.mem_nil_iff,or_false] at hu
  rcases hu with rfl | rfl <;> rfl
 stays:=fun _ h=>h
theorem zfc:(Tryz.prog.info? 138).map (·.size)=some 2:=by kernel_rfl
theorem zo3:(Tryz.prog.info? 138).map (fun i=>(i.zero,i.size,i.bytes))=some (some (.agg #[.int .i64 0,.int .i64 0]),2,16):=by kernel_rfl
theorem zqj {ρ:Ren} (L:Lays8.n4 Tryz.prog ρ) {i0:TypeInfo} {z:Value} (k b:Nat) (hi:Tryz.prog.info? (ρ.t 25)=some i0) (hz:i0.zero=some z) (hs:i0.size=k) (hb:i0.bytes=b) (k0:0 < k) (hb2:b≤4096) (zc:z.cells.size=k) (n:Nat) (hn:n≤67108864) (w:World):
 Calls Tryz.prog (ρ.f 4) #[.slice none 0 0,.int .i64 n] w fun e w'=>∃ v,e=.returned v∧w'.ownsRow w.heap.size (ρ.t 25) k v 0 []∧Below w.heap.size w w':=by
 by_cases h0:n=0
 ·subst h0
  refine (Any8.slices_Grow_room L none 0 0 0 w (Nat.le_refl _) (by omega) (by omega) (by omega)).mono ?_
  rintro e w' ⟨rfl,rfl⟩
  exact ⟨_,rfl,World.ownsRow_nil _ _ _ _,Below.refl _ _⟩
 ·have h1:(0+n)*i0.bytes≤140737488355328:=by
   rw [hb,Nat.zero_add]
   exact Nat.le_trans (Nat.mul_le_mul hn hb2) (by decide)
  refine (Any8.slices_Grow_grow L i0 z hi hz (by omega) none 0 0 n [] w (Nat.le_refl _) (by omega) h1 (by omega) (by simp) (fun _=>rfl) (fun a h=>by cases h)).mono ?_
  rintro e w' ⟨rfl,rfl⟩
  have hg:=grownCap_ge w (0+n) 0 (ρ.t 25)
  refine ⟨_,rfl,⟨by simp,.inr ⟨w.heap.size,_,_,rfl,Nat.le_refl _,zah _ _ rfl,Nat.zero_le _,grownCap_le_maxLen w (0+n) 0 (ρ.t 25) (by unfold maxLen;omega),?_,by simp⟩⟩,?_⟩
  ·simp only [Array.size_append,size_zeroCells,zc]
   simp only [List.size_toArray,List.length_nil,Nat.zero_add,Nat.sub_zero]
   rw [← Nat.add_mul]
   rw [Nat.zero_add] at hg
   rw [Nat.add_sub_cancel' hg]
  ·exact ((Below.refl _ _).drew).alloc (Nat.le_refl _) _
theorem zus (n:Nat) (hn:n≤67108864) (w:World):Calls Tryz.prog 167 #[.slice none 0 0,.int .i64 n] w fun e w'=>∃ v,e=.returned v∧w'.ownsRow w.heap.size 9 1 v 0 []∧Below w.heap.size w w':=by
 obtain ⟨i0,hi,hz0,hz1,hz2⟩:=info_parts zej
 exact zqj Tryz.grow167 1 16 hi hz0 hz1 hz2 (by omega) (by omega) rfl n hn w
theorem zo4 (n:Nat) (hn:n≤67108864) (w:World):Calls Tryz.prog 132 #[.slice none 0 0,.int .i64 n] w fun e w'=>∃ v,e=.returned v∧w'.ownsRow w.heap.size 43 1 v 0 []∧Below w.heap.size w w':=by
 obtain ⟨i0,hi,hz0,hz1,hz2⟩:=info_parts zfb
 exact zqj Tryz.grow132 1 24 hi hz0 hz1 hz2 (by omega) (by omega) rfl n hn w
theorem zgy (n:Nat) (hn:n≤67108864) (w:World):Calls Tryz.prog 171 #[.slice none 0 0,.int .i64 n] w fun e w'=>∃ v,e=.returned v∧w'.ownsRow w.heap.size 48 6 v 0 []∧Below w.heap.size w w':=by
 obtain ⟨i0,hi,hz0,hz1,hz2⟩:=info_parts zfa
 exact zqj Tryz.grow171 6 80 hi hz0 hz1 hz2 (by omega) (by omega) rfl n hn w
theorem zut (n:Nat) (hn:n≤67108864) (w:World):Calls Tryz.prog 172 #[.slice none 0 0,.int .i64 n] w fun e w'=>∃ v,e=.returned v∧w'.ownsRow w.heap.size 9 1 v 0 []∧Below w.heap.size w w':=by
 obtain ⟨i0,hi,hz0,hz1,hz2⟩:=info_parts zej
 exact zqj Tryz.grow172 1 16 hi hz0 hz1 hz2 (by omega) (by omega) rfl n hn w
theorem zuu (n:Nat) (hn:n≤67108864) (w:World):Calls Tryz.prog 173 #[.slice none 0 0,.int .i64 n] w fun e w'=>∃ v,e=.returned v∧w'.ownsRow w.heap.size 138 2 v 0 []∧Below w.heap.size w w':=by
 obtain ⟨i0,hi,hz0,hz1,hz2⟩:=info_parts zo3
 exact zqj Tryz.grow173 2 16 hi hz0 hz1 hz2 (by omega) (by omega) rfl n hn w
theorem zuv (n:Nat) (hn:n≤67108864) (w:World):Calls Tryz.prog 210 #[.slice none 0 0,.int .i64 n] w fun e w'=>∃ v,e=.returned v∧w'.ownsRow w.heap.size 3 1 v 0 []∧Below w.heap.size w w':=by
 obtain ⟨i0,hi,hz0,hz1,hz2⟩:=info_parts zd3
 exact zqj Tryz.grow210 1 8 hi hz0 hz1 hz2 (by omega) (by omega) rfl n hn w
theorem zuw (n:Nat) (hn:n≤67108864) (w:World):Calls Tryz.prog 211 #[.slice none 0 0,.int .i64 n] w fun e w'=>∃ v,e=.returned v∧w'.ownsRow w.heap.size 3 1 v 0 []∧Below w.heap.size w w':=by
 obtain ⟨i0,hi,hz0,hz1,hz2⟩:=info_parts zd3
 exact zqj Tryz.grow211 1 8 hi hz0 hz1 hz2 (by omega) (by omega) rfl n hn w
theorem AccE.startOwn {β:Type} (E:Elem β) (D:TypeId) {w w':World} {v:Value} (h:w'.ownsRow w.heap.size D E.k v 0 []) (b:Below w.heap.size w w'):AccE E D w [] v w':=
 ⟨⟨[],h,RowE.nil⟩,b⟩
set_option maxHeartbeats 3200000 in
set_option maxRecDepth 20000 in
theorem zzm (tell:Val→Val) (l:List Val) (v:Value) (w:World) (h:zaf valE w (Old w) v l) (hn:l.length≤2097152)
 (each:∀ x∈l,∀ W c,Below w.heap.size w W→valE.rel W (Old W) c x→Calls Tryz.prog 116 #[.agg c.toArray] W (zb0 valE (tell x) W)):
 Calls Tryz.prog 162 #[v,.func (.func 116) #[] #[]] w (za8 valE 48 w (l.map tell)):=by
 obtain ⟨n,hln⟩:∃ n,n=l.length:=⟨_,rfl⟩
 obtain ⟨p,cap,rfl⟩:=h.slice
 rw [← hln] at hn
 obtain ⟨i0,hi,hz0,hz1,hz2⟩:=info_parts zfa
 have hgrow:=zgy n (by omega) w
 have HL:=Lib.hid hln
 have HH:=Lib.hid h
 have HE:=Lib.hid each
 have HG:=Lib.hid hgrow
 rw [← hln]
 clear h hln each hgrow
 go_enter Tryz.func162,Tryz.ntmps162
 go_wp2_with (first
  |(go_at_call 171;(with_reducible refine HG.out.mono ?_);rintro e w1 ⟨v1,rfl,ho1,hb1⟩))
 have ACC0:=Lib.hid (AccE.startOwn valE 48 ho1 hb1)
 clear ho1 hb1
 go_loopg [5,13] n (fun gg s5 s13 wr=>∃ j:Nat,j+gg=n∧s13=.int .i64 j∧Hid (AccE valE 48 w ((l.take j).map tell) s5 wr))
 case atStart=>exact ⟨0,by omega,rfl,ACC0⟩
 case round=>
  clear ACC0
  obtain ⟨j,hjg,rfl,HA⟩:=hrel
  by_cases hlt:(j:Int) < n
  ·have hj1:j < l.length:=by have:=HL.out;omega
   have hbel:=HA.out.bel
   obtain ⟨g,off,cap',c,e0,hg,hrl,hra⟩:=(HH.out.stays (zad hbel)).at_ j hj1
   injection e0 with e1 e2 e3
   subst e1
   replace hra:wr.rangeAt g (off+j*6) c:=hra
   have hlen:c.length=6:=valE.len hrl
   have hjl:((l.take j).map tell).length=j:=by rw [List.length_map,List.length_take];omega
   have etk:(l.take (j+1)).map tell=(l.take j).map tell++[tell l[j]]:=by rw [List.take_succ_eq_append_getElem hj1,List.map_append];rfl
   have hbs:=hbel.size
   have hone:=valE.one hrl
   have HR:=Lib.hid (And.intro hrl hra)
   have HK:=Lib.hid (And.intro hjl etk)
   clear hrl hra hjl etk e2 e3 hbel
   go_upto_region 5 with (first
    |((with_reducible refine zax (.tmp 15) g (off+j*6) 48 c 6 _ HR.out.2 hlen Tryz.underlying48 rfl zai ?_ ?_ ?_ ?_);rfl;rfl;rfl)
    |((with_reducible refine zas (.tmp 7) (.tmp 16) wr.heap.size 48 48 _ c 6 (zah _ _ rfl) hlen ?_ ?_ ?_ ?_ zai rfl hone ?_);rfl;rfl;rfl;rfl;intro wX oX hX))
   have bX:Below wr.heap.size wr wX:=zam (zaz wr _) oX (Nat.le_refl _) (by simp)
   have bWX:Below w.heap.size w wX:=HA.out.bel.trans (bX.mono hbs)
   have hcall:=HE.out l[j] (List.getElem_mem hj1) wX c bWX (valE.stays (zad bX) HR.out.1)
   have HX:=Lib.hid (And.intro bX bWX)
   clear oX bX bWX
   go_wp2_with (first
    |((with_reducible refine zag (.tmp 7) wr.heap.size 48 48 c 6 _ hX hlen Tryz.underlying48 rfl zai ?_ ?_ ?_ ?_);rfl;rfl;rfl)
    |(go_at_call 116;(with_reducible refine hcall.mono ?_);rintro e w3 ⟨u2,c',rfl,hu,hc',b3⟩
      obtain ⟨⟨xs,hown,hrow⟩,hbel⟩:=HA.out
      replace hown:wr.ownsRow w.heap.size 48 6 _ _ xs:=hown
      have hown3:=za6 (za6 hown HX.out.1) b3
      have hlen':c'.length=6:=valE.len hc'
      have hone':=valE.one hc'
      have hsX:=HX.out.1.size
      have hs3:=b3.size
      have HY:=Lib.hid (And.intro hown (And.intro hrow (And.intro hbel (And.intro b3 hc'))))
      clear hown hrow hbel b3 hc' HA hcall)
    |((with_reducible refine zbq ?_ 43 48 (.tmp 20) ?_ u2 c' ?_ hu i0 _ 6 hlen' (by omega) (by omega) Tryz.underlying43 hi hz0 hz1 ?_);rfl;rfl;rfl)
    |(at_builtin;refine wpList_append_own_at _ rfl _ _ 43 rfl w.heap.size 48 i0 (.agg #[.int .i64 0,.bool false,.int .i64 0,.string ⟨#[]⟩,.string ⟨#[]⟩,.slice none 0 0]) 6 80 Tryz.underlying43 hi hz0 hz1 hz2 rfl (by decide) _ _ _ rfl (hown3.alloc _) ⟨w3.heap.size,0,none⟩ 1 1 c' rfl (by rw [hlen']) (zb8 _ _ _) hone' ?_ ?_ ?_ ?_))
   all_goals (try (first |(rw [HK.out.1];unfold maxLen;omega) |(rw [HK.out.1];omega) |(simp;omega)))
   intro v' w5 hown' hgrow _ hloc
   have e9:min j l.length=j:=by omega
   rw [e9] at hown'
   have e10:=hown'
   rw [← HK.out.1] at e10
   have acc:AccE valE 48 w ((l.take (j+1)).map tell) v' w5:=by
    rw [HK.out.2]
    exact AccE.next HY.out.1 HY.out.2.1 HY.out.2.2.1 HX.out.1 HY.out.2.2.2.1 HY.out.2.2.2.2 e10 hgrow (by simpa using hloc)
   have ACC:=Lib.hid acc
   clear acc hown' hgrow hloc hown3 HY HX
   go_wp2_with fail
   go_roundg (gk - 1)
   case measure=>omega
   case rel=>exact ⟨j+1,by omega,by go_num,ACC⟩
  ·have e:l.take j=l:=by rw [List.take_of_length_le];have:=HL.out;omega
   have hA:=HA.out
   rw [e] at hA
   obtain ⟨⟨xs,hown,hrow⟩,hbel⟩:=hA
   have HX:=Lib.hid (And.intro hown (And.intro hrow hbel))
   clear hown hrow hbel HA
   go_wp2_with fail
   go_ret
   exact ⟨_,xs,rfl,HX.out.1,HX.out.2.1,HX.out.2.2⟩
set_option maxHeartbeats 3200000 in
set_option maxRecDepth 20000 in
theorem map110 (tell:ByteArray→ByteArray) (l:List ByteArray) (v:Value) (w:World) (h:zaf za0 w (Old w) v l) (hn:l.length≤2097152)
 (each:∀ x∈l,∀ W c,Below w.heap.size w W→za0.rel W (Old W) c x→Calls Tryz.prog 111 #[.string x] W (zb0 za0 (tell x) W)):
 Calls Tryz.prog 110 #[v,.func (.func 111) #[] #[]] w (za8 za0 9 w (l.map tell)):=by
 obtain ⟨n,hln⟩:∃ n,n=l.length:=⟨_,rfl⟩
 obtain ⟨p,cap,rfl⟩:=h.slice
 rw [← hln] at hn
 obtain ⟨i0,hi,hz0,hz1,hz2⟩:=info_parts zej
 have hgrow:=zus n (by omega) w
 have HL:=Lib.hid hln
 have HH:=Lib.hid h
 have HE:=Lib.hid each
 have HG:=Lib.hid hgrow
 rw [← hln]
 clear h hln each hgrow
 go_enter Tryz.func110,Tryz.ntmps110
 go_wp2_with (first
  |(go_at_call 167;(with_reducible refine HG.out.mono ?_);rintro e w1 ⟨v1,rfl,ho1,hb1⟩))
 have ACC0:=Lib.hid (AccE.startOwn za0 9 ho1 hb1)
 clear ho1 hb1
 go_loopg [5,13] n (fun gg s5 s13 wr=>∃ j:Nat,j+gg=n∧s13=.int .i64 j∧Hid (AccE za0 9 w ((l.take j).map tell) s5 wr))
 case atStart=>exact ⟨0,by omega,rfl,ACC0⟩
 case round=>
  clear ACC0
  obtain ⟨j,hjg,rfl,HA⟩:=hrel
  by_cases hlt:(j:Int) < n
  ·have hj1:j < l.length:=by have:=HL.out;omega
   have hbel:=HA.out.bel
   obtain ⟨g,off,cap',c,e0,hg,hrl,hra⟩:=(HH.out.stays (zad hbel)).at_ j hj1
   injection e0 with e1 e2 e3
   subst e1
   replace hra:wr.rangeAt g (off+j*1) c:=hra
   have hlen:c.length=1:=za0.len hrl
   have hjl:((l.take j).map tell).length=j:=by rw [List.length_map,List.length_take];omega
   have etk:(l.take (j+1)).map tell=(l.take j).map tell++[tell l[j]]:=by rw [List.take_succ_eq_append_getElem hj1,List.map_append];rfl
   have hbs:=hbel.size
   obtain ⟨rfl,hwf⟩:=hrl
   have c0:wr.cell? ⟨g,off+j,none⟩=some (.string l[j]):=by
    have:=hra 0 _ rfl
    simpa using this
   have bX:Below wr.heap.size wr wr:=Below.refl _ _
   have hcall:=HE.out l[j] (List.getElem_mem hj1) wr _ hbel ⟨rfl,hwf⟩
   have HX:=Lib.hid (And.intro bX hbel)
   have HK:=Lib.hid (And.intro hjl etk)
   clear hra hjl etk e2 e3 hbel bX
   go_wp2_with (first
    |(go_at_call 111;(with_reducible refine hcall.mono ?_);rintro e w3 ⟨u2,c',rfl,hu,hc',b3⟩
      obtain ⟨⟨xs,hown,hrow⟩,hbel⟩:=HA.out
      replace hown:wr.ownsRow w.heap.size 9 1 _ _ xs:=hown
      have hown3:=za6 (za6 hown HX.out.1) b3
      have hlen':c'.length=1:=za0.len hc'
      have hone':=za0.one hc'
      have hsX:=HX.out.1.size
      have hs3:=b3.size
      have HY:=Lib.hid (And.intro hown (And.intro hrow (And.intro hbel (And.intro b3 hc'))))
      clear hown hrow hbel b3 hc' HA hcall)
    |((with_reducible refine zbq ?_ 22 9 (.tmp 20) ?_ u2 c' ?_ hu i0 _ 1 hlen' (by omega) (by omega) Tryz.underlying22 hi hz0 hz1 ?_);rfl;rfl;rfl)
    |(at_builtin;refine wpList_append_own_at _ rfl _ _ 22 rfl w.heap.size 9 i0 (.string ⟨#[]⟩) 1 16 Tryz.underlying22 hi hz0 hz1 hz2 rfl (by decide) _ _ _ rfl (hown3.alloc _) ⟨w3.heap.size,0,none⟩ 1 1 c' rfl (by rw [hlen']) (zb8 _ _ _) hone' ?_ ?_ ?_ ?_))
   all_goals (try (first |(rw [HK.out.1];unfold maxLen;omega) |(rw [HK.out.1];omega) |(simp;omega)))
   intro v' w5 hown' hgrow _ hloc
   have e9:min j l.length=j:=by omega
   rw [e9] at hown'
   have e10:=hown'
   rw [← HK.out.1] at e10
   have acc:AccE za0 9 w ((l.take (j+1)).map tell) v' w5:=by
    rw [HK.out.2]
    exact AccE.next HY.out.1 HY.out.2.1 HY.out.2.2.1 HX.out.1 HY.out.2.2.2.1 HY.out.2.2.2.2 e10 hgrow (by simpa using hloc)
   have ACC:=Lib.hid acc
   clear acc hown' hgrow hloc hown3 HY HX
   go_wp2_with fail
   go_roundg (gk - 1)
   case measure=>omega
   case rel=>exact ⟨j+1,by omega,by go_num,ACC⟩
  ·have e:l.take j=l:=by rw [List.take_of_length_le];have:=HL.out;omega
   have hA:=HA.out
   rw [e] at hA
   obtain ⟨⟨xs,hown,hrow⟩,hbel⟩:=hA
   have HX:=Lib.hid (And.intro hown (And.intro hrow hbel))
   clear hown hrow hbel HA
   go_wp2_with fail
   go_ret
   exact ⟨_,xs,rfl,HX.out.1,HX.out.2.1,HX.out.2.2⟩
set_option maxHeartbeats 3200000 in
set_option maxRecDepth 20000 in
theorem map103 (tell:(List Val)→(List Val)) (l:List (List Val)) (v:Value) (w:World) (h:zaf rowE w (Old w) v l) (hn:l.length≤2097152)
 (each:∀ x∈l,∀ W u,Below w.heap.size w W→rowE.rel W (Old W) [u] x→Calls Tryz.prog 104 #[u] W (zb0 rowE (tell x) W)):
 Calls Tryz.prog 103 #[v,.func (.func 104) #[] #[]] w (za8 rowE 43 w (l.map tell)):=by
 obtain ⟨n,hln⟩:∃ n,n=l.length:=⟨_,rfl⟩
 obtain ⟨p,cap,rfl⟩:=h.slice
 rw [← hln] at hn
 obtain ⟨i0,hi,hz0,hz1,hz2⟩:=info_parts zfb
 have hgrow:=zo4 n (by omega) w
 have HL:=Lib.hid hln
 have HH:=Lib.hid h
 have HE:=Lib.hid each
 have HG:=Lib.hid hgrow
 rw [← hln]
 clear h hln each hgrow
 go_enter Tryz.func103,Tryz.ntmps103
 go_wp2_with (first
  |(go_at_call 132;(with_reducible refine HG.out.mono ?_);rintro e w1 ⟨v1,rfl,ho1,hb1⟩))
 have ACC0:=Lib.hid (AccE.startOwn rowE 43 ho1 hb1)
 clear ho1 hb1
 go_loopg [5,13] n (fun gg s5 s13 wr=>∃ j:Nat,j+gg=n∧s13=.int .i64 j∧Hid (AccE rowE 43 w ((l.take j).map tell) s5 wr))
 case atStart=>exact ⟨0,by omega,rfl,ACC0⟩
 case round=>
  clear ACC0
  obtain ⟨j,hjg,rfl,HA⟩:=hrel
  by_cases hlt:(j:Int) < n
  ·have hj1:j < l.length:=by have:=HL.out;omega
   have hbel:=HA.out.bel
   obtain ⟨g,off,cap',c,e0,hg,hrl,hra⟩:=(HH.out.stays (zad hbel)).at_ j hj1
   injection e0 with e1 e2 e3
   subst e1
   replace hra:wr.rangeAt g (off+j*1) c:=hra
   have hlen:c.length=1:=rowE.len hrl
   have hjl:((l.take j).map tell).length=j:=by rw [List.length_map,List.length_take];omega
   have etk:(l.take (j+1)).map tell=(l.take j).map tell++[tell l[j]]:=by rw [List.take_succ_eq_append_getElem hj1,List.map_append];rfl
   have hbs:=hbel.size
   obtain ⟨u,rfl⟩:∃ u,c=[u]:=by obtain ⟨v,rfl,_⟩:=id hrl;exact ⟨v,rfl⟩
   have c0:wr.cell? ⟨g,off+j,none⟩=some u:=by
    have:=hra 0 _ rfl
    simpa using this
   have bX:Below wr.heap.size wr wr:=Below.refl _ _
   have hcall:=HE.out l[j] (List.getElem_mem hj1) wr u hbel hrl
   have HX:=Lib.hid (And.intro bX hbel)
   have HK:=Lib.hid (And.intro hjl etk)
   clear hra hjl etk e2 e3 hbel bX
   go_wp2_with (first
    |(go_at_call 104;(with_reducible refine hcall.mono ?_);rintro e w3 ⟨u2,c',rfl,hu,hc',b3⟩
      obtain ⟨⟨xs,hown,hrow⟩,hbel⟩:=HA.out
      replace hown:wr.ownsRow w.heap.size 43 1 _ _ xs:=hown
      have hown3:=za6 (za6 hown HX.out.1) b3
      have hlen':c'.length=1:=rowE.len hc'
      have hone':=rowE.one hc'
      have hsX:=HX.out.1.size
      have hs3:=b3.size
      have HY:=Lib.hid (And.intro hown (And.intro hrow (And.intro hbel (And.intro b3 hc'))))
      clear hown hrow hbel b3 hc' HA hcall)
    |((with_reducible refine zbq ?_ 23 43 (.tmp 20) ?_ u2 c' ?_ hu i0 _ 1 hlen' (by omega) (by omega) Tryz.underlying23 hi hz0 hz1 ?_);rfl;rfl;rfl)
    |(at_builtin;refine wpList_append_own_at _ rfl _ _ 23 rfl w.heap.size 43 i0 (.slice none 0 0) 1 24 Tryz.underlying23 hi hz0 hz1 hz2 rfl (by decide) _ _ _ rfl (hown3.alloc _) ⟨w3.heap.size,0,none⟩ 1 1 c' rfl (by rw [hlen']) (zb8 _ _ _) hone' ?_ ?_ ?_ ?_))
   all_goals (try (first |(rw [HK.out.1];unfold maxLen;omega) |(rw [HK.out.1];omega) |(simp;omega)))
   intro v' w5 hown' hgrow _ hloc
   have e9:min j l.length=j:=by omega
   rw [e9] at hown'
   have e10:=hown'
   rw [← HK.out.1] at e10
   have acc:AccE rowE 43 w ((l.take (j+1)).map tell) v' w5:=by
    rw [HK.out.2]
    exact AccE.next HY.out.1 HY.out.2.1 HY.out.2.2.1 HX.out.1 HY.out.2.2.2.1 HY.out.2.2.2.2 e10 hgrow (by simpa using hloc)
   have ACC:=Lib.hid acc
   clear acc hown' hgrow hloc hown3 HY HX
   go_wp2_with fail
   go_roundg (gk - 1)
   case measure=>omega
   case rel=>exact ⟨j+1,by omega,by go_num,ACC⟩
  ·have e:l.take j=l:=by rw [List.take_of_length_le];have:=HL.out;omega
   have hA:=HA.out
   rw [e] at hA
   obtain ⟨⟨xs,hown,hrow⟩,hbel⟩:=hA
   have HX:=Lib.hid (And.intro hown (And.intro hrow hbel))
   clear hown hrow hbel HA
   go_wp2_with fail
   go_ret
   exact ⟨_,xs,rfl,HX.out.1,HX.out.2.1,HX.out.2.2⟩
set_option maxHeartbeats 3200000 in
set_option maxRecDepth 20000 in
theorem map103p (B:Value) (tell:(List Val)→(List Val)) (l:List (List Val)) (v:Value) (w:World) (h:zaf rowE w (Old w) v l) (hn:l.length≤2097152)
 (each:∀ x∈l,∀ W u,Below w.heap.size w W→rowE.rel W (Old W) [u] x→Calls Tryz.prog 113 #[u,B] W (zb0 rowE (tell x) W)):
 Calls Tryz.prog 103 #[v,.func (.func 113) #[] #[B]] w (za8 rowE 43 w (l.map tell)):=by
 obtain ⟨n,hln⟩:∃ n,n=l.length:=⟨_,rfl⟩
 obtain ⟨p,cap,rfl⟩:=h.slice
 rw [← hln] at hn
 obtain ⟨i0,hi,hz0,hz1,hz2⟩:=info_parts zfb
 have hgrow:=zo4 n (by omega) w
 have HL:=Lib.hid hln
 have HH:=Lib.hid h
 have HE:=Lib.hid each
 have HG:=Lib.hid hgrow
 rw [← hln]
 clear h hln each hgrow
 go_enter Tryz.func103,Tryz.ntmps103
 go_wp2_with (first
  |(go_at_call 132;(with_reducible refine HG.out.mono ?_);rintro e w1 ⟨v1,rfl,ho1,hb1⟩))
 have ACC0:=Lib.hid (AccE.startOwn rowE 43 ho1 hb1)
 clear ho1 hb1
 go_loopg [5,13] n (fun gg s5 s13 wr=>∃ j:Nat,j+gg=n∧s13=.int .i64 j∧Hid (AccE rowE 43 w ((l.take j).map tell) s5 wr))
 case atStart=>exact ⟨0,by omega,rfl,ACC0⟩
 case round=>
  clear ACC0
  obtain ⟨j,hjg,rfl,HA⟩:=hrel
  by_cases hlt:(j:Int) < n
  ·have hj1:j < l.length:=by have:=HL.out;omega
   have hbel:=HA.out.bel
   obtain ⟨g,off,cap',c,e0,hg,hrl,hra⟩:=(HH.out.stays (zad hbel)).at_ j hj1
   injection e0 with e1 e2 e3
   subst e1
   replace hra:wr.rangeAt g (off+j*1) c:=hra
   have hlen:c.length=1:=rowE.len hrl
   have hjl:((l.take j).map tell).length=j:=by rw [List.length_map,List.length_take];omega
   have etk:(l.take (j+1)).map tell=(l.take j).map tell++[tell l[j]]:=by rw [List.take_succ_eq_append_getElem hj1,List.map_append];rfl
   have hbs:=hbel.size
   obtain ⟨u,rfl⟩:∃ u,c=[u]:=by obtain ⟨v,rfl,_⟩:=id hrl;exact ⟨v,rfl⟩
   have c0:wr.cell? ⟨g,off+j,none⟩=some u:=by
    have:=hra 0 _ rfl
    simpa using this
   have bX:Below wr.heap.size wr wr:=Below.refl _ _
   have hcall:=HE.out l[j] (List.getElem_mem hj1) wr u hbel hrl
   have HX:=Lib.hid (And.intro bX hbel)
   have HK:=Lib.hid (And.intro hjl etk)
   clear hra hjl etk e2 e3 hbel bX
   go_wp2_with (first
    |(go_at_call 113;(with_reducible refine hcall.mono ?_);rintro e w3 ⟨u2,c',rfl,hu,hc',b3⟩
      obtain ⟨⟨xs,hown,hrow⟩,hbel⟩:=HA.out
      replace hown:wr.ownsRow w.heap.size 43 1 _ _ xs:=hown
      have hown3:=za6 (za6 hown HX.out.1) b3
      have hlen':c'.length=1:=rowE.len hc'
      have hone':=rowE.one hc'
      have hsX:=HX.out.1.size
      have hs3:=b3.size
      have HY:=Lib.hid (And.intro hown (And.intro hrow (And.intro hbel (And.intro b3 hc'))))
      clear hown hrow hbel b3 hc' HA hcall)
    |((with_reducible refine zbq ?_ 23 43 (.tmp 20) ?_ u2 c' ?_ hu i0 _ 1 hlen' (by omega) (by omega) Tryz.underlying23 hi hz0 hz1 ?_);rfl;rfl;rfl)
    |(at_builtin;refine wpList_append_own_at _ rfl _ _ 23 rfl w.heap.size 43 i0 (.slice none 0 0) 1 24 Tryz.underlying23 hi hz0 hz1 hz2 rfl (by decide) _ _ _ rfl (hown3.alloc _) ⟨w3.heap.size,0,none⟩ 1 1 c' rfl (by rw [hlen']) (zb8 _ _ _) hone' ?_ ?_ ?_ ?_))
   all_goals (try (first |(rw [HK.out.1];unfold maxLen;omega) |(rw [HK.out.1];omega) |(simp;omega)))
   intro v' w5 hown' hgrow _ hloc
   have e9:min j l.length=j:=by omega
   rw [e9] at hown'
   have e10:=hown'
   rw [← HK.out.1] at e10
   have acc:AccE rowE 43 w ((l.take (j+1)).map tell) v' w5:=by
    rw [HK.out.2]
    exact AccE.next HY.out.1 HY.out.2.1 HY.out.2.2.1 HX.out.1 HY.out.2.2.2.1 HY.out.2.2.2.2 e10 hgrow (by simpa using hloc)
   have ACC:=Lib.hid acc
   clear acc hown' hgrow hloc hown3 HY HX
   go_wp2_with fail
   go_roundg (gk - 1)
   case measure=>omega
   case rel=>exact ⟨j+1,by omega,by go_num,ACC⟩
  ·have e:l.take j=l:=by rw [List.take_of_length_le];have:=HL.out;omega
   have hA:=HA.out
   rw [e] at hA
   obtain ⟨⟨xs,hown,hrow⟩,hbel⟩:=hA
   have HX:=Lib.hid (And.intro hown (And.intro hrow hbel))
   clear hown hrow hbel HA
   go_wp2_with fail
   go_ret
   exact ⟨_,xs,rfl,HX.out.1,HX.out.2.1,HX.out.2.2⟩
set_option maxHeartbeats 3200000 in
set_option maxRecDepth 20000 in
theorem map169 (B:Value) (tell:ByteArray→Int) (l:List ByteArray) (v:Value) (w:World) (h:zaf za0 w (Old w) v l) (hn:l.length≤2097152)
 (each:∀ x∈l,∀ W c,Below w.heap.size w W→za0.rel W (Old W) c x→Calls Tryz.prog 170 #[.string x,B] W (zb0 intE (tell x) W)):
 Calls Tryz.prog 169 #[v,.func (.func 170) #[] #[B]] w (za8 intE 3 w (l.map tell)):=by
 obtain ⟨n,hln⟩:∃ n,n=l.length:=⟨_,rfl⟩
 obtain ⟨p,cap,rfl⟩:=h.slice
 rw [← hln] at hn
 obtain ⟨i0,hi,hz0,hz1,hz2⟩:=info_parts zd3
 have hgrow:=zuv n (by omega) w
 have HL:=Lib.hid hln
 have HH:=Lib.hid h
 have HE:=Lib.hid each
 have HG:=Lib.hid hgrow
 rw [← hln]
 clear h hln each hgrow
 go_enter Tryz.func169,Tryz.ntmps169
 go_wp2_with (first
  |(go_at_call 210;(with_reducible refine HG.out.mono ?_);rintro e w1 ⟨v1,rfl,ho1,hb1⟩))
 have ACC0:=Lib.hid (AccE.startOwn intE 3 ho1 hb1)
 clear ho1 hb1
 go_loopg [5,13] n (fun gg s5 s13 wr=>∃ j:Nat,j+gg=n∧s13=.int .i64 j∧Hid (AccE intE 3 w ((l.take j).map tell) s5 wr))
 case atStart=>exact ⟨0,by omega,rfl,ACC0⟩
 case round=>
  clear ACC0
  obtain ⟨j,hjg,rfl,HA⟩:=hrel
  by_cases hlt:(j:Int) < n
  ·have hj1:j < l.length:=by have:=HL.out;omega
   have hbel:=HA.out.bel
   obtain ⟨g,off,cap',c,e0,hg,hrl,hra⟩:=(HH.out.stays (zad hbel)).at_ j hj1
   injection e0 with e1 e2 e3
   subst e1
   replace hra:wr.rangeAt g (off+j*1) c:=hra
   have hlen:c.length=1:=za0.len hrl
   have hjl:((l.take j).map tell).length=j:=by rw [List.length_map,List.length_take];omega
   have etk:(l.take (j+1)).map tell=(l.take j).map tell++[tell l[j]]:=by rw [List.take_succ_eq_append_getElem hj1,List.map_append];rfl
   have hbs:=hbel.size
   obtain ⟨rfl,hwf⟩:=hrl
   have c0:wr.cell? ⟨g,off+j,none⟩=some (.string l[j]):=by
    have:=hra 0 _ rfl
    simpa using this
   have bX:Below wr.heap.size wr wr:=Below.refl _ _
   have hcall:=HE.out l[j] (List.getElem_mem hj1) wr _ hbel ⟨rfl,hwf⟩
   have HX:=Lib.hid (And.intro bX hbel)
   have HK:=Lib.hid (And.intro hjl etk)
   clear hra hjl etk e2 e3 hbel bX
   go_wp2_with (first
    |(go_at_call 170;(with_reducible refine hcall.mono ?_);rintro e w3 ⟨u2,c',rfl,hu,hc',b3⟩
      obtain ⟨⟨xs,hown,hrow⟩,hbel⟩:=HA.out
      replace hown:wr.ownsRow w.heap.size 3 1 _ _ xs:=hown
      have hown3:=za6 (za6 hown HX.out.1) b3
      have hlen':c'.length=1:=intE.len hc'
      have hone':=intE.one hc'
      have hsX:=HX.out.1.size
      have hs3:=b3.size
      have HY:=Lib.hid (And.intro hown (And.intro hrow (And.intro hbel (And.intro b3 hc'))))
      clear hown hrow hbel b3 hc' HA hcall)
    |((with_reducible refine zbq ?_ 26 3 (.tmp 20) ?_ u2 c' ?_ hu i0 _ 1 hlen' (by omega) (by omega) Tryz.underlying26 hi hz0 hz1 ?_);rfl;rfl;rfl)
    |(at_builtin;refine wpList_append_own_at _ rfl _ _ 26 rfl w.heap.size 3 i0 (.int .i64 0) 1 8 Tryz.underlying26 hi hz0 hz1 hz2 rfl (by decide) _ _ _ rfl (hown3.alloc _) ⟨w3.heap.size,0,none⟩ 1 1 c' rfl (by rw [hlen']) (zb8 _ _ _) hone' ?_ ?_ ?_ ?_))
   all_goals (try (first |(rw [HK.out.1];unfold maxLen;omega) |(rw [HK.out.1];omega) |(simp;omega)))
   intro v' w5 hown' hgrow _ hloc
   have e9:min j l.length=j:=by omega
   rw [e9] at hown'
   have e10:=hown'
   rw [← HK.out.1] at e10
   have acc:AccE intE 3 w ((l.take (j+1)).map tell) v' w5:=by
    rw [HK.out.2]
    exact AccE.next HY.out.1 HY.out.2.1 HY.out.2.2.1 HX.out.1 HY.out.2.2.2.1 HY.out.2.2.2.2 e10 hgrow (by simpa using hloc)
   have ACC:=Lib.hid acc
   clear acc hown' hgrow hloc hown3 HY HX
   go_wp2_with fail
   go_roundg (gk - 1)
   case measure=>omega
   case rel=>exact ⟨j+1,by omega,by go_num,ACC⟩
  ·have e:l.take j=l:=by rw [List.take_of_length_le];have:=HL.out;omega
   have hA:=HA.out
   rw [e] at hA
   obtain ⟨⟨xs,hown,hrow⟩,hbel⟩:=hA
   have HX:=Lib.hid (And.intro hown (And.intro hrow hbel))
   clear hown hrow hbel HA
   go_wp2_with fail
   go_ret
   exact ⟨_,xs,rfl,HX.out.1,HX.out.2.1,HX.out.2.2⟩
set_option maxHeartbeats 3200000 in
set_option maxRecDepth 20000 in
theorem map122 (B B2:Value) (tell:ByteArray→(Int × Int)) (l:List ByteArray) (v:Value) (w:World) (h:zaf za0 w (Old w) v l) (hn:l.length≤2097152)
 (each:∀ x∈l,∀ W c,Below w.heap.size w W→za0.rel W (Old W) c x→Calls Tryz.prog 123 #[.string x,B,B2] W (zb0 srcE (tell x) W)):
 Calls Tryz.prog 122 #[v,.func (.func 123) #[] #[B,B2]] w (za8 srcE 138 w (l.map tell)):=by
 obtain ⟨n,hln⟩:∃ n,n=l.length:=⟨_,rfl⟩
 obtain ⟨p,cap,rfl⟩:=h.slice
 rw [← hln] at hn
 obtain ⟨i0,hi,hz0,hz1,hz2⟩:=info_parts zo3
 have hgrow:=zuu n (by omega) w
 have HL:=Lib.hid hln
 have HH:=Lib.hid h
 have HE:=Lib.hid each
 have HG:=Lib.hid hgrow
 rw [← hln]
 clear h hln each hgrow
 go_enter Tryz.func122,Tryz.ntmps122
 go_wp2_with (first
  |(go_at_call 173;(with_reducible refine HG.out.mono ?_);rintro e w1 ⟨v1,rfl,ho1,hb1⟩))
 have ACC0:=Lib.hid (AccE.startOwn srcE 138 ho1 hb1)
 clear ho1 hb1
 go_loopg [5,13] n (fun gg s5 s13 wr=>∃ j:Nat,j+gg=n∧s13=.int .i64 j∧Hid (AccE srcE 138 w ((l.take j).map tell) s5 wr))
 case atStart=>exact ⟨0,by omega,rfl,ACC0⟩
 case round=>
  clear ACC0
  obtain ⟨j,hjg,rfl,HA⟩:=hrel
  by_cases hlt:(j:Int) < n
  ·have hj1:j < l.length:=by have:=HL.out;omega
   have hbel:=HA.out.bel
   obtain ⟨g,off,cap',c,e0,hg,hrl,hra⟩:=(HH.out.stays (zad hbel)).at_ j hj1
   injection e0 with e1 e2 e3
   subst e1
   replace hra:wr.rangeAt g (off+j*1) c:=hra
   have hlen:c.length=1:=za0.len hrl
   have hjl:((l.take j).map tell).length=j:=by rw [List.length_map,List.length_take];omega
   have etk:(l.take (j+1)).map tell=(l.take j).map tell++[tell l[j]]:=by rw [List.take_succ_eq_append_getElem hj1,List.map_append];rfl
   have hbs:=hbel.size
   obtain ⟨rfl,hwf⟩:=hrl
   have c0:wr.cell? ⟨g,off+j,none⟩=some (.string l[j]):=by
    have:=hra 0 _ rfl
    simpa using this
   have bX:Below wr.heap.size wr wr:=Below.refl _ _
   have hcall:=HE.out l[j] (List.getElem_mem hj1) wr _ hbel ⟨rfl,hwf⟩
   have HX:=Lib.hid (And.intro bX hbel)
   have HK:=Lib.hid (And.intro hjl etk)
   clear hra hjl etk e2 e3 hbel bX
   go_wp2_with (first
    |(go_at_call 123;(with_reducible refine hcall.mono ?_);rintro e w3 ⟨u2,c',rfl,hu,hc',b3⟩
      obtain ⟨⟨xs,hown,hrow⟩,hbel⟩:=HA.out
      replace hown:wr.ownsRow w.heap.size 138 2 _ _ xs:=hown
      have hown3:=za6 (za6 hown HX.out.1) b3
      have hlen':c'.length=2:=srcE.len hc'
      have hone':=srcE.one hc'
      have hsX:=HX.out.1.size
      have hs3:=b3.size
      have HY:=Lib.hid (And.intro hown (And.intro hrow (And.intro hbel (And.intro b3 hc'))))
      clear hown hrow hbel b3 hc' HA hcall)
    |((with_reducible refine zbq ?_ 84 138 (.tmp 20) ?_ u2 c' ?_ hu i0 _ 2 hlen' (by omega) (by omega) Tryz.underlying84 hi hz0 hz1 ?_);rfl;rfl;rfl)
    |(at_builtin;refine wpList_append_own_at _ rfl _ _ 84 rfl w.heap.size 138 i0 (.agg #[.int .i64 0,.int .i64 0]) 2 16 Tryz.underlying84 hi hz0 hz1 hz2 rfl (by decide) _ _ _ rfl (hown3.alloc _) ⟨w3.heap.size,0,none⟩ 1 1 c' rfl (by rw [hlen']) (zb8 _ _ _) hone' ?_ ?_ ?_ ?_))
   all_goals (try (first |(rw [HK.out.1];unfold maxLen;omega) |(rw [HK.out.1];omega) |(simp;omega)))
   intro v' w5 hown' hgrow _ hloc
   have e9:min j l.length=j:=by omega
   rw [e9] at hown'
   have e10:=hown'
   rw [← HK.out.1] at e10
   have acc:AccE srcE 138 w ((l.take (j+1)).map tell) v' w5:=by
    rw [HK.out.2]
    exact AccE.next HY.out.1 HY.out.2.1 HY.out.2.2.1 HX.out.1 HY.out.2.2.2.1 HY.out.2.2.2.2 e10 hgrow (by simpa using hloc)
   have ACC:=Lib.hid acc
   clear acc hown' hgrow hloc hown3 HY HX
   go_wp2_with fail
   go_roundg (gk - 1)
   case measure=>omega
   case rel=>exact ⟨j+1,by omega,by go_num,ACC⟩
  ·have e:l.take j=l:=by rw [List.take_of_length_le];have:=HL.out;omega
   have hA:=HA.out
   rw [e] at hA
   obtain ⟨⟨xs,hown,hrow⟩,hbel⟩:=hA
   have HX:=Lib.hid (And.intro hown (And.intro hrow hbel))
   clear hown hrow hbel HA
   go_wp2_with fail
   go_ret
   exact ⟨_,xs,rfl,HX.out.1,HX.out.2.1,HX.out.2.2⟩
set_option maxHeartbeats 3200000 in
set_option maxRecDepth 20000 in
theorem map114p (B:Value) (tell:Int→Val) (l:List Int) (v:Value) (w:World) (h:zaf intE w (Old w) v l) (hn:l.length≤2097152)
 (each:∀ x∈l,∀ W c,Below w.heap.size w W→intE.rel W (Old W) c x→Calls Tryz.prog 115 #[.int .i64 x,B] W (zb0 valE (tell x) W)):
 Calls Tryz.prog 114 #[v,.func (.func 115) #[] #[B]] w (za8 valE 48 w (l.map tell)):=by
 obtain ⟨n,hln⟩:∃ n,n=l.length:=⟨_,rfl⟩
 obtain ⟨p,cap,rfl⟩:=h.slice
 rw [← hln] at hn
 obtain ⟨i0,hi,hz0,hz1,hz2⟩:=info_parts zfa
 have hgrow:=zgy n (by omega) w
 have HL:=Lib.hid hln
 have HH:=Lib.hid h
 have HE:=Lib.hid each
 have HG:=Lib.hid hgrow
 rw [← hln]
 clear h hln each hgrow
 go_enter Tryz.func114,Tryz.ntmps114
 go_wp2_with (first
  |(go_at_call 171;(with_reducible refine HG.out.mono ?_);rintro e w1 ⟨v1,rfl,ho1,hb1⟩))
 have ACC0:=Lib.hid (AccE.startOwn valE 48 ho1 hb1)
 clear ho1 hb1
 go_loopg [5,13] n (fun gg s5 s13 wr=>∃ j:Nat,j+gg=n∧s13=.int .i64 j∧Hid (AccE valE 48 w ((l.take j).map tell) s5 wr))
 case atStart=>exact ⟨0,by omega,rfl,ACC0⟩
 case round=>
  clear ACC0
  obtain ⟨j,hjg,rfl,HA⟩:=hrel
  by_cases hlt:(j:Int) < n
  ·have hj1:j < l.length:=by have:=HL.out;omega
   have hbel:=HA.out.bel
   obtain ⟨g,off,cap',c,e0,hg,hrl,hra⟩:=(HH.out.stays (zad hbel)).at_ j hj1
   injection e0 with e1 e2 e3
   subst e1
   replace hra:wr.rangeAt g (off+j*1) c:=hra
   have hlen:c.length=1:=intE.len hrl
   have hjl:((l.take j).map tell).length=j:=by rw [List.length_map,List.length_take];omega
   have etk:(l.take (j+1)).map tell=(l.take j).map tell++[tell l[j]]:=by rw [List.take_succ_eq_append_getElem hj1,List.map_append];rfl
   have hbs:=hbel.size
   obtain ⟨rfl,hwf⟩:=hrl
   have c0:wr.cell? ⟨g,off+j,none⟩=some (.int .i64 l[j]):=by
    have:=hra 0 _ rfl
    simpa using this
   have bX:Below wr.heap.size wr wr:=Below.refl _ _
   have hcall:=HE.out l[j] (List.getElem_mem hj1) wr _ hbel ⟨rfl,hwf⟩
   have HX:=Lib.hid (And.intro bX hbel)
   have HK:=Lib.hid (And.intro hjl etk)
   clear hra hjl etk e2 e3 hbel bX
   go_wp2_with (first
    |(go_at_call 115;(with_reducible refine hcall.mono ?_);rintro e w3 ⟨u2,c',rfl,hu,hc',b3⟩
      obtain ⟨⟨xs,hown,hrow⟩,hbel⟩:=HA.out
      replace hown:wr.ownsRow w.heap.size 48 6 _ _ xs:=hown
      have hown3:=za6 (za6 hown HX.out.1) b3
      have hlen':c'.length=6:=valE.len hc'
      have hone':=valE.one hc'
      have hsX:=HX.out.1.size
      have hs3:=b3.size
      have HY:=Lib.hid (And.intro hown (And.intro hrow (And.intro hbel (And.intro b3 hc'))))
      clear hown hrow hbel b3 hc' HA hcall)
    |((with_reducible refine zbq ?_ 43 48 (.tmp 20) ?_ u2 c' ?_ hu i0 _ 6 hlen' (by omega) (by omega) Tryz.underlying43 hi hz0 hz1 ?_);rfl;rfl;rfl)
    |(at_builtin;refine wpList_append_own_at _ rfl _ _ 43 rfl w.heap.size 48 i0 (.agg #[.int .i64 0,.bool false,.int .i64 0,.string ⟨#[]⟩,.string ⟨#[]⟩,.slice none 0 0]) 6 80 Tryz.underlying43 hi hz0 hz1 hz2 rfl (by decide) _ _ _ rfl (hown3.alloc _) ⟨w3.heap.size,0,none⟩ 1 1 c' rfl (by rw [hlen']) (zb8 _ _ _) hone' ?_ ?_ ?_ ?_))
   all_goals (try (first |(rw [HK.out.1];unfold maxLen;omega) |(rw [HK.out.1];omega) |(simp;omega)))
   intro v' w5 hown' hgrow _ hloc
   have e9:min j l.length=j:=by omega
   rw [e9] at hown'
   have e10:=hown'
   rw [← HK.out.1] at e10
   have acc:AccE valE 48 w ((l.take (j+1)).map tell) v' w5:=by
    rw [HK.out.2]
    exact AccE.next HY.out.1 HY.out.2.1 HY.out.2.2.1 HX.out.1 HY.out.2.2.2.1 HY.out.2.2.2.2 e10 hgrow (by simpa using hloc)
   have ACC:=Lib.hid acc
   clear acc hown' hgrow hloc hown3 HY HX
   go_wp2_with fail
   go_roundg (gk - 1)
   case measure=>omega
   case rel=>exact ⟨j+1,by omega,by go_num,ACC⟩
  ·have e:l.take j=l:=by rw [List.take_of_length_le];have:=HL.out;omega
   have hA:=HA.out
   rw [e] at hA
   obtain ⟨⟨xs,hown,hrow⟩,hbel⟩:=hA
   have HX:=Lib.hid (And.intro hown (And.intro hrow hbel))
   clear hown hrow hbel HA
   go_wp2_with fail
   go_ret
   exact ⟨_,xs,rfl,HX.out.1,HX.out.2.1,HX.out.2.2⟩
set_option maxHeartbeats 3200000 in
set_option maxRecDepth 20000 in
theorem map130 (B B2:Value) (tell:(Int × Int)→Val) (l:List (Int × Int)) (v:Value) (w:World) (h:zaf srcE w (Old w) v l) (hn:l.length≤2097152)
 (each:∀ x∈l,∀ W c,Below w.heap.size w W→srcE.rel W (Old W) c x→Calls Tryz.prog 131 #[.agg c.toArray,B,B2] W (zb0 valE (tell x) W)):
 Calls Tryz.prog 130 #[v,.func (.func 131) #[] #[B,B2]] w (za8 valE 48 w (l.map tell)):=by
 obtain ⟨n,hln⟩:∃ n,n=l.length:=⟨_,rfl⟩
 obtain ⟨p,cap,rfl⟩:=h.slice
 rw [← hln] at hn
 obtain ⟨i0,hi,hz0,hz1,hz2⟩:=info_parts zfa
 have hgrow:=zgy n (by omega) w
 have HL:=Lib.hid hln
 have HH:=Lib.hid h
 have HE:=Lib.hid each
 have HG:=Lib.hid hgrow
 rw [← hln]
 clear h hln each hgrow
 go_enter Tryz.func130,Tryz.ntmps130
 go_wp2_with (first
  |(go_at_call 171;(with_reducible refine HG.out.mono ?_);rintro e w1 ⟨v1,rfl,ho1,hb1⟩))
 have ACC0:=Lib.hid (AccE.startOwn valE 48 ho1 hb1)
 clear ho1 hb1
 go_loopg [5,13] n (fun gg s5 s13 wr=>∃ j:Nat,j+gg=n∧s13=.int .i64 j∧Hid (AccE valE 48 w ((l.take j).map tell) s5 wr))
 case atStart=>exact ⟨0,by omega,rfl,ACC0⟩
 case round=>
  clear ACC0
  obtain ⟨j,hjg,rfl,HA⟩:=hrel
  by_cases hlt:(j:Int) < n
  ·have hj1:j < l.length:=by have:=HL.out;omega
   have hbel:=HA.out.bel
   obtain ⟨g,off,cap',c,e0,hg,hrl,hra⟩:=(HH.out.stays (zad hbel)).at_ j hj1
   injection e0 with e1 e2 e3
   subst e1
   replace hra:wr.rangeAt g (off+j*2) c:=hra
   have hlen:c.length=2:=srcE.len hrl
   have hjl:((l.take j).map tell).length=j:=by rw [List.length_map,List.length_take];omega
   have etk:(l.take (j+1)).map tell=(l.take j).map tell++[tell l[j]]:=by rw [List.take_succ_eq_append_getElem hj1,List.map_append];rfl
   have hbs:=hbel.size
   have hone:=srcE.one hrl
   have HR:=Lib.hid (And.intro hrl hra)
   have HK:=Lib.hid (And.intro hjl etk)
   clear hrl hra hjl etk e2 e3 hbel
   go_upto_region 5 with (first
    |((with_reducible refine zax (.tmp 15) g (off+j*2) 138 c 2 _ HR.out.2 hlen Tryz.underlying138 rfl zfc ?_ ?_ ?_ ?_);rfl;rfl;rfl)
    |((with_reducible refine zas (.tmp 7) (.tmp 16) wr.heap.size 138 138 _ c 2 (zah _ _ rfl) hlen ?_ ?_ ?_ ?_ zfc rfl hone ?_);rfl;rfl;rfl;rfl;intro wX oX hX))
   have bX:Below wr.heap.size wr wX:=zam (zaz wr _) oX (Nat.le_refl _) (by simp)
   have bWX:Below w.heap.size w wX:=HA.out.bel.trans (bX.mono hbs)
   have hcall:=HE.out l[j] (List.getElem_mem hj1) wX c bWX (srcE.stays (zad bX) HR.out.1)
   have HX:=Lib.hid (And.intro bX bWX)
   clear oX bX bWX
   go_wp2_with (first
    |((with_reducible refine zag (.tmp 7) wr.heap.size 138 138 c 2 _ hX hlen Tryz.underlying138 rfl zfc ?_ ?_ ?_ ?_);rfl;rfl;rfl)
    |(go_at_call 131;(with_reducible refine hcall.mono ?_);rintro e w3 ⟨u2,c',rfl,hu,hc',b3⟩
      obtain ⟨⟨xs,hown,hrow⟩,hbel⟩:=HA.out
      replace hown:wr.ownsRow w.heap.size 48 6 _ _ xs:=hown
      have hown3:=za6 (za6 hown HX.out.1) b3
      have hlen':c'.length=6:=valE.len hc'
      have hone':=valE.one hc'
      have hsX:=HX.out.1.size
      have hs3:=b3.size
      have HY:=Lib.hid (And.intro hown (And.intro hrow (And.intro hbel (And.intro b3 hc'))))
      clear hown hrow hbel b3 hc' HA hcall)
    |((with_reducible refine zbq ?_ 43 48 (.tmp 20) ?_ u2 c' ?_ hu i0 _ 6 hlen' (by omega) (by omega) Tryz.underlying43 hi hz0 hz1 ?_);rfl;rfl;rfl)
    |(at_builtin;refine wpList_append_own_at _ rfl _ _ 43 rfl w.heap.size 48 i0 (.agg #[.int .i64 0,.bool false,.int .i64 0,.string ⟨#[]⟩,.string ⟨#[]⟩,.slice none 0 0]) 6 80 Tryz.underlying43 hi hz0 hz1 hz2 rfl (by decide) _ _ _ rfl (hown3.alloc _) ⟨w3.heap.size,0,none⟩ 1 1 c' rfl (by rw [hlen']) (zb8 _ _ _) hone' ?_ ?_ ?_ ?_))
   all_goals (try (first |(rw [HK.out.1];unfold maxLen;omega) |(rw [HK.out.1];omega) |(simp;omega)))
   intro v' w5 hown' hgrow _ hloc
   have e9:min j l.length=j:=by omega
   rw [e9] at hown'
   have e10:=hown'
   rw [← HK.out.1] at e10
   have acc:AccE valE 48 w ((l.take (j+1)).map tell) v' w5:=by
    rw [HK.out.2]
    exact AccE.next HY.out.1 HY.out.2.1 HY.out.2.2.1 HX.out.1 HY.out.2.2.2.1 HY.out.2.2.2.2 e10 hgrow (by simpa using hloc)
   have ACC:=Lib.hid acc
   clear acc hown' hgrow hloc hown3 HY HX
   go_wp2_with fail
   go_roundg (gk - 1)
   case measure=>omega
   case rel=>exact ⟨j+1,by omega,by go_num,ACC⟩
  ·have e:l.take j=l:=by rw [List.take_of_length_le];have:=HL.out;omega
   have hA:=HA.out
   rw [e] at hA
   obtain ⟨⟨xs,hown,hrow⟩,hbel⟩:=hA
   have HX:=Lib.hid (And.intro hown (And.intro hrow hbel))
   clear hown hrow hbel HA
   go_wp2_with fail
   go_ret
   exact ⟨_,xs,rfl,HX.out.1,HX.out.2.1,HX.out.2.2⟩
end YteclpnfckjfibaaGreatDoor
end Go.Proofs
