/- Texts of one kind, one behind the other: each says ahead of itself what it shows. -/
import Derived.Test.YtanbgdhmfjgihaaGreatDoorUba
namespace Go.Proofs.YtanbgdhmfjgihaaGreatDoor
open Go.RowKit
set_option maxHeartbeats 12800000
set_option maxRecDepth 20000
theorem zn8 (v:V6) (r:Bool) (hr:r=decide (v.k=0)) (w:World):Calls Tryz.prog 116 #[.agg #[.int .i64 v.k,.bool v.b,.int .i64 v.n,.string v.t,.string v.x,.slice v.p v.len v.cap]] w fun e w'=>e=.returned (.bool r)∧Below w.heap.size w w':=by
 obtain ⟨W0,hW0⟩:∃ W0,W0=w.alloc (.cells #[.int .i64 v.k,.bool v.b,.int .i64 v.n,.string v.t,.string v.x,.slice v.p v.len v.cap] 39):=⟨_,rfl⟩
 have b0:Below w.heap.size w W0:=by rw [hW0];exact zap _ _
 have c0:W0.cell? ⟨w.heap.size,0,none⟩=some (.int .i64 v.k):=by rw [hW0];exact zab (zag _ _ rfl) 0 rfl
 have HW:=Lib.hid hW0
 have HB:=Lib.hid b0
 clear hW0 b0
 go_enter Tryz.func116,Tryz.ntmps116
 go_upto_region 1 with fail
 rw [← HW.out]
 go_wp2_with fail
 go_ret
 exact ⟨by rw [hr];rfl,HB.out⟩
theorem zfr (v0 v1 v2:V6) (w:World):(Instr.index 63 (.agg #[.int .i64 v0.k,.bool v0.b,.int .i64 v0.n,.string v0.t,.string v0.x,.slice v0.p v0.len v0.cap,.int .i64 v1.k,.bool v1.b,.int .i64 v1.n,.string v1.t,.string v1.x,.slice v1.p v1.len v1.cap,.int .i64 v2.k,.bool v2.b,.int .i64 v2.n,.string v2.t,.string v2.x,.slice v2.p v2.len v2.cap]) (.int .i64 0)).run Tryz.prog w=.ok (.agg #[.int .i64 v0.k,.bool v0.b,.int .i64 v0.n,.string v0.t,.string v0.x,.slice v0.p v0.len v0.cap]) w:=by
 have s3:Tryz.t39.size=6:=rfl
 simp [s3,Instr.index,run_underlying Tryz.underlying63,asIntOf,part,Sem.run_bind,isAgg,sizeOf,go_sem]
theorem zfs (v0 v1 v2:V6) (w:World):(Instr.index 63 (.agg #[.int .i64 v0.k,.bool v0.b,.int .i64 v0.n,.string v0.t,.string v0.x,.slice v0.p v0.len v0.cap,.int .i64 v1.k,.bool v1.b,.int .i64 v1.n,.string v1.t,.string v1.x,.slice v1.p v1.len v1.cap,.int .i64 v2.k,.bool v2.b,.int .i64 v2.n,.string v2.t,.string v2.x,.slice v2.p v2.len v2.cap]) (.int .i64 1)).run Tryz.prog w=.ok (.agg #[.int .i64 v1.k,.bool v1.b,.int .i64 v1.n,.string v1.t,.string v1.x,.slice v1.p v1.len v1.cap]) w:=by
 have s3:Tryz.t39.size=6:=rfl
 simp [s3,Instr.index,run_underlying Tryz.underlying63,asIntOf,part,Sem.run_bind,isAgg,sizeOf,go_sem]
theorem zft (v0 v1 v2:V6) (w:World):(Instr.index 63 (.agg #[.int .i64 v0.k,.bool v0.b,.int .i64 v0.n,.string v0.t,.string v0.x,.slice v0.p v0.len v0.cap,.int .i64 v1.k,.bool v1.b,.int .i64 v1.n,.string v1.t,.string v1.x,.slice v1.p v1.len v1.cap,.int .i64 v2.k,.bool v2.b,.int .i64 v2.n,.string v2.t,.string v2.x,.slice v2.p v2.len v2.cap]) (.int .i64 2)).run Tryz.prog w=.ok (.agg #[.int .i64 v2.k,.bool v2.b,.int .i64 v2.n,.string v2.t,.string v2.x,.slice v2.p v2.len v2.cap]) w:=by
 have s3:Tryz.t39.size=6:=rfl
 simp [s3,Instr.index,run_underlying Tryz.underlying63,asIntOf,part,Sem.run_bind,isAgg,sizeOf,go_sem]
theorem zbb {ops:Array Oper} {rest:List Oper} {o:Oper} {a:Act} {w:World} {Q:Exit→Act→World→Prop} (x:Operand) (g:Nat) (v0 v1 v2:V6) (hw:Way w g v0 v1 v2)
 (hgd:o.guard=none) (ho:o.op=.load 63 x) (hx:a.eval x=.pointer (some ⟨g,0,none⟩))
 (h:wpList Tryz.prog ops Q rest (a.put o.dst (.agg #[.int .i64 v0.k,.bool v0.b,.int .i64 v0.n,.string v0.t,.string v0.x,.slice v0.p v0.len v0.cap,.int .i64 v1.k,.bool v1.b,.int .i64 v1.n,.string v1.t,.string v1.x,.slice v1.p v1.len v1.cap,.int .i64 v2.k,.bool v2.b,.int .i64 v2.n,.string v2.t,.string v2.x,.slice v2.p v2.len v2.cap])) w):wpList Tryz.prog ops Q (o::rest) a w:=
 wpList_load_mid hgd 63 x ho g 0 hx [.int .i64 v0.k,.bool v0.b,.int .i64 v0.n,.string v0.t,.string v0.x,.slice v0.p v0.len v0.cap,.int .i64 v1.k,.bool v1.b,.int .i64 v1.n,.string v1.t,.string v1.x,.slice v1.p v1.len v1.cap,.int .i64 v2.k,.bool v2.b,.int .i64 v2.n,.string v2.t,.string v2.x,.slice v2.p v2.len v2.cap] _ hw.r18 Tryz.underlying63 rfl zxc h
def letr:Nat→ByteArray
 | 0=>⟨#[115]⟩
 | 1=>⟨#[112]⟩
 | _=>⟨#[111]⟩
def bdd (b:Nat→Bool):Nat→ByteArray
 | 0=>⟨#[]⟩
 | i+1=>match b i with | true=>bdd b i | false=>bdd b i++letr i
def opd (b:Nat→Bool):Nat→ByteArray
 | 0=>⟨#[]⟩
 | i+1=>match b i with | true=>opd b i++letr i | false=>opd b i
def ahd (b:Nat→Bool):Nat:=match b 0,b 1,b 2 with
 | true,true,true=>0
 | false,true,true=>0
 | true,false,true=>2
 | true,true,false=>4
 | false,false,true=>0
 | false,true,false=>1
 | true,false,false=>3
 | false,false,false=>0
theorem zzn (b:Nat→Bool):bdd b 3++opd b 3=onm (ahd b):=by
 unfold bdd bdd bdd bdd opd opd opd opd ahd
 cases b 0 <;> cases b 1 <;> cases b 2 <;> rfl
theorem zs4 (b:Nat→Bool):ahd b < 6:=by
 unfold ahd
 split <;> omega
theorem zxd (v0 v1 v2:V6) (h0:∀ W,Calls Tryz.prog 116 #[.agg #[.int .i64 v0.k,.bool v0.b,.int .i64 v0.n,.string v0.t,.string v0.x,.slice v0.p v0.len v0.cap]] W fun e w'=>e=.returned (.bool true)∧Below W.heap.size W w') (h1:∀ W,Calls Tryz.prog 116 #[.agg #[.int .i64 v1.k,.bool v1.b,.int .i64 v1.n,.string v1.t,.string v1.x,.slice v1.p v1.len v1.cap]] W fun e w'=>e=.returned (.bool true)∧Below W.heap.size W w') (h2:∀ W,Calls Tryz.prog 116 #[.agg #[.int .i64 v2.k,.bool v2.b,.int .i64 v2.n,.string v2.t,.string v2.x,.slice v2.p v2.len v2.cap]] W fun e w'=>e=.returned (.bool true)∧Below W.heap.size W w') (w:World):
 Calls Tryz.prog 115 #[.agg #[.int .i64 v0.k,.bool v0.b,.int .i64 v0.n,.string v0.t,.string v0.x,.slice v0.p v0.len v0.cap,.int .i64 v1.k,.bool v1.b,.int .i64 v1.n,.string v1.t,.string v1.x,.slice v1.p v1.len v1.cap,.int .i64 v2.k,.bool v2.b,.int .i64 v2.n,.string v2.t,.string v2.x,.slice v2.p v2.len v2.cap]] w fun e w'=>e=.returned (.string ⟨#[115,112,111]⟩)∧Below w.heap.size w w':=by
 obtain ⟨W0,hW0⟩:∃ W0,W0=w.alloc (.cells #[.int .i64 v0.k,.bool v0.b,.int .i64 v0.n,.string v0.t,.string v0.x,.slice v0.p v0.len v0.cap,.int .i64 v1.k,.bool v1.b,.int .i64 v1.n,.string v1.t,.string v1.x,.slice v1.p v1.len v1.cap,.int .i64 v2.k,.bool v2.b,.int .i64 v2.n,.string v2.t,.string v2.x,.slice v2.p v2.len v2.cap] 63):=⟨_,rfl⟩
 have b0:Below w.heap.size w W0:=by rw [hW0];exact zap _ _
 have way0:Way W0 w.heap.size v0 v1 v2:=by rw [hW0];exact zag _ _ rfl
 have HW:=Lib.hid hW0
 have HB:=Lib.hid b0
 have V0:=Lib.hid h0
 have V1:=Lib.hid h1
 have V2:=Lib.hid h2
 clear hW0 b0 h0 h1 h2
 go_enter Tryz.func115,Tryz.ntmps115
 go_upto_region 2 with fail
 rw [← HW.out]
 go_wp2_with ((with_reducible refine zbb (.tmp 1) w.heap.size v0 v1 v2 way0 ?_ ?_ ?_ ?_);rfl;rfl;rfl)
 clear way0
 go_loopw [3,4,9] (fun s3 s4 s9 wr=>Hid (Below w.heap.size w wr)∧∃ j:Nat,s9=.int .i64 j∧((j=0∧s3=.string ⟨#[]⟩∧s4=.string ⟨#[]⟩)∨(j=1∧s3=.string ⟨#[]⟩∧s4=.string ⟨#[115]⟩)∨(j=2∧s3=.string ⟨#[]⟩∧s4=.string ⟨#[115,112]⟩)∨(j=3∧s3=.string ⟨#[]⟩∧s4=.string ⟨#[115,112,111]⟩))) (fun _ _ s9 _=>3 - (intOf s9).toNat)
 case atStart=>exact ⟨HB,0,rfl,.inl ⟨rfl,rfl,rfl⟩⟩
 case round=>
  clear HB
  obtain ⟨HB,j,rfl,⟨rfl,rfl,rfl⟩ | ⟨rfl,rfl,rfl⟩ | ⟨rfl,rfl,rfl⟩ | ⟨rfl,rfl,rfl⟩⟩:=hrel
  ·have hix:=fun w=>zfr v0 v1 v2 w
   go_upto_region 6 with ((with_reducible refine zal (k':=v0.k) (b':=v0.b) (n':=v0.n) (t':=v0.t) (x':=v0.x) (p':=v0.p) (len':=v0.len) (cap':=v0.cap) (.tmp 6) (.tmp 12) wr.heap.size (zah _ rfl) ?_ ?_ ?_ ?_ ?_);rfl;rfl;rfl;rfl;intro w5 hvw5 uw5)
   have z5:Below wr.heap.size wr w5:=zai (zap wr _) hvw5 (Nat.le_refl _) (by simp)
   have HB5:Hid (Below w.heap.size w w5):=Lib.hid (HB.out.trans (z5.mono HB.out.size))
   clear z5 hvw5 hix
   go_wp2_with (first
    |((with_reducible refine zae (.tmp 6) wr.heap.size uw5 ?_ ?_ ?_ ?_);rfl;rfl;rfl)
    |(go_at_call 116;(with_reducible refine (V0.out _).mono ?_);rintro e w6 ⟨rfl,hb6⟩))
   have HB6:Hid (Below w.heap.size w w6):=Lib.hid (HB5.out.trans (hb6.mono HB5.out.size))
   clear hb6 uw5
   go_roundw
   case rel=>exact ⟨HB6,1,by go_num,.inr (.inl ⟨rfl,by rfl,by rfl⟩)⟩
   case measure=>simp [intOf]
  ·have hix:=fun w=>zfs v0 v1 v2 w
   go_upto_region 6 with ((with_reducible refine zal (k':=v1.k) (b':=v1.b) (n':=v1.n) (t':=v1.t) (x':=v1.x) (p':=v1.p) (len':=v1.len) (cap':=v1.cap) (.tmp 6) (.tmp 12) wr.heap.size (zah _ rfl) ?_ ?_ ?_ ?_ ?_);rfl;rfl;rfl;rfl;intro w5 hvw5 uw5)
   have z5:Below wr.heap.size wr w5:=zai (zap wr _) hvw5 (Nat.le_refl _) (by simp)
   have HB5:Hid (Below w.heap.size w w5):=Lib.hid (HB.out.trans (z5.mono HB.out.size))
   clear z5 hvw5 hix
   go_wp2_with (first
    |((with_reducible refine zae (.tmp 6) wr.heap.size uw5 ?_ ?_ ?_ ?_);rfl;rfl;rfl)
    |(go_at_call 116;(with_reducible refine (V1.out _).mono ?_);rintro e w6 ⟨rfl,hb6⟩))
   have HB6:Hid (Below w.heap.size w w6):=Lib.hid (HB5.out.trans (hb6.mono HB5.out.size))
   clear hb6 uw5
   go_roundw
   case rel=>exact ⟨HB6,2,by go_num,.inr (.inr (.inl ⟨rfl,by rfl,by rfl⟩))⟩
   case measure=>simp [intOf]
  ·have hix:=fun w=>zft v0 v1 v2 w
   go_upto_region 6 with ((with_reducible refine zal (k':=v2.k) (b':=v2.b) (n':=v2.n) (t':=v2.t) (x':=v2.x) (p':=v2.p) (len':=v2.len) (cap':=v2.cap) (.tmp 6) (.tmp 12) wr.heap.size (zah _ rfl) ?_ ?_ ?_ ?_ ?_);rfl;rfl;rfl;rfl;intro w5 hvw5 uw5)
   have z5:Below wr.heap.size wr w5:=zai (zap wr _) hvw5 (Nat.le_refl _) (by simp)
   have HB5:Hid (Below w.heap.size w w5):=Lib.hid (HB.out.trans (z5.mono HB.out.size))
   clear z5 hvw5 hix
   go_wp2_with (first
    |((with_reducible refine zae (.tmp 6) wr.heap.size uw5 ?_ ?_ ?_ ?_);rfl;rfl;rfl)
    |(go_at_call 116;(with_reducible refine (V2.out _).mono ?_);rintro e w6 ⟨rfl,hb6⟩))
   have HB6:Hid (Below w.heap.size w w6):=Lib.hid (HB5.out.trans (hb6.mono HB5.out.size))
   clear hb6 uw5
   go_roundw
   case rel=>exact ⟨HB6,3,by go_num,.inr (.inr (.inr ⟨rfl,by rfl,by rfl⟩))⟩
   case measure=>simp [intOf]
  ·go_wp2_with fail
   go_ret
   exact ⟨by rfl,HB.out⟩
theorem zxe (v0 v1 v2:V6) (h0:∀ W,Calls Tryz.prog 116 #[.agg #[.int .i64 v0.k,.bool v0.b,.int .i64 v0.n,.string v0.t,.string v0.x,.slice v0.p v0.len v0.cap]] W fun e w'=>e=.returned (.bool true)∧Below W.heap.size W w') (h1:∀ W,Calls Tryz.prog 116 #[.agg #[.int .i64 v1.k,.bool v1.b,.int .i64 v1.n,.string v1.t,.string v1.x,.slice v1.p v1.len v1.cap]] W fun e w'=>e=.returned (.bool true)∧Below W.heap.size W w') (h2:∀ W,Calls Tryz.prog 116 #[.agg #[.int .i64 v2.k,.bool v2.b,.int .i64 v2.n,.string v2.t,.string v2.x,.slice v2.p v2.len v2.cap]] W fun e w'=>e=.returned (.bool false)∧Below W.heap.size W w') (w:World):
 Calls Tryz.prog 115 #[.agg #[.int .i64 v0.k,.bool v0.b,.int .i64 v0.n,.string v0.t,.string v0.x,.slice v0.p v0.len v0.cap,.int .i64 v1.k,.bool v1.b,.int .i64 v1.n,.string v1.t,.string v1.x,.slice v1.p v1.len v1.cap,.int .i64 v2.k,.bool v2.b,.int .i64 v2.n,.string v2.t,.string v2.x,.slice v2.p v2.len v2.cap]] w fun e w'=>e=.returned (.string ⟨#[111,115,112]⟩)∧Below w.heap.size w w':=by
 obtain ⟨W0,hW0⟩:∃ W0,W0=w.alloc (.cells #[.int .i64 v0.k,.bool v0.b,.int .i64 v0.n,.string v0.t,.string v0.x,.slice v0.p v0.len v0.cap,.int .i64 v1.k,.bool v1.b,.int .i64 v1.n,.string v1.t,.string v1.x,.slice v1.p v1.len v1.cap,.int .i64 v2.k,.bool v2.b,.int .i64 v2.n,.string v2.t,.string v2.x,.slice v2.p v2.len v2.cap] 63):=⟨_,rfl⟩
 have b0:Below w.heap.size w W0:=by rw [hW0];exact zap _ _
 have way0:Way W0 w.heap.size v0 v1 v2:=by rw [hW0];exact zag _ _ rfl
 have HW:=Lib.hid hW0
 have HB:=Lib.hid b0
 have V0:=Lib.hid h0
 have V1:=Lib.hid h1
 have V2:=Lib.hid h2
 clear hW0 b0 h0 h1 h2
 go_enter Tryz.func115,Tryz.ntmps115
 go_upto_region 2 with fail
 rw [← HW.out]
 go_wp2_with ((with_reducible refine zbb (.tmp 1) w.heap.size v0 v1 v2 way0 ?_ ?_ ?_ ?_);rfl;rfl;rfl)
 clear way0
 go_loopw [3,4,9] (fun s3 s4 s9 wr=>Hid (Below w.heap.size w wr)∧∃ j:Nat,s9=.int .i64 j∧((j=0∧s3=.string ⟨#[]⟩∧s4=.string ⟨#[]⟩)∨(j=1∧s3=.string ⟨#[]⟩∧s4=.string ⟨#[115]⟩)∨(j=2∧s3=.string ⟨#[]⟩∧s4=.string ⟨#[115,112]⟩)∨(j=3∧s3=.string ⟨#[111]⟩∧s4=.string ⟨#[115,112]⟩))) (fun _ _ s9 _=>3 - (intOf s9).toNat)
 case atStart=>exact ⟨HB,0,rfl,.inl ⟨rfl,rfl,rfl⟩⟩
 case round=>
  clear HB
  obtain ⟨HB,j,rfl,⟨rfl,rfl,rfl⟩ | ⟨rfl,rfl,rfl⟩ | ⟨rfl,rfl,rfl⟩ | ⟨rfl,rfl,rfl⟩⟩:=hrel
  ·have hix:=fun w=>zfr v0 v1 v2 w
   go_upto_region 6 with ((with_reducible refine zal (k':=v0.k) (b':=v0.b) (n':=v0.n) (t':=v0.t) (x':=v0.x) (p':=v0.p) (len':=v0.len) (cap':=v0.cap) (.tmp 6) (.tmp 12) wr.heap.size (zah _ rfl) ?_ ?_ ?_ ?_ ?_);rfl;rfl;rfl;rfl;intro w5 hvw5 uw5)
   have z5:Below wr.heap.size wr w5:=zai (zap wr _) hvw5 (Nat.le_refl _) (by simp)
   have HB5:Hid (Below w.heap.size w w5):=Lib.hid (HB.out.trans (z5.mono HB.out.size))
   clear z5 hvw5 hix
   go_wp2_with (first
    |((with_reducible refine zae (.tmp 6) wr.heap.size uw5 ?_ ?_ ?_ ?_);rfl;rfl;rfl)
    |(go_at_call 116;(with_reducible refine (V0.out _).mono ?_);rintro e w6 ⟨rfl,hb6⟩))
   have HB6:Hid (Below w.heap.size w w6):=Lib.hid (HB5.out.trans (hb6.mono HB5.out.size))
   clear hb6 uw5
   go_roundw
   case rel=>exact ⟨HB6,1,by go_num,.inr (.inl ⟨rfl,by rfl,by rfl⟩)⟩
   case measure=>simp [intOf]
  ·have hix:=fun w=>zfs v0 v1 v2 w
   go_upto_region 6 with ((with_reducible refine zal (k':=v1.k) (b':=v1.b) (n':=v1.n) (t':=v1.t) (x':=v1.x) (p':=v1.p) (len':=v1.len) (cap':=v1.cap) (.tmp 6) (.tmp 12) wr.heap.size (zah _ rfl) ?_ ?_ ?_ ?_ ?_);rfl;rfl;rfl;rfl;intro w5 hvw5 uw5)
   have z5:Below wr.heap.size wr w5:=zai (zap wr _) hvw5 (Nat.le_refl _) (by simp)
   have HB5:Hid (Below w.heap.size w w5):=Lib.hid (HB.out.trans (z5.mono HB.out.size))
   clear z5 hvw5 hix
   go_wp2_with (first
    |((with_reducible refine zae (.tmp 6) wr.heap.size uw5 ?_ ?_ ?_ ?_);rfl;rfl;rfl)
    |(go_at_call 116;(with_reducible refine (V1.out _).mono ?_);rintro e w6 ⟨rfl,hb6⟩))
   have HB6:Hid (Below w.heap.size w w6):=Lib.hid (HB5.out.trans (hb6.mono HB5.out.size))
   clear hb6 uw5
   go_roundw
   case rel=>exact ⟨HB6,2,by go_num,.inr (.inr (.inl ⟨rfl,by rfl,by rfl⟩))⟩
   case measure=>simp [intOf]
  ·have hix:=fun w=>zft v0 v1 v2 w
   go_upto_region 6 with ((with_reducible refine zal (k':=v2.k) (b':=v2.b) (n':=v2.n) (t':=v2.t) (x':=v2.x) (p':=v2.p) (len':=v2.len) (cap':=v2.cap) (.tmp 6) (.tmp 12) wr.heap.size (zah _ rfl) ?_ ?_ ?_ ?_ ?_);rfl;rfl;rfl;rfl;intro w5 hvw5 uw5)
   have z5:Below wr.heap.size wr w5:=zai (zap wr _) hvw5 (Nat.le_refl _) (by simp)
   have HB5:Hid (Below w.heap.size w w5):=Lib.hid (HB.out.trans (z5.mono HB.out.size))
   clear z5 hvw5 hix
   go_wp2_with (first
    |((with_reducible refine zae (.tmp 6) wr.heap.size uw5 ?_ ?_ ?_ ?_);rfl;rfl;rfl)
    |(go_at_call 116;(with_reducible refine (V2.out _).mono ?_);rintro e w6 ⟨rfl,hb6⟩))
   have HB6:Hid (Below w.heap.size w w6):=Lib.hid (HB5.out.trans (hb6.mono HB5.out.size))
   clear hb6 uw5
   go_roundw
   case rel=>exact ⟨HB6,3,by go_num,.inr (.inr (.inr ⟨rfl,by rfl,by rfl⟩))⟩
   case measure=>simp [intOf]
  ·go_wp2_with fail
   go_ret
   exact ⟨by rfl,HB.out⟩
theorem zxf (v0 v1 v2:V6) (h0:∀ W,Calls Tryz.prog 116 #[.agg #[.int .i64 v0.k,.bool v0.b,.int .i64 v0.n,.string v0.t,.string v0.x,.slice v0.p v0.len v0.cap]] W fun e w'=>e=.returned (.bool true)∧Below W.heap.size W w') (h1:∀ W,Calls Tryz.prog 116 #[.agg #[.int .i64 v1.k,.bool v1.b,.int .i64 v1.n,.string v1.t,.string v1.x,.slice v1.p v1.len v1.cap]] W fun e w'=>e=.returned (.bool false)∧Below W.heap.size W w') (h2:∀ W,Calls Tryz.prog 116 #[.agg #[.int .i64 v2.k,.bool v2.b,.int .i64 v2.n,.string v2.t,.string v2.x,.slice v2.p v2.len v2.cap]] W fun e w'=>e=.returned (.bool true)∧Below W.heap.size W w') (w:World):
 Calls Tryz.prog 115 #[.agg #[.int .i64 v0.k,.bool v0.b,.int .i64 v0.n,.string v0.t,.string v0.x,.slice v0.p v0.len v0.cap,.int .i64 v1.k,.bool v1.b,.int .i64 v1.n,.string v1.t,.string v1.x,.slice v1.p v1.len v1.cap,.int .i64 v2.k,.bool v2.b,.int .i64 v2.n,.string v2.t,.string v2.x,.slice v2.p v2.len v2.cap]] w fun e w'=>e=.returned (.string ⟨#[112,115,111]⟩)∧Below w.heap.size w w':=by
 obtain ⟨W0,hW0⟩:∃ W0,W0=w.alloc (.cells #[.int .i64 v0.k,.bool v0.b,.int .i64 v0.n,.string v0.t,.string v0.x,.slice v0.p v0.len v0.cap,.int .i64 v1.k,.bool v1.b,.int .i64 v1.n,.string v1.t,.string v1.x,.slice v1.p v1.len v1.cap,.int .i64 v2.k,.bool v2.b,.int .i64 v2.n,.string v2.t,.string v2.x,.slice v2.p v2.len v2.cap] 63):=⟨_,rfl⟩
 have b0:Below w.heap.size w W0:=by rw [hW0];exact zap _ _
 have way0:Way W0 w.heap.size v0 v1 v2:=by rw [hW0];exact zag _ _ rfl
 have HW:=Lib.hid hW0
 have HB:=Lib.hid b0
 have V0:=Lib.hid h0
 have V1:=Lib.hid h1
 have V2:=Lib.hid h2
 clear hW0 b0 h0 h1 h2
 go_enter Tryz.func115,Tryz.ntmps115
 go_upto_region 2 with fail
 rw [← HW.out]
 go_wp2_with ((with_reducible refine zbb (.tmp 1) w.heap.size v0 v1 v2 way0 ?_ ?_ ?_ ?_);rfl;rfl;rfl)
 clear way0
 go_loopw [3,4,9] (fun s3 s4 s9 wr=>Hid (Below w.heap.size w wr)∧∃ j:Nat,s9=.int .i64 j∧((j=0∧s3=.string ⟨#[]⟩∧s4=.string ⟨#[]⟩)∨(j=1∧s3=.string ⟨#[]⟩∧s4=.string ⟨#[115]⟩)∨(j=2∧s3=.string ⟨#[112]⟩∧s4=.string ⟨#[115]⟩)∨(j=3∧s3=.string ⟨#[112]⟩∧s4=.string ⟨#[115,111]⟩))) (fun _ _ s9 _=>3 - (intOf s9).toNat)
 case atStart=>exact ⟨HB,0,rfl,.inl ⟨rfl,rfl,rfl⟩⟩
 case round=>
  clear HB
  obtain ⟨HB,j,rfl,⟨rfl,rfl,rfl⟩ | ⟨rfl,rfl,rfl⟩ | ⟨rfl,rfl,rfl⟩ | ⟨rfl,rfl,rfl⟩⟩:=hrel
  ·have hix:=fun w=>zfr v0 v1 v2 w
   go_upto_region 6 with ((with_reducible refine zal (k':=v0.k) (b':=v0.b) (n':=v0.n) (t':=v0.t) (x':=v0.x) (p':=v0.p) (len':=v0.len) (cap':=v0.cap) (.tmp 6) (.tmp 12) wr.heap.size (zah _ rfl) ?_ ?_ ?_ ?_ ?_);rfl;rfl;rfl;rfl;intro w5 hvw5 uw5)
   have z5:Below wr.heap.size wr w5:=zai (zap wr _) hvw5 (Nat.le_refl _) (by simp)
   have HB5:Hid (Below w.heap.size w w5):=Lib.hid (HB.out.trans (z5.mono HB.out.size))
   clear z5 hvw5 hix
   go_wp2_with (first
    |((with_reducible refine zae (.tmp 6) wr.heap.size uw5 ?_ ?_ ?_ ?_);rfl;rfl;rfl)
    |(go_at_call 116;(with_reducible refine (V0.out _).mono ?_);rintro e w6 ⟨rfl,hb6⟩))
   have HB6:Hid (Below w.heap.size w w6):=Lib.hid (HB5.out.trans (hb6.mono HB5.out.size))
   clear hb6 uw5
   go_roundw
   case rel=>exact ⟨HB6,1,by go_num,.inr (.inl ⟨rfl,by rfl,by rfl⟩)⟩
   case measure=>simp [intOf]
  ·have hix:=fun w=>zfs v0 v1 v2 w
   go_upto_region 6 with ((with_reducible refine zal (k':=v1.k) (b':=v1.b) (n':=v1.n) (t':=v1.t) (x':=v1.x) (p':=v1.p) (len':=v1.len) (cap':=v1.cap) (.tmp 6) (.tmp 12) wr.heap.size (zah _ rfl) ?_ ?_ ?_ ?_ ?_);rfl;rfl;rfl;rfl;intro w5 hvw5 uw5)
   have z5:Below wr.heap.size wr w5:=zai (zap wr _) hvw5 (Nat.le_refl _) (by simp)
   have HB5:Hid (Below w.heap.size w w5):=Lib.hid (HB.out.trans (z5.mono HB.out.size))
   clear z5 hvw5 hix
   go_wp2_with (first
    |((with_reducible refine zae (.tmp 6) wr.heap.size uw5 ?_ ?_ ?_ ?_);rfl;rfl;rfl)
    |(go_at_call 116;(with_reducible refine (V1.out _).mono ?_);rintro e w6 ⟨rfl,hb6⟩))
   have HB6:Hid (Below w.heap.size w w6):=Lib.hid (HB5.out.trans (hb6.mono HB5.out.size))
   clear hb6 uw5
   go_roundw
   case rel=>exact ⟨HB6,2,by go_num,.inr (.inr (.inl ⟨rfl,by rfl,by rfl⟩))⟩
   case measure=>simp [intOf]
  ·have hix:=fun w=>zft v0 v1 v2 w
   go_upto_region 6 with ((with_reducible refine zal (k':=v2.k) (b':=v2.b) (n':=v2.n) (t':=v2.t) (x':=v2.x) (p':=v2.p) (len':=v2.len) (cap':=v2.cap) (.tmp 6) (.tmp 12) wr.heap.size (zah _ rfl) ?_ ?_ ?_ ?_ ?_);rfl;rfl;rfl;rfl;intro w5 hvw5 uw5)
   have z5:Below wr.heap.size wr w5:=zai (zap wr _) hvw5 (Nat.le_refl _) (by simp)
   have HB5:Hid (Below w.heap.size w w5):=Lib.hid (HB.out.trans (z5.mono HB.out.size))
   clear z5 hvw5 hix
   go_wp2_with (first
    |((with_reducible refine zae (.tmp 6) wr.heap.size uw5 ?_ ?_ ?_ ?_);rfl;rfl;rfl)
    |(go_at_call 116;(with_reducible refine (V2.out _).mono ?_);rintro e w6 ⟨rfl,hb6⟩))
   have HB6:Hid (Below w.heap.size w w6):=Lib.hid (HB5.out.trans (hb6.mono HB5.out.size))
   clear hb6 uw5
   go_roundw
   case rel=>exact ⟨HB6,3,by go_num,.inr (.inr (.inr ⟨rfl,by rfl,by rfl⟩))⟩
   case measure=>simp [intOf]
  ·go_wp2_with fail
   go_ret
   exact ⟨by rfl,HB.out⟩
theorem zxg (v0 v1 v2:V6) (h0:∀ W,Calls Tryz.prog 116 #[.agg #[.int .i64 v0.k,.bool v0.b,.int .i64 v0.n,.string v0.t,.string v0.x,.slice v0.p v0.len v0.cap]] W fun e w'=>e=.returned (.bool true)∧Below W.heap.size W w') (h1:∀ W,Calls Tryz.prog 116 #[.agg #[.int .i64 v1.k,.bool v1.b,.int .i64 v1.n,.string v1.t,.string v1.x,.slice v1.p v1.len v1.cap]] W fun e w'=>e=.returned (.bool false)∧Below W.heap.size W w') (h2:∀ W,Calls Tryz.prog 116 #[.agg #[.int .i64 v2.k,.bool v2.b,.int .i64 v2.n,.string v2.t,.string v2.x,.slice v2.p v2.len v2.cap]] W fun e w'=>e=.returned (.bool false)∧Below W.heap.size W w') (w:World):
 Calls Tryz.prog 115 #[.agg #[.int .i64 v0.k,.bool v0.b,.int .i64 v0.n,.string v0.t,.string v0.x,.slice v0.p v0.len v0.cap,.int .i64 v1.k,.bool v1.b,.int .i64 v1.n,.string v1.t,.string v1.x,.slice v1.p v1.len v1.cap,.int .i64 v2.k,.bool v2.b,.int .i64 v2.n,.string v2.t,.string v2.x,.slice v2.p v2.len v2.cap]] w fun e w'=>e=.returned (.string ⟨#[112,111,115]⟩)∧Below w.heap.size w w':=by
 obtain ⟨W0,hW0⟩:∃ W0,W0=w.alloc (.cells #[.int .i64 v0.k,.bool v0.b,.int .i64 v0.n,.string v0.t,.string v0.x,.slice v0.p v0.len v0.cap,.int .i64 v1.k,.bool v1.b,.int .i64 v1.n,.string v1.t,.string v1.x,.slice v1.p v1.len v1.cap,.int .i64 v2.k,.bool v2.b,.int .i64 v2.n,.string v2.t,.string v2.x,.slice v2.p v2.len v2.cap] 63):=⟨_,rfl⟩
 have b0:Below w.heap.size w W0:=by rw [hW0];exact zap _ _
 have way0:Way W0 w.heap.size v0 v1 v2:=by rw [hW0];exact zag _ _ rfl
 have HW:=Lib.hid hW0
 have HB:=Lib.hid b0
 have V0:=Lib.hid h0
 have V1:=Lib.hid h1
 have V2:=Lib.hid h2
 clear hW0 b0 h0 h1 h2
 go_enter Tryz.func115,Tryz.ntmps115
 go_upto_region 2 with fail
 rw [← HW.out]
 go_wp2_with ((with_reducible refine zbb (.tmp 1) w.heap.size v0 v1 v2 way0 ?_ ?_ ?_ ?_);rfl;rfl;rfl)
 clear way0
 go_loopw [3,4,9] (fun s3 s4 s9 wr=>Hid (Below w.heap.size w wr)∧∃ j:Nat,s9=.int .i64 j∧((j=0∧s3=.string ⟨#[]⟩∧s4=.string ⟨#[]⟩)∨(j=1∧s3=.string ⟨#[]⟩∧s4=.string ⟨#[115]⟩)∨(j=2∧s3=.string ⟨#[112]⟩∧s4=.string ⟨#[115]⟩)∨(j=3∧s3=.string ⟨#[112,111]⟩∧s4=.string ⟨#[115]⟩))) (fun _ _ s9 _=>3 - (intOf s9).toNat)
 case atStart=>exact ⟨HB,0,rfl,.inl ⟨rfl,rfl,rfl⟩⟩
 case round=>
  clear HB
  obtain ⟨HB,j,rfl,⟨rfl,rfl,rfl⟩ | ⟨rfl,rfl,rfl⟩ | ⟨rfl,rfl,rfl⟩ | ⟨rfl,rfl,rfl⟩⟩:=hrel
  ·have hix:=fun w=>zfr v0 v1 v2 w
   go_upto_region 6 with ((with_reducible refine zal (k':=v0.k) (b':=v0.b) (n':=v0.n) (t':=v0.t) (x':=v0.x) (p':=v0.p) (len':=v0.len) (cap':=v0.cap) (.tmp 6) (.tmp 12) wr.heap.size (zah _ rfl) ?_ ?_ ?_ ?_ ?_);rfl;rfl;rfl;rfl;intro w5 hvw5 uw5)
   have z5:Below wr.heap.size wr w5:=zai (zap wr _) hvw5 (Nat.le_refl _) (by simp)
   have HB5:Hid (Below w.heap.size w w5):=Lib.hid (HB.out.trans (z5.mono HB.out.size))
   clear z5 hvw5 hix
   go_wp2_with (first
    |((with_reducible refine zae (.tmp 6) wr.heap.size uw5 ?_ ?_ ?_ ?_);rfl;rfl;rfl)
    |(go_at_call 116;(with_reducible refine (V0.out _).mono ?_);rintro e w6 ⟨rfl,hb6⟩))
   have HB6:Hid (Below w.heap.size w w6):=Lib.hid (HB5.out.trans (hb6.mono HB5.out.size))
   clear hb6 uw5
   go_roundw
   case rel=>exact ⟨HB6,1,by go_num,.inr (.inl ⟨rfl,by rfl,by rfl⟩)⟩
   case measure=>simp [intOf]
  ·have hix:=fun w=>zfs v0 v1 v2 w
   go_upto_region 6 with ((with_reducible refine zal (k':=v1.k) (b':=v1.b) (n':=v1.n) (t':=v1.t) (x':=v1.x) (p':=v1.p) (len':=v1.len) (cap':=v1.cap) (.tmp 6) (.tmp 12) wr.heap.size (zah _ rfl) ?_ ?_ ?_ ?_ ?_);rfl;rfl;rfl;rfl;intro w5 hvw5 uw5)
   have z5:Below wr.heap.size wr w5:=zai (zap wr _) hvw5 (Nat.le_refl _) (by simp)
   have HB5:Hid (Below w.heap.size w w5):=Lib.hid (HB.out.trans (z5.mono HB.out.size))
   clear z5 hvw5 hix
   go_wp2_with (first
    |((with_reducible refine zae (.tmp 6) wr.heap.size uw5 ?_ ?_ ?_ ?_);rfl;rfl;rfl)
    |(go_at_call 116;(with_reducible refine (V1.out _).mono ?_);rintro e w6 ⟨rfl,hb6⟩))
   have HB6:Hid (Below w.heap.size w w6):=Lib.hid (HB5.out.trans (hb6.mono HB5.out.size))
   clear hb6 uw5
   go_roundw
   case rel=>exact ⟨HB6,2,by go_num,.inr (.inr (.inl ⟨rfl,by rfl,by rfl⟩))⟩
   case measure=>simp [intOf]
  ·have hix:=fun w=>zft v0 v1 v2 w
   go_upto_region 6 with ((with_reducible refine zal (k':=v2.k) (b':=v2.b) (n':=v2.n) (t':=v2.t) (x':=v2.x) (p':=v2.p) (len':=v2.len) (cap':=v2.cap) (.tmp 6) (.tmp 12) wr.heap.size (zah _ rfl) ?_ ?_ ?_ ?_ ?_);rfl;rfl;rfl;rfl;intro w5 hvw5 uw5)
   have z5:Below wr.heap.size wr w5:=zai (zap wr _) hvw5 (Nat.le_refl _) (by simp)
   have HB5:Hid (Below w.heap.size w w5):=Lib.hid (HB.out.trans (z5.mono HB.out.size))
   clear z5 hvw5 hix
   go_wp2_with (first
    |((with_reducible refine zae (.tmp 6) wr.heap.size uw5 ?_ ?_ ?_ ?_);rfl;rfl;rfl)
    |(go_at_call 116;(with_reducible refine (V2.out _).mono ?_);rintro e w6 ⟨rfl,hb6⟩))
   have HB6:Hid (Below w.heap.size w w6):=Lib.hid (HB5.out.trans (hb6.mono HB5.out.size))
   clear hb6 uw5
   go_roundw
   case rel=>exact ⟨HB6,3,by go_num,.inr (.inr (.inr ⟨rfl,by rfl,by rfl⟩))⟩
   case measure=>simp [intOf]
  ·go_wp2_with fail
   go_ret
   exact ⟨by rfl,HB.out⟩
theorem zxh (v0 v1 v2:V6) (h0:∀ W,Calls Tryz.prog 116 #[.agg #[.int .i64 v0.k,.bool v0.b,.int .i64 v0.n,.string v0.t,.string v0.x,.slice v0.p v0.len v0.cap]] W fun e w'=>e=.returned (.bool false)∧Below W.heap.size W w') (h1:∀ W,Calls Tryz.prog 116 #[.agg #[.int .i64 v1.k,.bool v1.b,.int .i64 v1.n,.string v1.t,.string v1.x,.slice v1.p v1.len v1.cap]] W fun e w'=>e=.returned (.bool true)∧Below W.heap.size W w') (h2:∀ W,Calls Tryz.prog 116 #[.agg #[.int .i64 v2.k,.bool v2.b,.int .i64 v2.n,.string v2.t,.string v2.x,.slice v2.p v2.len v2.cap]] W fun e w'=>e=.returned (.bool true)∧Below W.heap.size W w') (w:World):
 Calls Tryz.prog 115 #[.agg #[.int .i64 v0.k,.bool v0.b,.int .i64 v0.n,.string v0.t,.string v0.x,.slice v0.p v0.len v0.cap,.int .i64 v1.k,.bool v1.b,.int .i64 v1.n,.string v1.t,.string v1.x,.slice v1.p v1.len v1.cap,.int .i64 v2.k,.bool v2.b,.int .i64 v2.n,.string v2.t,.string v2.x,.slice v2.p v2.len v2.cap]] w fun e w'=>e=.returned (.string ⟨#[115,112,111]⟩)∧Below w.heap.size w w':=by
 obtain ⟨W0,hW0⟩:∃ W0,W0=w.alloc (.cells #[.int .i64 v0.k,.bool v0.b,.int .i64 v0.n,.string v0.t,.string v0.x,.slice v0.p v0.len v0.cap,.int .i64 v1.k,.bool v1.b,.int .i64 v1.n,.string v1.t,.string v1.x,.slice v1.p v1.len v1.cap,.int .i64 v2.k,.bool v2.b,.int .i64 v2.n,.string v2.t,.string v2.x,.slice v2.p v2.len v2.cap] 63):=⟨_,rfl⟩
 have b0:Below w.heap.size w W0:=by rw [hW0];exact zap _ _
 have way0:Way W0 w.heap.size v0 v1 v2:=by rw [hW0];exact zag _ _ rfl
 have HW:=Lib.hid hW0
 have HB:=Lib.hid b0
 have V0:=Lib.hid h0
 have V1:=Lib.hid h1
 have V2:=Lib.hid h2
 clear hW0 b0 h0 h1 h2
 go_enter Tryz.func115,Tryz.ntmps115
 go_upto_region 2 with fail
 rw [← HW.out]
 go_wp2_with ((with_reducible refine zbb (.tmp 1) w.heap.size v0 v1 v2 way0 ?_ ?_ ?_ ?_);rfl;rfl;rfl)
 clear way0
 go_loopw [3,4,9] (fun s3 s4 s9 wr=>Hid (Below w.heap.size w wr)∧∃ j:Nat,s9=.int .i64 j∧((j=0∧s3=.string ⟨#[]⟩∧s4=.string ⟨#[]⟩)∨(j=1∧s3=.string ⟨#[115]⟩∧s4=.string ⟨#[]⟩)∨(j=2∧s3=.string ⟨#[115]⟩∧s4=.string ⟨#[112]⟩)∨(j=3∧s3=.string ⟨#[115]⟩∧s4=.string ⟨#[112,111]⟩))) (fun _ _ s9 _=>3 - (intOf s9).toNat)
 case atStart=>exact ⟨HB,0,rfl,.inl ⟨rfl,rfl,rfl⟩⟩
 case round=>
  clear HB
  obtain ⟨HB,j,rfl,⟨rfl,rfl,rfl⟩ | ⟨rfl,rfl,rfl⟩ | ⟨rfl,rfl,rfl⟩ | ⟨rfl,rfl,rfl⟩⟩:=hrel
  ·have hix:=fun w=>zfr v0 v1 v2 w
   go_upto_region 6 with ((with_reducible refine zal (k':=v0.k) (b':=v0.b) (n':=v0.n) (t':=v0.t) (x':=v0.x) (p':=v0.p) (len':=v0.len) (cap':=v0.cap) (.tmp 6) (.tmp 12) wr.heap.size (zah _ rfl) ?_ ?_ ?_ ?_ ?_);rfl;rfl;rfl;rfl;intro w5 hvw5 uw5)
   have z5:Below wr.heap.size wr w5:=zai (zap wr _) hvw5 (Nat.le_refl _) (by simp)
   have HB5:Hid (Below w.heap.size w w5):=Lib.hid (HB.out.trans (z5.mono HB.out.size))
   clear z5 hvw5 hix
   go_wp2_with (first
    |((with_reducible refine zae (.tmp 6) wr.heap.size uw5 ?_ ?_ ?_ ?_);rfl;rfl;rfl)
    |(go_at_call 116;(with_reducible refine (V0.out _).mono ?_);rintro e w6 ⟨rfl,hb6⟩))
   have HB6:Hid (Below w.heap.size w w6):=Lib.hid (HB5.out.trans (hb6.mono HB5.out.size))
   clear hb6 uw5
   go_roundw
   case rel=>exact ⟨HB6,1,by go_num,.inr (.inl ⟨rfl,by rfl,by rfl⟩)⟩
   case measure=>simp [intOf]
  ·have hix:=fun w=>zfs v0 v1 v2 w
   go_upto_region 6 with ((with_reducible refine zal (k':=v1.k) (b':=v1.b) (n':=v1.n) (t':=v1.t) (x':=v1.x) (p':=v1.p) (len':=v1.len) (cap':=v1.cap) (.tmp 6) (.tmp 12) wr.heap.size (zah _ rfl) ?_ ?_ ?_ ?_ ?_);rfl;rfl;rfl;rfl;intro w5 hvw5 uw5)
   have z5:Below wr.heap.size wr w5:=zai (zap wr _) hvw5 (Nat.le_refl _) (by simp)
   have HB5:Hid (Below w.heap.size w w5):=Lib.hid (HB.out.trans (z5.mono HB.out.size))
   clear z5 hvw5 hix
   go_wp2_with (first
    |((with_reducible refine zae (.tmp 6) wr.heap.size uw5 ?_ ?_ ?_ ?_);rfl;rfl;rfl)
    |(go_at_call 116;(with_reducible refine (V1.out _).mono ?_);rintro e w6 ⟨rfl,hb6⟩))
   have HB6:Hid (Below w.heap.size w w6):=Lib.hid (HB5.out.trans (hb6.mono HB5.out.size))
   clear hb6 uw5
   go_roundw
   case rel=>exact ⟨HB6,2,by go_num,.inr (.inr (.inl ⟨rfl,by rfl,by rfl⟩))⟩
   case measure=>simp [intOf]
  ·have hix:=fun w=>zft v0 v1 v2 w
   go_upto_region 6 with ((with_reducible refine zal (k':=v2.k) (b':=v2.b) (n':=v2.n) (t':=v2.t) (x':=v2.x) (p':=v2.p) (len':=v2.len) (cap':=v2.cap) (.tmp 6) (.tmp 12) wr.heap.size (zah _ rfl) ?_ ?_ ?_ ?_ ?_);rfl;rfl;rfl;rfl;intro w5 hvw5 uw5)
   have z5:Below wr.heap.size wr w5:=zai (zap wr _) hvw5 (Nat.le_refl _) (by simp)
   have HB5:Hid (Below w.heap.size w w5):=Lib.hid (HB.out.trans (z5.mono HB.out.size))
   clear z5 hvw5 hix
   go_wp2_with (first
    |((with_reducible refine zae (.tmp 6) wr.heap.size uw5 ?_ ?_ ?_ ?_);rfl;rfl;rfl)
    |(go_at_call 116;(with_reducible refine (V2.out _).mono ?_);rintro e w6 ⟨rfl,hb6⟩))
   have HB6:Hid (Below w.heap.size w w6):=Lib.hid (HB5.out.trans (hb6.mono HB5.out.size))
   clear hb6 uw5
   go_roundw
   case rel=>exact ⟨HB6,3,by go_num,.inr (.inr (.inr ⟨rfl,by rfl,by rfl⟩))⟩
   case measure=>simp [intOf]
  ·go_wp2_with fail
   go_ret
   exact ⟨by rfl,HB.out⟩
theorem zxi (v0 v1 v2:V6) (h0:∀ W,Calls Tryz.prog 116 #[.agg #[.int .i64 v0.k,.bool v0.b,.int .i64 v0.n,.string v0.t,.string v0.x,.slice v0.p v0.len v0.cap]] W fun e w'=>e=.returned (.bool false)∧Below W.heap.size W w') (h1:∀ W,Calls Tryz.prog 116 #[.agg #[.int .i64 v1.k,.bool v1.b,.int .i64 v1.n,.string v1.t,.string v1.x,.slice v1.p v1.len v1.cap]] W fun e w'=>e=.returned (.bool true)∧Below W.heap.size W w') (h2:∀ W,Calls Tryz.prog 116 #[.agg #[.int .i64 v2.k,.bool v2.b,.int .i64 v2.n,.string v2.t,.string v2.x,.slice v2.p v2.len v2.cap]] W fun e w'=>e=.returned (.bool false)∧Below W.heap.size W w') (w:World):
 Calls Tryz.prog 115 #[.agg #[.int .i64 v0.k,.bool v0.b,.int .i64 v0.n,.string v0.t,.string v0.x,.slice v0.p v0.len v0.cap,.int .i64 v1.k,.bool v1.b,.int .i64 v1.n,.string v1.t,.string v1.x,.slice v1.p v1.len v1.cap,.int .i64 v2.k,.bool v2.b,.int .i64 v2.n,.string v2.t,.string v2.x,.slice v2.p v2.len v2.cap]] w fun e w'=>e=.returned (.string ⟨#[115,111,112]⟩)∧Below w.heap.size w w':=by
 obtain ⟨W0,hW0⟩:∃ W0,W0=w.alloc (.cells #[.int .i64 v0.k,.bool v0.b,.int .i64 v0.n,.string v0.t,.string v0.x,.slice v0.p v0.len v0.cap,.int .i64 v1.k,.bool v1.b,.int .i64 v1.n,.string v1.t,.string v1.x,.slice v1.p v1.len v1.cap,.int .i64 v2.k,.bool v2.b,.int .i64 v2.n,.string v2.t,.string v2.x,.slice v2.p v2.len v2.cap] 63):=⟨_,rfl⟩
 have b0:Below w.heap.size w W0:=by rw [hW0];exact zap _ _
 have way0:Way W0 w.heap.size v0 v1 v2:=by rw [hW0];exact zag _ _ rfl
 have HW:=Lib.hid hW0
 have HB:=Lib.hid b0
 have V0:=Lib.hid h0
 have V1:=Lib.hid h1
 have V2:=Lib.hid h2
 clear hW0 b0 h0 h1 h2
 go_enter Tryz.func115,Tryz.ntmps115
 go_upto_region 2 with fail
 rw [← HW.out]
 go_wp2_with ((with_reducible refine zbb (.tmp 1) w.heap.size v0 v1 v2 way0 ?_ ?_ ?_ ?_);rfl;rfl;rfl)
 clear way0
 go_loopw [3,4,9] (fun s3 s4 s9 wr=>Hid (Below w.heap.size w wr)∧∃ j:Nat,s9=.int .i64 j∧((j=0∧s3=.string ⟨#[]⟩∧s4=.string ⟨#[]⟩)∨(j=1∧s3=.string ⟨#[115]⟩∧s4=.string ⟨#[]⟩)∨(j=2∧s3=.string ⟨#[115]⟩∧s4=.string ⟨#[112]⟩)∨(j=3∧s3=.string ⟨#[115,111]⟩∧s4=.string ⟨#[112]⟩))) (fun _ _ s9 _=>3 - (intOf s9).toNat)
 case atStart=>exact ⟨HB,0,rfl,.inl ⟨rfl,rfl,rfl⟩⟩
 case round=>
  clear HB
  obtain ⟨HB,j,rfl,⟨rfl,rfl,rfl⟩ | ⟨rfl,rfl,rfl⟩ | ⟨rfl,rfl,rfl⟩ | ⟨rfl,rfl,rfl⟩⟩:=hrel
  ·have hix:=fun w=>zfr v0 v1 v2 w
   go_upto_region 6 with ((with_reducible refine zal (k':=v0.k) (b':=v0.b) (n':=v0.n) (t':=v0.t) (x':=v0.x) (p':=v0.p) (len':=v0.len) (cap':=v0.cap) (.tmp 6) (.tmp 12) wr.heap.size (zah _ rfl) ?_ ?_ ?_ ?_ ?_);rfl;rfl;rfl;rfl;intro w5 hvw5 uw5)
   have z5:Below wr.heap.size wr w5:=zai (zap wr _) hvw5 (Nat.le_refl _) (by simp)
   have HB5:Hid (Below w.heap.size w w5):=Lib.hid (HB.out.trans (z5.mono HB.out.size))
   clear z5 hvw5 hix
   go_wp2_with (first
    |((with_reducible refine zae (.tmp 6) wr.heap.size uw5 ?_ ?_ ?_ ?_);rfl;rfl;rfl)
    |(go_at_call 116;(with_reducible refine (V0.out _).mono ?_);rintro e w6 ⟨rfl,hb6⟩))
   have HB6:Hid (Below w.heap.size w w6):=Lib.hid (HB5.out.trans (hb6.mono HB5.out.size))
   clear hb6 uw5
   go_roundw
   case rel=>exact ⟨HB6,1,by go_num,.inr (.inl ⟨rfl,by rfl,by rfl⟩)⟩
   case measure=>simp [intOf]
  ·have hix:=fun w=>zfs v0 v1 v2 w
   go_upto_region 6 with ((with_reducible refine zal (k':=v1.k) (b':=v1.b) (n':=v1.n) (t':=v1.t) (x':=v1.x) (p':=v1.p) (len':=v1.len) (cap':=v1.cap) (.tmp 6) (.tmp 12) wr.heap.size (zah _ rfl) ?_ ?_ ?_ ?_ ?_);rfl;rfl;rfl;rfl;intro w5 hvw5 uw5)
   have z5:Below wr.heap.size wr w5:=zai (zap wr _) hvw5 (Nat.le_refl _) (by simp)
   have HB5:Hid (Below w.heap.size w w5):=Lib.hid (HB.out.trans (z5.mono HB.out.size))
   clear z5 hvw5 hix
   go_wp2_with (first
    |((with_reducible refine zae (.tmp 6) wr.heap.size uw5 ?_ ?_ ?_ ?_);rfl;rfl;rfl)
    |(go_at_call 116;(with_reducible refine (V1.out _).mono ?_);rintro e w6 ⟨rfl,hb6⟩))
   have HB6:Hid (Below w.heap.size w w6):=Lib.hid (HB5.out.trans (hb6.mono HB5.out.size))
   clear hb6 uw5
   go_roundw
   case rel=>exact ⟨HB6,2,by go_num,.inr (.inr (.inl ⟨rfl,by rfl,by rfl⟩))⟩
   case measure=>simp [intOf]
  ·have hix:=fun w=>zft v0 v1 v2 w
   go_upto_region 6 with ((with_reducible refine zal (k':=v2.k) (b':=v2.b) (n':=v2.n) (t':=v2.t) (x':=v2.x) (p':=v2.p) (len':=v2.len) (cap':=v2.cap) (.tmp 6) (.tmp 12) wr.heap.size (zah _ rfl) ?_ ?_ ?_ ?_ ?_);rfl;rfl;rfl;rfl;intro w5 hvw5 uw5)
   have z5:Below wr.heap.size wr w5:=zai (zap wr _) hvw5 (Nat.le_refl _) (by simp)
   have HB5:Hid (Below w.heap.size w w5):=Lib.hid (HB.out.trans (z5.mono HB.out.size))
   clear z5 hvw5 hix
   go_wp2_with (first
    |((with_reducible refine zae (.tmp 6) wr.heap.size uw5 ?_ ?_ ?_ ?_);rfl;rfl;rfl)
    |(go_at_call 116;(with_reducible refine (V2.out _).mono ?_);rintro e w6 ⟨rfl,hb6⟩))
   have HB6:Hid (Below w.heap.size w w6):=Lib.hid (HB5.out.trans (hb6.mono HB5.out.size))
   clear hb6 uw5
   go_roundw
   case rel=>exact ⟨HB6,3,by go_num,.inr (.inr (.inr ⟨rfl,by rfl,by rfl⟩))⟩
   case measure=>simp [intOf]
  ·go_wp2_with fail
   go_ret
   exact ⟨by rfl,HB.out⟩
theorem zxj (v0 v1 v2:V6) (h0:∀ W,Calls Tryz.prog 116 #[.agg #[.int .i64 v0.k,.bool v0.b,.int .i64 v0.n,.string v0.t,.string v0.x,.slice v0.p v0.len v0.cap]] W fun e w'=>e=.returned (.bool false)∧Below W.heap.size W w') (h1:∀ W,Calls Tryz.prog 116 #[.agg #[.int .i64 v1.k,.bool v1.b,.int .i64 v1.n,.string v1.t,.string v1.x,.slice v1.p v1.len v1.cap]] W fun e w'=>e=.returned (.bool false)∧Below W.heap.size W w') (h2:∀ W,Calls Tryz.prog 116 #[.agg #[.int .i64 v2.k,.bool v2.b,.int .i64 v2.n,.string v2.t,.string v2.x,.slice v2.p v2.len v2.cap]] W fun e w'=>e=.returned (.bool true)∧Below W.heap.size W w') (w:World):
 Calls Tryz.prog 115 #[.agg #[.int .i64 v0.k,.bool v0.b,.int .i64 v0.n,.string v0.t,.string v0.x,.slice v0.p v0.len v0.cap,.int .i64 v1.k,.bool v1.b,.int .i64 v1.n,.string v1.t,.string v1.x,.slice v1.p v1.len v1.cap,.int .i64 v2.k,.bool v2.b,.int .i64 v2.n,.string v2.t,.string v2.x,.slice v2.p v2.len v2.cap]] w fun e w'=>e=.returned (.string ⟨#[115,112,111]⟩)∧Below w.heap.size w w':=by
 obtain ⟨W0,hW0⟩:∃ W0,W0=w.alloc (.cells #[.int .i64 v0.k,.bool v0.b,.int .i64 v0.n,.string v0.t,.string v0.x,.slice v0.p v0.len v0.cap,.int .i64 v1.k,.bool v1.b,.int .i64 v1.n,.string v1.t,.string v1.x,.slice v1.p v1.len v1.cap,.int .i64 v2.k,.bool v2.b,.int .i64 v2.n,.string v2.t,.string v2.x,.slice v2.p v2.len v2.cap] 63):=⟨_,rfl⟩
 have b0:Below w.heap.size w W0:=by rw [hW0];exact zap _ _
 have way0:Way W0 w.heap.size v0 v1 v2:=by rw [hW0];exact zag _ _ rfl
 have HW:=Lib.hid hW0
 have HB:=Lib.hid b0
 have V0:=Lib.hid h0
 have V1:=Lib.hid h1
 have V2:=Lib.hid h2
 clear hW0 b0 h0 h1 h2
 go_enter Tryz.func115,Tryz.ntmps115
 go_upto_region 2 with fail
 rw [← HW.out]
 go_wp2_with ((with_reducible refine zbb (.tmp 1) w.heap.size v0 v1 v2 way0 ?_ ?_ ?_ ?_);rfl;rfl;rfl)
 clear way0
 go_loopw [3,4,9] (fun s3 s4 s9 wr=>Hid (Below w.heap.size w wr)∧∃ j:Nat,s9=.int .i64 j∧((j=0∧s3=.string ⟨#[]⟩∧s4=.string ⟨#[]⟩)∨(j=1∧s3=.string ⟨#[115]⟩∧s4=.string ⟨#[]⟩)∨(j=2∧s3=.string ⟨#[115,112]⟩∧s4=.string ⟨#[]⟩)∨(j=3∧s3=.string ⟨#[115,112]⟩∧s4=.string ⟨#[111]⟩))) (fun _ _ s9 _=>3 - (intOf s9).toNat)
 case atStart=>exact ⟨HB,0,rfl,.inl ⟨rfl,rfl,rfl⟩⟩
 case round=>
  clear HB
  obtain ⟨HB,j,rfl,⟨rfl,rfl,rfl⟩ | ⟨rfl,rfl,rfl⟩ | ⟨rfl,rfl,rfl⟩ | ⟨rfl,rfl,rfl⟩⟩:=hrel
  ·have hix:=fun w=>zfr v0 v1 v2 w
   go_upto_region 6 with ((with_reducible refine zal (k':=v0.k) (b':=v0.b) (n':=v0.n) (t':=v0.t) (x':=v0.x) (p':=v0.p) (len':=v0.len) (cap':=v0.cap) (.tmp 6) (.tmp 12) wr.heap.size (zah _ rfl) ?_ ?_ ?_ ?_ ?_);rfl;rfl;rfl;rfl;intro w5 hvw5 uw5)
   have z5:Below wr.heap.size wr w5:=zai (zap wr _) hvw5 (Nat.le_refl _) (by simp)
   have HB5:Hid (Below w.heap.size w w5):=Lib.hid (HB.out.trans (z5.mono HB.out.size))
   clear z5 hvw5 hix
   go_wp2_with (first
    |((with_reducible refine zae (.tmp 6) wr.heap.size uw5 ?_ ?_ ?_ ?_);rfl;rfl;rfl)
    |(go_at_call 116;(with_reducible refine (V0.out _).mono ?_);rintro e w6 ⟨rfl,hb6⟩))
   have HB6:Hid (Below w.heap.size w w6):=Lib.hid (HB5.out.trans (hb6.mono HB5.out.size))
   clear hb6 uw5
   go_roundw
   case rel=>exact ⟨HB6,1,by go_num,.inr (.inl ⟨rfl,by rfl,by rfl⟩)⟩
   case measure=>simp [intOf]
  ·have hix:=fun w=>zfs v0 v1 v2 w
   go_upto_region 6 with ((with_reducible refine zal (k':=v1.k) (b':=v1.b) (n':=v1.n) (t':=v1.t) (x':=v1.x) (p':=v1.p) (len':=v1.len) (cap':=v1.cap) (.tmp 6) (.tmp 12) wr.heap.size (zah _ rfl) ?_ ?_ ?_ ?_ ?_);rfl;rfl;rfl;rfl;intro w5 hvw5 uw5)
   have z5:Below wr.heap.size wr w5:=zai (zap wr _) hvw5 (Nat.le_refl _) (by simp)
   have HB5:Hid (Below w.heap.size w w5):=Lib.hid (HB.out.trans (z5.mono HB.out.size))
   clear z5 hvw5 hix
   go_wp2_with (first
    |((with_reducible refine zae (.tmp 6) wr.heap.size uw5 ?_ ?_ ?_ ?_);rfl;rfl;rfl)
    |(go_at_call 116;(with_reducible refine (V1.out _).mono ?_);rintro e w6 ⟨rfl,hb6⟩))
   have HB6:Hid (Below w.heap.size w w6):=Lib.hid (HB5.out.trans (hb6.mono HB5.out.size))
   clear hb6 uw5
   go_roundw
   case rel=>exact ⟨HB6,2,by go_num,.inr (.inr (.inl ⟨rfl,by rfl,by rfl⟩))⟩
   case measure=>simp [intOf]
  ·have hix:=fun w=>zft v0 v1 v2 w
   go_upto_region 6 with ((with_reducible refine zal (k':=v2.k) (b':=v2.b) (n':=v2.n) (t':=v2.t) (x':=v2.x) (p':=v2.p) (len':=v2.len) (cap':=v2.cap) (.tmp 6) (.tmp 12) wr.heap.size (zah _ rfl) ?_ ?_ ?_ ?_ ?_);rfl;rfl;rfl;rfl;intro w5 hvw5 uw5)
   have z5:Below wr.heap.size wr w5:=zai (zap wr _) hvw5 (Nat.le_refl _) (by simp)
   have HB5:Hid (Below w.heap.size w w5):=Lib.hid (HB.out.trans (z5.mono HB.out.size))
   clear z5 hvw5 hix
   go_wp2_with (first
    |((with_reducible refine zae (.tmp 6) wr.heap.size uw5 ?_ ?_ ?_ ?_);rfl;rfl;rfl)
    |(go_at_call 116;(with_reducible refine (V2.out _).mono ?_);rintro e w6 ⟨rfl,hb6⟩))
   have HB6:Hid (Below w.heap.size w w6):=Lib.hid (HB5.out.trans (hb6.mono HB5.out.size))
   clear hb6 uw5
   go_roundw
   case rel=>exact ⟨HB6,3,by go_num,.inr (.inr (.inr ⟨rfl,by rfl,by rfl⟩))⟩
   case measure=>simp [intOf]
  ·go_wp2_with fail
   go_ret
   exact ⟨by rfl,HB.out⟩
theorem zxk (v0 v1 v2:V6) (h0:∀ W,Calls Tryz.prog 116 #[.agg #[.int .i64 v0.k,.bool v0.b,.int .i64 v0.n,.string v0.t,.string v0.x,.slice v0.p v0.len v0.cap]] W fun e w'=>e=.returned (.bool false)∧Below W.heap.size W w') (h1:∀ W,Calls Tryz.prog 116 #[.agg #[.int .i64 v1.k,.bool v1.b,.int .i64 v1.n,.string v1.t,.string v1.x,.slice v1.p v1.len v1.cap]] W fun e w'=>e=.returned (.bool false)∧Below W.heap.size W w') (h2:∀ W,Calls Tryz.prog 116 #[.agg #[.int .i64 v2.k,.bool v2.b,.int .i64 v2.n,.string v2.t,.string v2.x,.slice v2.p v2.len v2.cap]] W fun e w'=>e=.returned (.bool false)∧Below W.heap.size W w') (w:World):
 Calls Tryz.prog 115 #[.agg #[.int .i64 v0.k,.bool v0.b,.int .i64 v0.n,.string v0.t,.string v0.x,.slice v0.p v0.len v0.cap,.int .i64 v1.k,.bool v1.b,.int .i64 v1.n,.string v1.t,.string v1.x,.slice v1.p v1.len v1.cap,.int .i64 v2.k,.bool v2.b,.int .i64 v2.n,.string v2.t,.string v2.x,.slice v2.p v2.len v2.cap]] w fun e w'=>e=.returned (.string ⟨#[115,112,111]⟩)∧Below w.heap.size w w':=by
 obtain ⟨W0,hW0⟩:∃ W0,W0=w.alloc (.cells #[.int .i64 v0.k,.bool v0.b,.int .i64 v0.n,.string v0.t,.string v0.x,.slice v0.p v0.len v0.cap,.int .i64 v1.k,.bool v1.b,.int .i64 v1.n,.string v1.t,.string v1.x,.slice v1.p v1.len v1.cap,.int .i64 v2.k,.bool v2.b,.int .i64 v2.n,.string v2.t,.string v2.x,.slice v2.p v2.len v2.cap] 63):=⟨_,rfl⟩
 have b0:Below w.heap.size w W0:=by rw [hW0];exact zap _ _
 have way0:Way W0 w.heap.size v0 v1 v2:=by rw [hW0];exact zag _ _ rfl
 have HW:=Lib.hid hW0
 have HB:=Lib.hid b0
 have V0:=Lib.hid h0
 have V1:=Lib.hid h1
 have V2:=Lib.hid h2
 clear hW0 b0 h0 h1 h2
 go_enter Tryz.func115,Tryz.ntmps115
 go_upto_region 2 with fail
 rw [← HW.out]
 go_wp2_with ((with_reducible refine zbb (.tmp 1) w.heap.size v0 v1 v2 way0 ?_ ?_ ?_ ?_);rfl;rfl;rfl)
 clear way0
 go_loopw [3,4,9] (fun s3 s4 s9 wr=>Hid (Below w.heap.size w wr)∧∃ j:Nat,s9=.int .i64 j∧((j=0∧s3=.string ⟨#[]⟩∧s4=.string ⟨#[]⟩)∨(j=1∧s3=.string ⟨#[115]⟩∧s4=.string ⟨#[]⟩)∨(j=2∧s3=.string ⟨#[115,112]⟩∧s4=.string ⟨#[]⟩)∨(j=3∧s3=.string ⟨#[115,112,111]⟩∧s4=.string ⟨#[]⟩))) (fun _ _ s9 _=>3 - (intOf s9).toNat)
 case atStart=>exact ⟨HB,0,rfl,.inl ⟨rfl,rfl,rfl⟩⟩
 case round=>
  clear HB
  obtain ⟨HB,j,rfl,⟨rfl,rfl,rfl⟩ | ⟨rfl,rfl,rfl⟩ | ⟨rfl,rfl,rfl⟩ | ⟨rfl,rfl,rfl⟩⟩:=hrel
  ·have hix:=fun w=>zfr v0 v1 v2 w
   go_upto_region 6 with ((with_reducible refine zal (k':=v0.k) (b':=v0.b) (n':=v0.n) (t':=v0.t) (x':=v0.x) (p':=v0.p) (len':=v0.len) (cap':=v0.cap) (.tmp 6) (.tmp 12) wr.heap.size (zah _ rfl) ?_ ?_ ?_ ?_ ?_);rfl;rfl;rfl;rfl;intro w5 hvw5 uw5)
   have z5:Below wr.heap.size wr w5:=zai (zap wr _) hvw5 (Nat.le_refl _) (by simp)
   have HB5:Hid (Below w.heap.size w w5):=Lib.hid (HB.out.trans (z5.mono HB.out.size))
   clear z5 hvw5 hix
   go_wp2_with (first
    |((with_reducible refine zae (.tmp 6) wr.heap.size uw5 ?_ ?_ ?_ ?_);rfl;rfl;rfl)
    |(go_at_call 116;(with_reducible refine (V0.out _).mono ?_);rintro e w6 ⟨rfl,hb6⟩))
   have HB6:Hid (Below w.heap.size w w6):=Lib.hid (HB5.out.trans (hb6.mono HB5.out.size))
   clear hb6 uw5
   go_roundw
   case rel=>exact ⟨HB6,1,by go_num,.inr (.inl ⟨rfl,by rfl,by rfl⟩)⟩
   case measure=>simp [intOf]
  ·have hix:=fun w=>zfs v0 v1 v2 w
   go_upto_region 6 with ((with_reducible refine zal (k':=v1.k) (b':=v1.b) (n':=v1.n) (t':=v1.t) (x':=v1.x) (p':=v1.p) (len':=v1.len) (cap':=v1.cap) (.tmp 6) (.tmp 12) wr.heap.size (zah _ rfl) ?_ ?_ ?_ ?_ ?_);rfl;rfl;rfl;rfl;intro w5 hvw5 uw5)
   have z5:Below wr.heap.size wr w5:=zai (zap wr _) hvw5 (Nat.le_refl _) (by simp)
   have HB5:Hid (Below w.heap.size w w5):=Lib.hid (HB.out.trans (z5.mono HB.out.size))
   clear z5 hvw5 hix
   go_wp2_with (first
    |((with_reducible refine zae (.tmp 6) wr.heap.size uw5 ?_ ?_ ?_ ?_);rfl;rfl;rfl)
    |(go_at_call 116;(with_reducible refine (V1.out _).mono ?_);rintro e w6 ⟨rfl,hb6⟩))
   have HB6:Hid (Below w.heap.size w w6):=Lib.hid (HB5.out.trans (hb6.mono HB5.out.size))
   clear hb6 uw5
   go_roundw
   case rel=>exact ⟨HB6,2,by go_num,.inr (.inr (.inl ⟨rfl,by rfl,by rfl⟩))⟩
   case measure=>simp [intOf]
  ·have hix:=fun w=>zft v0 v1 v2 w
   go_upto_region 6 with ((with_reducible refine zal (k':=v2.k) (b':=v2.b) (n':=v2.n) (t':=v2.t) (x':=v2.x) (p':=v2.p) (len':=v2.len) (cap':=v2.cap) (.tmp 6) (.tmp 12) wr.heap.size (zah _ rfl) ?_ ?_ ?_ ?_ ?_);rfl;rfl;rfl;rfl;intro w5 hvw5 uw5)
   have z5:Below wr.heap.size wr w5:=zai (zap wr _) hvw5 (Nat.le_refl _) (by simp)
   have HB5:Hid (Below w.heap.size w w5):=Lib.hid (HB.out.trans (z5.mono HB.out.size))
   clear z5 hvw5 hix
   go_wp2_with (first
    |((with_reducible refine zae (.tmp 6) wr.heap.size uw5 ?_ ?_ ?_ ?_);rfl;rfl;rfl)
    |(go_at_call 116;(with_reducible refine (V2.out _).mono ?_);rintro e w6 ⟨rfl,hb6⟩))
   have HB6:Hid (Below w.heap.size w w6):=Lib.hid (HB5.out.trans (hb6.mono HB5.out.size))
   clear hb6 uw5
   go_roundw
   case rel=>exact ⟨HB6,3,by go_num,.inr (.inr (.inr ⟨rfl,by rfl,by rfl⟩))⟩
   case measure=>simp [intOf]
  ·go_wp2_with fail
   go_ret
   exact ⟨by rfl,HB.out⟩
theorem aheadAt (v0 v1 v2:V6) (b:Nat→Bool) (h0:b 0=decide (v0.k=0)) (h1:b 1=decide (v1.k=0)) (h2:b 2=decide (v2.k=0)) (w:World):
 Calls Tryz.prog 115 #[.agg #[.int .i64 v0.k,.bool v0.b,.int .i64 v0.n,.string v0.t,.string v0.x,.slice v0.p v0.len v0.cap,.int .i64 v1.k,.bool v1.b,.int .i64 v1.n,.string v1.t,.string v1.x,.slice v1.p v1.len v1.cap,.int .i64 v2.k,.bool v2.b,.int .i64 v2.n,.string v2.t,.string v2.x,.slice v2.p v2.len v2.cap]] w fun e w'=>e=.returned (.string (onm (ahd b)))∧Below w.heap.size w w':=by
 have k0:=fun W=>zn8 v0 _ h0 W
 have k1:=fun W=>zn8 v1 _ h1 W
 have k2:=fun W=>zn8 v2 _ h2 W
 clear h0 h1 h2
 rw [← zzn]
 unfold bdd bdd bdd bdd opd opd opd opd
 cases e0:b 0 <;> cases e1:b 1 <;> cases e2:b 2 <;> rw [e0] at k0 <;> rw [e1] at k1 <;> rw [e2] at k2
 ·exact zxk v0 v1 v2 k0 k1 k2 w
 ·exact zxj v0 v1 v2 k0 k1 k2 w
 ·exact zxi v0 v1 v2 k0 k1 k2 w
 ·exact zxh v0 v1 v2 k0 k1 k2 w
 ·exact zxg v0 v1 v2 k0 k1 k2 w
 ·exact zxf v0 v1 v2 k0 k1 k2 w
 ·exact zxe v0 v1 v2 k0 k1 k2 w
 ·exact zxd v0 v1 v2 k0 k1 k2 w
end Go.Proofs.YtanbgdhmfjgihaaGreatDoor
