/- Texts of one kind, one behind the other: each says ahead of itself what it shows. -/
import Derived.Test.YtanbgdhmfjgihaaGreatDoorUbb
import Derived.Test.YtanbgdhmfjgihaaGreatDoorUba
namespace Go.Proofs.YtanbgdhmfjgihaaGreatDoor
open Go.RowKit
set_option maxHeartbeats 12800000
set_option maxRecDepth 20000
def zd8 (vi vj:V6):Bool:=decide (vi.k=0) && (decide (vj.k=0) && (!vi.t.toList.isEmpty && (vi.t.toList == vj.t.toList)))
def zbg (vi vj:V6) (ri rj:Int):Bool:=!(zd8 vi vj && (ri != rj))
def zlm (v0 v1 v2:V6) (r0 r1 r2:Int):Bool:=zbg v1 v0 r1 r0 && (zbg v2 v0 r2 r0 && zbg v2 v1 r2 r1)
theorem zdg {vi vj:V6} (ri rj:Int) (h:zd8 vi vj=false):zbg vi vj ri rj=true:=by unfold zbg;rw [h];rfl
theorem zrq {vi vj:V6} {ri rj:Int} (h:ri=rj):zbg vi vj ri rj=true:=by unfold zbg;rw [h];simp
theorem zn9 {vi vj:V6} {ri rj:Int} (h:zd8 vi vj=true) (e:ri≠rj):zbg vi vj ri rj=false:=by unfold zbg;rw [h];simp [e]
theorem zrr {vi:V6} (vj:V6) (h:false=decide (vi.k=0)):zd8 vi vj=false:=by unfold zd8;rw [← h];rfl
theorem zrs (vi:V6) {vj:V6} (h:false=decide (vj.k=0)):zd8 vi vj=false:=by unfold zd8;rw [← h];simp
theorem zrt {vi:V6} (vj:V6) (h:vi.t.toList.isEmpty=true):zd8 vi vj=false:=by unfold zd8;rw [h];simp
theorem zru {vi vj:V6} (h:(vi.t.toList == vj.t.toList)=false):zd8 vi vj=false:=by unfold zd8;rw [h];simp
theorem zrv {vi vj:V6} (h1:true=decide (vi.k=0)) (h2:true=decide (vj.k=0)) (h3:vi.t.toList.isEmpty=false) (h4:(vi.t.toList == vj.t.toList)=true):zd8 vi vj=true:=by unfold zd8;rw [← h1,← h2,h3,h4];rfl
theorem joinAt (v0 v1 v2:V6) (r0 r1 r2:Int) (w:World):Calls Tryz.prog 90 #[.agg #[.int .i64 v0.k,.bool v0.b,.int .i64 v0.n,.string v0.t,.string v0.x,.slice v0.p v0.len v0.cap,.int .i64 v1.k,.bool v1.b,.int .i64 v1.n,.string v1.t,.string v1.x,.slice v1.p v1.len v1.cap,.int .i64 v2.k,.bool v2.b,.int .i64 v2.n,.string v2.t,.string v2.x,.slice v2.p v2.len v2.cap],.agg #[.int .i64 r0,.int .i64 r1,.int .i64 r2]] w fun e w'=>e=.returned (.bool (zlm v0 v1 v2 r0 r1 r2))∧Below w.heap.size w w':=by
 obtain ⟨W0,hW0⟩:∃ W0,W0=(w.alloc (.cells #[.int .i64 v0.k,.bool v0.b,.int .i64 v0.n,.string v0.t,.string v0.x,.slice v0.p v0.len v0.cap,.int .i64 v1.k,.bool v1.b,.int .i64 v1.n,.string v1.t,.string v1.x,.slice v1.p v1.len v1.cap,.int .i64 v2.k,.bool v2.b,.int .i64 v2.n,.string v2.t,.string v2.x,.slice v2.p v2.len v2.cap] 63)).alloc (.cells #[.int .i64 r0,.int .i64 r1,.int .i64 r2] 81):=⟨_,rfl⟩
 have x0:Below w.heap.size w W0:=by rw [hW0];exact zdx _ _ _
 have way0:Way W0 w.heap.size v0 v1 v2:=by rw [hW0];exact zau _ (zag _ _ rfl)
 have R0:W0.heap[w.heap.size+1]?=some (.cells #[.int .i64 r0,.int .i64 r1,.int .i64 r2] 81):=by rw [hW0];exact zag _ _ (by simp)
 obtain ⟨p,hp⟩:∃ p,p=zlm v0 v1 v2 r0 r1 r2:=⟨_,rfl⟩
 rw [← hp]
 obtain ⟨b0,hb0⟩:∃ b,b=decide (v0.k=0):=⟨_,rfl⟩
 have V0:=Lib.hid (fun W=>zn8 v0 b0 hb0 W)
 have D0:=Lib.hid hb0
 clear hb0
 obtain ⟨b1,hb1⟩:∃ b,b=decide (v1.k=0):=⟨_,rfl⟩
 have V1:=Lib.hid (fun W=>zn8 v1 b1 hb1 W)
 have D1:=Lib.hid hb1
 clear hb1
 obtain ⟨b2,hb2⟩:∃ b,b=decide (v2.k=0):=⟨_,rfl⟩
 have V2:=Lib.hid (fun W=>zn8 v2 b2 hb2 W)
 have D2:=Lib.hid hb2
 clear hb2
 have HW:=Lib.hid hW0
 have HB0:=Lib.hid x0
 have HP:=Lib.hid hp
 have HY:=Lib.hid way0
 have HR:=Lib.hid R0
 clear hW0 x0 hp
 go_enter Tryz.func90,Tryz.ntmps90
 go_upto_region 2 with ((with_reducible refine zbb (.tmp 2) w.heap.size v0 v1 v2 (HW.out ▸ way0) ?_ ?_ ?_ ?_);rfl;rfl;rfl)
 rw [← HW.out]
 clear way0 R0
 go_loopg [11] 3 (fun gg s11 wr=>∃ i:Nat,i+gg=3∧s11=.int .i64 i∧Hid (Below W0.heap.size W0 wr)∧(i=0∨i=1∨(i=2∧Hid (zbg v1 v0 r1 r0=true))∨(i=3∧Hid (p=true))))
 case atStart=>exact ⟨0,rfl,rfl,Lib.hid (Below.refl _ _),.inl rfl⟩
 case round=>
  obtain ⟨i,hig,rfl,HB,rfl | rfl | ⟨rfl,HP1⟩ | ⟨rfl,HP2⟩⟩:=hrel
  ·have hix:=fun w=>zfr v0 v1 v2 w
   go_upto_region 4 with ((with_reducible refine zal (k':=v0.k) (b':=v0.b) (n':=v0.n) (t':=v0.t) (x':=v0.x) (p':=v0.p) (len':=v0.len) (cap':=v0.cap) (.tmp 6) (.tmp 14) wr.heap.size (zah _ rfl) ?_ ?_ ?_ ?_ ?_);rfl;rfl;rfl;rfl;intro w5 hvw5 uw5)
   have z5:Below wr.heap.size wr w5:=zai (zap wr _) hvw5 (Nat.le_refl _) (by simp)
   have HB5:=Lib.hid (HB.out.trans (z5.mono HB.out.size))
   have HS5:=Lib.hid uw5
   clear z5 hvw5 hix uw5
   generalize wr.heap.size=B5 at*
   go_wp2_with fail
   go_loopg [18] 0 (fun gg s18 wq=>∃ j:Nat,j+gg=0∧s18=.int .i64 j∧Hid (Below W0.heap.size W0 wq)∧Hid (Below w5.heap.size w5 wq)∧(j=0))
   case atStart=>exact ⟨0,rfl,rfl,HB5,Lib.hid (Below.refl _ _),rfl⟩
   case round=>
    obtain ⟨j,hjg,rfl,HBq,HCq,rfl⟩:=hrel
    ·go_wp2_with fail
     go_roundg (3 - 1)
     case measure=>omega
     case rel=>exact ⟨1,by omega,by go_num,HBq,.inr (.inl rfl)⟩
  ·have hix:=fun w=>zfs v0 v1 v2 w
   go_upto_region 4 with ((with_reducible refine zal (k':=v1.k) (b':=v1.b) (n':=v1.n) (t':=v1.t) (x':=v1.x) (p':=v1.p) (len':=v1.len) (cap':=v1.cap) (.tmp 6) (.tmp 14) wr.heap.size (zah _ rfl) ?_ ?_ ?_ ?_ ?_);rfl;rfl;rfl;rfl;intro w5 hvw5 uw5)
   have z5:Below wr.heap.size wr w5:=zai (zap wr _) hvw5 (Nat.le_refl _) (by simp)
   have HB5:=Lib.hid (HB.out.trans (z5.mono HB.out.size))
   have HS5:=Lib.hid uw5
   clear z5 hvw5 hix uw5
   generalize wr.heap.size=B5 at*
   go_wp2_with fail
   go_loopg [18] 1 (fun gg s18 wq=>∃ j:Nat,j+gg=1∧s18=.int .i64 j∧Hid (Below W0.heap.size W0 wq)∧Hid (Below w5.heap.size w5 wq)∧(j=0∨(j=1∧Hid (zbg v1 v0 r1 r0=true))))
   case atStart=>exact ⟨0,rfl,rfl,HB5,Lib.hid (Below.refl _ _),.inl rfl⟩
   case round=>
    obtain ⟨j,hjg,rfl,HBq,HCq,rfl | ⟨rfl,HQ1⟩⟩:=hrel
    ·have RJ:=(HY.out.below HBq.out).r0
     have S6:=(HS5.out).below HCq.out
     go_upto_region 7 with (first
      |((with_reducible refine zam (.tmp 21) w.heap.size 0 v0 RJ ?_ ?_ ?_ ?_);rfl;rfl;rfl)
      |((with_reducible refine zal (k':=v0.k) (b':=v0.b) (n':=v0.n) (t':=v0.t) (x':=v0.x) (p':=v0.p) (len':=v0.len) (cap':=v0.cap) (.tmp 8) (.tmp 22) wr.heap.size (zah _ rfl) ?_ ?_ ?_ ?_ ?_);rfl;rfl;rfl;rfl;intro w6 hvw6 uw6))
     replace S6:Six w6 B5 v1.k v1.b v1.n v1.t v1.x v1.p v1.len v1.cap:=S6.below (zai (zap wr _) hvw6 (Nat.le_refl _) (by simp))
     have z6:Below wr.heap.size wr w6:=zai (zap wr _) hvw6 (Nat.le_refl _) (by simp)
     have HB6:=Lib.hid (HBq.out.trans (z6.mono HBq.out.size))
     have HC6:=Lib.hid (HCq.out.trans (z6.mono HCq.out.size))
     clear z6 hvw6 RJ
     cases b1 with
     | false=>
       go_upto_region 8 with (first
        |((with_reducible refine zaa (.tmp 6) B5 S6 ?_ ?_ ?_ ?_);rfl;rfl;rfl)
        |((with_reducible refine zae (.tmp 8) wr.heap.size S8b ?_ ?_ ?_ ?_);rfl;rfl;rfl)
        |(go_at_call 116;(with_reducible refine (V1.out _).mono ?_);rintro e w7 ⟨rfl,hb7⟩;have S6b:=S6.below hb7;have S8b:=uw6.below hb7;have H7:=Lib.hid hb7;clear hb7))
       have HB9:Hid (Below W0.heap.size W0 w7):=Lib.hid (HB6.out.trans (H7.out.mono HB6.out.size))
       have HC9:Hid (Below w5.heap.size w5 w7):=Lib.hid (HC6.out.trans (H7.out.mono HC6.out.size))
       have HPK:Hid (zbg v1 v0 r1 r0=true):=Lib.hid (zdg _ _ (zrr _ D1.out))
       clear S6 uw6
       go_quiet (fail)
       have HB10:=Lib.hid (zao HB9.out nq)
       have HC10:=Lib.hid (zao HC9.out nq)
       generalize World.drewN w7 nq=wz at*
       go_wp2_with fail
       go_roundg (gk - 1)
       case measure=>omega
       case rel=>exact ⟨1,by omega,by go_num,HB10,HC10,.inr ⟨rfl,HPK⟩⟩
     | true=>
       cases b0 with
       | false=>
         go_upto_region 8 with (first
          |((with_reducible refine zaa (.tmp 6) B5 S6 ?_ ?_ ?_ ?_);rfl;rfl;rfl)
          |((with_reducible refine zae (.tmp 8) wr.heap.size S8b ?_ ?_ ?_ ?_);rfl;rfl;rfl)
          |(go_at_call 116;(with_reducible refine (V1.out _).mono ?_);rintro e w7 ⟨rfl,hb7⟩;have S6b:=S6.below hb7;have S8b:=uw6.below hb7;have H7:=Lib.hid hb7;clear hb7)
          |(go_at_call 116;(with_reducible refine (V0.out _).mono ?_);rintro e w8 ⟨rfl,hb8⟩;have S6c:=S6b.below hb8;have S8c:=S8b.below hb8;have k6:=zab S6c 3 rfl;have k8:=zab S8c 3 rfl;have H8:=Lib.hid hb8;clear hb8))
         have HB9:Hid (Below W0.heap.size W0 w8):=Lib.hid ((HB6.out.trans (H7.out.mono HB6.out.size)).trans (H8.out.mono ((HB6.out.trans (H7.out.mono HB6.out.size)).size)))
         have HC9:Hid (Below w5.heap.size w5 w8):=Lib.hid ((HC6.out.trans (H7.out.mono HC6.out.size)).trans (H8.out.mono ((HC6.out.trans (H7.out.mono HC6.out.size)).size)))
         have HPK:Hid (zbg v1 v0 r1 r0=true):=Lib.hid (zdg _ _ (zrs _ D0.out))
         clear S6 uw6
         go_quiet (fail)
         have HB10:=Lib.hid (zao HB9.out nq)
         have HC10:=Lib.hid (zao HC9.out nq)
         generalize World.drewN w8 nq=wz at*
         go_wp2_with fail
         go_roundg (gk - 1)
         case measure=>omega
         case rel=>exact ⟨1,by omega,by go_num,HB10,HC10,.inr ⟨rfl,HPK⟩⟩
       | true=>
         cases he:v1.t.toList.isEmpty with
         | true=>
           have he1:v1.t.toList=[]:=List.isEmpty_iff.1 he
           go_upto_region 8 with (first
            |((with_reducible refine zaa (.tmp 6) B5 S6 ?_ ?_ ?_ ?_);rfl;rfl;rfl)
            |((with_reducible refine zae (.tmp 8) wr.heap.size S8b ?_ ?_ ?_ ?_);rfl;rfl;rfl)
            |(go_at_call 116;(with_reducible refine (V1.out _).mono ?_);rintro e w7 ⟨rfl,hb7⟩;have S6b:=S6.below hb7;have S8b:=uw6.below hb7;have H7:=Lib.hid hb7;clear hb7)
            |(go_at_call 116;(with_reducible refine (V0.out _).mono ?_);rintro e w8 ⟨rfl,hb8⟩;have S6c:=S6b.below hb8;have S8c:=S8b.below hb8;have k6:=zab S6c 3 rfl;have k8:=zab S8c 3 rfl;have H8:=Lib.hid hb8;clear hb8))
           have HB9:Hid (Below W0.heap.size W0 w8):=Lib.hid ((HB6.out.trans (H7.out.mono HB6.out.size)).trans (H8.out.mono ((HB6.out.trans (H7.out.mono HB6.out.size)).size)))
           have HC9:Hid (Below w5.heap.size w5 w8):=Lib.hid ((HC6.out.trans (H7.out.mono HC6.out.size)).trans (H8.out.mono ((HC6.out.trans (H7.out.mono HC6.out.size)).size)))
           have HPK:Hid (zbg v1 v0 r1 r0=true):=Lib.hid (zdg _ _ (zrt _ he))
           clear S6 uw6
           go_quiet (fail)
           have HB10:=Lib.hid (zao HB9.out nq)
           have HC10:=Lib.hid (zao HC9.out nq)
           generalize World.drewN w8 nq=wz at*
           go_wp2_with fail
           go_roundg (gk - 1)
           case measure=>omega
           case rel=>exact ⟨1,by omega,by go_num,HB10,HC10,.inr ⟨rfl,HPK⟩⟩
         | false=>
           cases hx:(v1.t.toList == v0.t.toList) with
           | false=>
             go_upto_region 8 with (first
              |((with_reducible refine zaa (.tmp 6) B5 S6 ?_ ?_ ?_ ?_);rfl;rfl;rfl)
              |((with_reducible refine zae (.tmp 8) wr.heap.size S8b ?_ ?_ ?_ ?_);rfl;rfl;rfl)
              |(go_at_call 116;(with_reducible refine (V1.out _).mono ?_);rintro e w7 ⟨rfl,hb7⟩;have S6b:=S6.below hb7;have S8b:=uw6.below hb7;have H7:=Lib.hid hb7;clear hb7)
              |(go_at_call 116;(with_reducible refine (V0.out _).mono ?_);rintro e w8 ⟨rfl,hb8⟩;have S6c:=S6b.below hb8;have S8c:=S8b.below hb8;have k6:=zab S6c 3 rfl;have k8:=zab S8c 3 rfl;have H8:=Lib.hid hb8;clear hb8))
             have HB9:Hid (Below W0.heap.size W0 w8):=Lib.hid ((HB6.out.trans (H7.out.mono HB6.out.size)).trans (H8.out.mono ((HB6.out.trans (H7.out.mono HB6.out.size)).size)))
             have HC9:Hid (Below w5.heap.size w5 w8):=Lib.hid ((HC6.out.trans (H7.out.mono HC6.out.size)).trans (H8.out.mono ((HC6.out.trans (H7.out.mono HC6.out.size)).size)))
             have HPK:Hid (zbg v1 v0 r1 r0=true):=Lib.hid (zdg _ _ (zru hx))
             clear S6 uw6
             go_quiet (fail)
             have HB10:=Lib.hid (zao HB9.out nq)
             have HC10:=Lib.hid (zao HC9.out nq)
             generalize World.drewN w8 nq=wz at*
             go_wp2_with fail
             go_roundg (gk - 1)
             case measure=>omega
             case rel=>exact ⟨1,by omega,by go_num,HB10,HC10,.inr ⟨rfl,HPK⟩⟩
           | true=>
             by_cases hrr:r1=r0
             ·have e2:(r1 != r0)=false:=by simp [hrr]
              have HRR:=Lib.hid hrr
              clear hrr
              go_upto_region 8 with (first
               |((with_reducible refine zaa (.tmp 6) B5 S6 ?_ ?_ ?_ ?_);rfl;rfl;rfl)
               |((with_reducible refine zae (.tmp 8) wr.heap.size S8b ?_ ?_ ?_ ?_);rfl;rfl;rfl)
               |(go_at_call 116;(with_reducible refine (V1.out _).mono ?_);rintro e w7 ⟨rfl,hb7⟩;have S6b:=S6.below hb7;have S8b:=uw6.below hb7;have H7:=Lib.hid hb7;clear hb7)
               |(go_at_call 116;(with_reducible refine (V0.out _).mono ?_);rintro e w8 ⟨rfl,hb8⟩;have S6c:=S6b.below hb8;have S8c:=S8b.below hb8;have k6:=zab S6c 3 rfl;have k8:=zab S8c 3 rfl;have H8:=Lib.hid hb8;clear hb8))
              have HB9:Hid (Below W0.heap.size W0 w8):=Lib.hid ((HB6.out.trans (H7.out.mono HB6.out.size)).trans (H8.out.mono ((HB6.out.trans (H7.out.mono HB6.out.size)).size)))
              have HC9:Hid (Below w5.heap.size w5 w8):=Lib.hid ((HC6.out.trans (H7.out.mono HC6.out.size)).trans (H8.out.mono ((HC6.out.trans (H7.out.mono HC6.out.size)).size)))
              have HPK:Hid (zbg v1 v0 r1 r0=true):=Lib.hid (zrq HRR.out)
              have R9:=(HB9.out.block _ (zac HR.out)).trans HR.out
              have kr1:=zab R9 1 rfl
              have kr0:=zab R9 0 rfl
              clear S6 uw6
              go_quiet (fail)
              have HB10:=Lib.hid (zao HB9.out nq)
              have HC10:=Lib.hid (zao HC9.out nq)
              generalize World.drewN w8 nq=wz at*
              go_wp2_with fail
              go_roundg (gk - 1)
              case measure=>omega
              case rel=>exact ⟨1,by omega,by go_num,HB10,HC10,.inr ⟨rfl,HPK⟩⟩
             ·have e2:(r1 != r0)=true:=by simp [hrr]
              have HRR:=Lib.hid hrr
              clear hrr
              go_upto_region 8 with (first
               |((with_reducible refine zaa (.tmp 6) B5 S6 ?_ ?_ ?_ ?_);rfl;rfl;rfl)
               |((with_reducible refine zae (.tmp 8) wr.heap.size S8b ?_ ?_ ?_ ?_);rfl;rfl;rfl)
               |(go_at_call 116;(with_reducible refine (V1.out _).mono ?_);rintro e w7 ⟨rfl,hb7⟩;have S6b:=S6.below hb7;have S8b:=uw6.below hb7;have H7:=Lib.hid hb7;clear hb7)
               |(go_at_call 116;(with_reducible refine (V0.out _).mono ?_);rintro e w8 ⟨rfl,hb8⟩;have S6c:=S6b.below hb8;have S8c:=S8b.below hb8;have k6:=zab S6c 3 rfl;have k8:=zab S8c 3 rfl;have H8:=Lib.hid hb8;clear hb8))
              have HB9:Hid (Below W0.heap.size W0 w8):=Lib.hid ((HB6.out.trans (H7.out.mono HB6.out.size)).trans (H8.out.mono ((HB6.out.trans (H7.out.mono HB6.out.size)).size)))
              have HC9:Hid (Below w5.heap.size w5 w8):=Lib.hid ((HC6.out.trans (H7.out.mono HC6.out.size)).trans (H8.out.mono ((HC6.out.trans (H7.out.mono HC6.out.size)).size)))
              have HPK:Hid (zbg v1 v0 r1 r0=false):=Lib.hid (zn9 (zrv D1.out D0.out he hx) HRR.out)
              have R9:=(HB9.out.block _ (zac HR.out)).trans HR.out
              have kr1:=zab R9 1 rfl
              have kr0:=zab R9 0 rfl
              clear S6 uw6
              go_quiet (fail)
              have HB10:=Lib.hid (zao HB9.out nq)
              generalize World.drewN w8 nq=wz at*
              go_wp2_with fail
              go_ret
              exact ⟨by rw [HP.out,show zlm v0 v1 v2 r0 r1 r2=false from by unfold zlm;rw [HPK.out];rfl];rfl,HB0.out.trans (HB10.out.mono HB0.out.size)⟩
    ·go_wp2_with fail
     go_roundg (3 - 2)
     case measure=>omega
     case rel=>exact ⟨2,by omega,by go_num,HBq,.inr (.inr (.inl ⟨rfl,HQ1⟩))⟩
  ·have hix:=fun w=>zft v0 v1 v2 w
   go_upto_region 4 with ((with_reducible refine zal (k':=v2.k) (b':=v2.b) (n':=v2.n) (t':=v2.t) (x':=v2.x) (p':=v2.p) (len':=v2.len) (cap':=v2.cap) (.tmp 6) (.tmp 14) wr.heap.size (zah _ rfl) ?_ ?_ ?_ ?_ ?_);rfl;rfl;rfl;rfl;intro w5 hvw5 uw5)
   have z5:Below wr.heap.size wr w5:=zai (zap wr _) hvw5 (Nat.le_refl _) (by simp)
   have HB5:=Lib.hid (HB.out.trans (z5.mono HB.out.size))
   have HS5:=Lib.hid uw5
   clear z5 hvw5 hix uw5
   generalize wr.heap.size=B5 at*
   go_wp2_with fail
   go_loopg [18] 2 (fun gg s18 wq=>∃ j:Nat,j+gg=2∧s18=.int .i64 j∧Hid (Below W0.heap.size W0 wq)∧Hid (Below w5.heap.size w5 wq)∧(j=0∨(j=1∧Hid (zbg v2 v0 r2 r0=true))∨(j=2∧Hid (zbg v2 v0 r2 r0=true)∧Hid (zbg v2 v1 r2 r1=true))))
   case atStart=>exact ⟨0,rfl,rfl,HB5,Lib.hid (Below.refl _ _),.inl rfl⟩
   case round=>
    obtain ⟨j,hjg,rfl,HBq,HCq,rfl | ⟨rfl,HQ1⟩ | ⟨rfl,HQ1,HQ2⟩⟩:=hrel
    ·have RJ:=(HY.out.below HBq.out).r0
     have S6:=(HS5.out).below HCq.out
     go_upto_region 7 with (first
      |((with_reducible refine zam (.tmp 21) w.heap.size 0 v0 RJ ?_ ?_ ?_ ?_);rfl;rfl;rfl)
      |((with_reducible refine zal (k':=v0.k) (b':=v0.b) (n':=v0.n) (t':=v0.t) (x':=v0.x) (p':=v0.p) (len':=v0.len) (cap':=v0.cap) (.tmp 8) (.tmp 22) wr.heap.size (zah _ rfl) ?_ ?_ ?_ ?_ ?_);rfl;rfl;rfl;rfl;intro w6 hvw6 uw6))
     replace S6:Six w6 B5 v2.k v2.b v2.n v2.t v2.x v2.p v2.len v2.cap:=S6.below (zai (zap wr _) hvw6 (Nat.le_refl _) (by simp))
     have z6:Below wr.heap.size wr w6:=zai (zap wr _) hvw6 (Nat.le_refl _) (by simp)
     have HB6:=Lib.hid (HBq.out.trans (z6.mono HBq.out.size))
     have HC6:=Lib.hid (HCq.out.trans (z6.mono HCq.out.size))
     clear z6 hvw6 RJ
     cases b2 with
     | false=>
       go_upto_region 8 with (first
        |((with_reducible refine zaa (.tmp 6) B5 S6 ?_ ?_ ?_ ?_);rfl;rfl;rfl)
        |((with_reducible refine zae (.tmp 8) wr.heap.size S8b ?_ ?_ ?_ ?_);rfl;rfl;rfl)
        |(go_at_call 116;(with_reducible refine (V2.out _).mono ?_);rintro e w7 ⟨rfl,hb7⟩;have S6b:=S6.below hb7;have S8b:=uw6.below hb7;have H7:=Lib.hid hb7;clear hb7))
       have HB9:Hid (Below W0.heap.size W0 w7):=Lib.hid (HB6.out.trans (H7.out.mono HB6.out.size))
       have HC9:Hid (Below w5.heap.size w5 w7):=Lib.hid (HC6.out.trans (H7.out.mono HC6.out.size))
       have HPK:Hid (zbg v2 v0 r2 r0=true):=Lib.hid (zdg _ _ (zrr _ D2.out))
       clear S6 uw6
       go_quiet (fail)
       have HB10:=Lib.hid (zao HB9.out nq)
       have HC10:=Lib.hid (zao HC9.out nq)
       generalize World.drewN w7 nq=wz at*
       go_wp2_with fail
       go_roundg (gk - 1)
       case measure=>omega
       case rel=>exact ⟨1,by omega,by go_num,HB10,HC10,.inr (.inl ⟨rfl,HPK⟩)⟩
     | true=>
       cases b0 with
       | false=>
         go_upto_region 8 with (first
          |((with_reducible refine zaa (.tmp 6) B5 S6 ?_ ?_ ?_ ?_);rfl;rfl;rfl)
          |((with_reducible refine zae (.tmp 8) wr.heap.size S8b ?_ ?_ ?_ ?_);rfl;rfl;rfl)
          |(go_at_call 116;(with_reducible refine (V2.out _).mono ?_);rintro e w7 ⟨rfl,hb7⟩;have S6b:=S6.below hb7;have S8b:=uw6.below hb7;have H7:=Lib.hid hb7;clear hb7)
          |(go_at_call 116;(with_reducible refine (V0.out _).mono ?_);rintro e w8 ⟨rfl,hb8⟩;have S6c:=S6b.below hb8;have S8c:=S8b.below hb8;have k6:=zab S6c 3 rfl;have k8:=zab S8c 3 rfl;have H8:=Lib.hid hb8;clear hb8))
         have HB9:Hid (Below W0.heap.size W0 w8):=Lib.hid ((HB6.out.trans (H7.out.mono HB6.out.size)).trans (H8.out.mono ((HB6.out.trans (H7.out.mono HB6.out.size)).size)))
         have HC9:Hid (Below w5.heap.size w5 w8):=Lib.hid ((HC6.out.trans (H7.out.mono HC6.out.size)).trans (H8.out.mono ((HC6.out.trans (H7.out.mono HC6.out.size)).size)))
         have HPK:Hid (zbg v2 v0 r2 r0=true):=Lib.hid (zdg _ _ (zrs _ D0.out))
         clear S6 uw6
         go_quiet (fail)
         have HB10:=Lib.hid (zao HB9.out nq)
         have HC10:=Lib.hid (zao HC9.out nq)
         generalize World.drewN w8 nq=wz at*
         go_wp2_with fail
         go_roundg (gk - 1)
         case measure=>omega
         case rel=>exact ⟨1,by omega,by go_num,HB10,HC10,.inr (.inl ⟨rfl,HPK⟩)⟩
       | true=>
         cases he:v2.t.toList.isEmpty with
         | true=>
           have he1:v2.t.toList=[]:=List.isEmpty_iff.1 he
           go_upto_region 8 with (first
            |((with_reducible refine zaa (.tmp 6) B5 S6 ?_ ?_ ?_ ?_);rfl;rfl;rfl)
            |((with_reducible refine zae (.tmp 8) wr.heap.size S8b ?_ ?_ ?_ ?_);rfl;rfl;rfl)
            |(go_at_call 116;(with_reducible refine (V2.out _).mono ?_);rintro e w7 ⟨rfl,hb7⟩;have S6b:=S6.below hb7;have S8b:=uw6.below hb7;have H7:=Lib.hid hb7;clear hb7)
            |(go_at_call 116;(with_reducible refine (V0.out _).mono ?_);rintro e w8 ⟨rfl,hb8⟩;have S6c:=S6b.below hb8;have S8c:=S8b.below hb8;have k6:=zab S6c 3 rfl;have k8:=zab S8c 3 rfl;have H8:=Lib.hid hb8;clear hb8))
           have HB9:Hid (Below W0.heap.size W0 w8):=Lib.hid ((HB6.out.trans (H7.out.mono HB6.out.size)).trans (H8.out.mono ((HB6.out.trans (H7.out.mono HB6.out.size)).size)))
           have HC9:Hid (Below w5.heap.size w5 w8):=Lib.hid ((HC6.out.trans (H7.out.mono HC6.out.size)).trans (H8.out.mono ((HC6.out.trans (H7.out.mono HC6.out.size)).size)))
           have HPK:Hid (zbg v2 v0 r2 r0=true):=Lib.hid (zdg _ _ (zrt _ he))
           clear S6 uw6
           go_quiet (fail)
           have HB10:=Lib.hid (zao HB9.out nq)
           have HC10:=Lib.hid (zao HC9.out nq)
           generalize World.drewN w8 nq=wz at*
           go_wp2_with fail
           go_roundg (gk - 1)
           case measure=>omega
           case rel=>exact ⟨1,by omega,by go_num,HB10,HC10,.inr (.inl ⟨rfl,HPK⟩)⟩
         | false=>
           cases hx:(v2.t.toList == v0.t.toList) with
           | false=>
             go_upto_region 8 with (first
              |((with_reducible refine zaa (.tmp 6) B5 S6 ?_ ?_ ?_ ?_);rfl;rfl;rfl)
              |((with_reducible refine zae (.tmp 8) wr.heap.size S8b ?_ ?_ ?_ ?_);rfl;rfl;rfl)
              |(go_at_call 116;(with_reducible refine (V2.out _).mono ?_);rintro e w7 ⟨rfl,hb7⟩;have S6b:=S6.below hb7;have S8b:=uw6.below hb7;have H7:=Lib.hid hb7;clear hb7)
              |(go_at_call 116;(with_reducible refine (V0.out _).mono ?_);rintro e w8 ⟨rfl,hb8⟩;have S6c:=S6b.below hb8;have S8c:=S8b.below hb8;have k6:=zab S6c 3 rfl;have k8:=zab S8c 3 rfl;have H8:=Lib.hid hb8;clear hb8))
             have HB9:Hid (Below W0.heap.size W0 w8):=Lib.hid ((HB6.out.trans (H7.out.mono HB6.out.size)).trans (H8.out.mono ((HB6.out.trans (H7.out.mono HB6.out.size)).size)))
             have HC9:Hid (Below w5.heap.size w5 w8):=Lib.hid ((HC6.out.trans (H7.out.mono HC6.out.size)).trans (H8.out.mono ((HC6.out.trans (H7.out.mono HC6.out.size)).size)))
             have HPK:Hid (zbg v2 v0 r2 r0=true):=Lib.hid (zdg _ _ (zru hx))
             clear S6 uw6
             go_quiet (fail)
             have HB10:=Lib.hid (zao HB9.out nq)
             have HC10:=Lib.hid (zao HC9.out nq)
             generalize World.drewN w8 nq=wz at*
             go_wp2_with fail
             go_roundg (gk - 1)
             case measure=>omega
             case rel=>exact ⟨1,by omega,by go_num,HB10,HC10,.inr (.inl ⟨rfl,HPK⟩)⟩
           | true=>
             by_cases hrr:r2=r0
             ·have e2:(r2 != r0)=false:=by simp [hrr]
              have HRR:=Lib.hid hrr
              clear hrr
              go_upto_region 8 with (first
               |((with_reducible refine zaa (.tmp 6) B5 S6 ?_ ?_ ?_ ?_);rfl;rfl;rfl)
               |((with_reducible refine zae (.tmp 8) wr.heap.size S8b ?_ ?_ ?_ ?_);rfl;rfl;rfl)
               |(go_at_call 116;(with_reducible refine (V2.out _).mono ?_);rintro e w7 ⟨rfl,hb7⟩;have S6b:=S6.below hb7;have S8b:=uw6.below hb7;have H7:=Lib.hid hb7;clear hb7)
               |(go_at_call 116;(with_reducible refine (V0.out _).mono ?_);rintro e w8 ⟨rfl,hb8⟩;have S6c:=S6b.below hb8;have S8c:=S8b.below hb8;have k6:=zab S6c 3 rfl;have k8:=zab S8c 3 rfl;have H8:=Lib.hid hb8;clear hb8))
              have HB9:Hid (Below W0.heap.size W0 w8):=Lib.hid ((HB6.out.trans (H7.out.mono HB6.out.size)).trans (H8.out.mono ((HB6.out.trans (H7.out.mono HB6.out.size)).size)))
              have HC9:Hid (Below w5.heap.size w5 w8):=Lib.hid ((HC6.out.trans (H7.out.mono HC6.out.size)).trans (H8.out.mono ((HC6.out.trans (H7.out.mono HC6.out.size)).size)))
              have HPK:Hid (zbg v2 v0 r2 r0=true):=Lib.hid (zrq HRR.out)
              have R9:=(HB9.out.block _ (zac HR.out)).trans HR.out
              have kr2:=zab R9 2 rfl
              have kr0:=zab R9 0 rfl
              clear S6 uw6
              go_quiet (fail)
              have HB10:=Lib.hid (zao HB9.out nq)
              have HC10:=Lib.hid (zao HC9.out nq)
              generalize World.drewN w8 nq=wz at*
              go_wp2_with fail
              go_roundg (gk - 1)
              case measure=>omega
              case rel=>exact ⟨1,by omega,by go_num,HB10,HC10,.inr (.inl ⟨rfl,HPK⟩)⟩
             ·have e2:(r2 != r0)=true:=by simp [hrr]
              have HRR:=Lib.hid hrr
              clear hrr
              go_upto_region 8 with (first
               |((with_reducible refine zaa (.tmp 6) B5 S6 ?_ ?_ ?_ ?_);rfl;rfl;rfl)
               |((with_reducible refine zae (.tmp 8) wr.heap.size S8b ?_ ?_ ?_ ?_);rfl;rfl;rfl)
               |(go_at_call 116;(with_reducible refine (V2.out _).mono ?_);rintro e w7 ⟨rfl,hb7⟩;have S6b:=S6.below hb7;have S8b:=uw6.below hb7;have H7:=Lib.hid hb7;clear hb7)
               |(go_at_call 116;(with_reducible refine (V0.out _).mono ?_);rintro e w8 ⟨rfl,hb8⟩;have S6c:=S6b.below hb8;have S8c:=S8b.below hb8;have k6:=zab S6c 3 rfl;have k8:=zab S8c 3 rfl;have H8:=Lib.hid hb8;clear hb8))
              have HB9:Hid (Below W0.heap.size W0 w8):=Lib.hid ((HB6.out.trans (H7.out.mono HB6.out.size)).trans (H8.out.mono ((HB6.out.trans (H7.out.mono HB6.out.size)).size)))
              have HC9:Hid (Below w5.heap.size w5 w8):=Lib.hid ((HC6.out.trans (H7.out.mono HC6.out.size)).trans (H8.out.mono ((HC6.out.trans (H7.out.mono HC6.out.size)).size)))
              have HPK:Hid (zbg v2 v0 r2 r0=false):=Lib.hid (zn9 (zrv D2.out D0.out he hx) HRR.out)
              have R9:=(HB9.out.block _ (zac HR.out)).trans HR.out
              have kr2:=zab R9 2 rfl
              have kr0:=zab R9 0 rfl
              clear S6 uw6
              go_quiet (fail)
              have HB10:=Lib.hid (zao HB9.out nq)
              generalize World.drewN w8 nq=wz at*
              go_wp2_with fail
              go_ret
              exact ⟨by rw [HP.out,show zlm v0 v1 v2 r0 r1 r2=false from by unfold zlm;rw [HPK.out];simp];rfl,HB0.out.trans (HB10.out.mono HB0.out.size)⟩
    ·have RJ:=(HY.out.below HBq.out).r1
     have S6:=(HS5.out).below HCq.out
     go_upto_region 7 with (first
      |((with_reducible refine zam (.tmp 21) w.heap.size 6 v1 RJ ?_ ?_ ?_ ?_);rfl;rfl;rfl)
      |((with_reducible refine zal (k':=v1.k) (b':=v1.b) (n':=v1.n) (t':=v1.t) (x':=v1.x) (p':=v1.p) (len':=v1.len) (cap':=v1.cap) (.tmp 8) (.tmp 22) wr.heap.size (zah _ rfl) ?_ ?_ ?_ ?_ ?_);rfl;rfl;rfl;rfl;intro w6 hvw6 uw6))
     replace S6:Six w6 B5 v2.k v2.b v2.n v2.t v2.x v2.p v2.len v2.cap:=S6.below (zai (zap wr _) hvw6 (Nat.le_refl _) (by simp))
     have z6:Below wr.heap.size wr w6:=zai (zap wr _) hvw6 (Nat.le_refl _) (by simp)
     have HB6:=Lib.hid (HBq.out.trans (z6.mono HBq.out.size))
     have HC6:=Lib.hid (HCq.out.trans (z6.mono HCq.out.size))
     clear z6 hvw6 RJ
     cases b2 with
     | false=>
       go_upto_region 8 with (first
        |((with_reducible refine zaa (.tmp 6) B5 S6 ?_ ?_ ?_ ?_);rfl;rfl;rfl)
        |((with_reducible refine zae (.tmp 8) wr.heap.size S8b ?_ ?_ ?_ ?_);rfl;rfl;rfl)
        |(go_at_call 116;(with_reducible refine (V2.out _).mono ?_);rintro e w7 ⟨rfl,hb7⟩;have S6b:=S6.below hb7;have S8b:=uw6.below hb7;have H7:=Lib.hid hb7;clear hb7))
       have HB9:Hid (Below W0.heap.size W0 w7):=Lib.hid (HB6.out.trans (H7.out.mono HB6.out.size))
       have HC9:Hid (Below w5.heap.size w5 w7):=Lib.hid (HC6.out.trans (H7.out.mono HC6.out.size))
       have HPK:Hid (zbg v2 v1 r2 r1=true):=Lib.hid (zdg _ _ (zrr _ D2.out))
       clear S6 uw6
       go_quiet (fail)
       have HB10:=Lib.hid (zao HB9.out nq)
       have HC10:=Lib.hid (zao HC9.out nq)
       generalize World.drewN w7 nq=wz at*
       go_wp2_with fail
       go_roundg (gk - 1)
       case measure=>omega
       case rel=>exact ⟨2,by omega,by go_num,HB10,HC10,.inr (.inr ⟨rfl,HQ1,HPK⟩)⟩
     | true=>
       cases b1 with
       | false=>
         go_upto_region 8 with (first
          |((with_reducible refine zaa (.tmp 6) B5 S6 ?_ ?_ ?_ ?_);rfl;rfl;rfl)
          |((with_reducible refine zae (.tmp 8) wr.heap.size S8b ?_ ?_ ?_ ?_);rfl;rfl;rfl)
          |(go_at_call 116;(with_reducible refine (V2.out _).mono ?_);rintro e w7 ⟨rfl,hb7⟩;have S6b:=S6.below hb7;have S8b:=uw6.below hb7;have H7:=Lib.hid hb7;clear hb7)
          |(go_at_call 116;(with_reducible refine (V1.out _).mono ?_);rintro e w8 ⟨rfl,hb8⟩;have S6c:=S6b.below hb8;have S8c:=S8b.below hb8;have k6:=zab S6c 3 rfl;have k8:=zab S8c 3 rfl;have H8:=Lib.hid hb8;clear hb8))
         have HB9:Hid (Below W0.heap.size W0 w8):=Lib.hid ((HB6.out.trans (H7.out.mono HB6.out.size)).trans (H8.out.mono ((HB6.out.trans (H7.out.mono HB6.out.size)).size)))
         have HC9:Hid (Below w5.heap.size w5 w8):=Lib.hid ((HC6.out.trans (H7.out.mono HC6.out.size)).trans (H8.out.mono ((HC6.out.trans (H7.out.mono HC6.out.size)).size)))
         have HPK:Hid (zbg v2 v1 r2 r1=true):=Lib.hid (zdg _ _ (zrs _ D1.out))
         clear S6 uw6
         go_quiet (fail)
         have HB10:=Lib.hid (zao HB9.out nq)
         have HC10:=Lib.hid (zao HC9.out nq)
         generalize World.drewN w8 nq=wz at*
         go_wp2_with fail
         go_roundg (gk - 1)
         case measure=>omega
         case rel=>exact ⟨2,by omega,by go_num,HB10,HC10,.inr (.inr ⟨rfl,HQ1,HPK⟩)⟩
       | true=>
         cases he:v2.t.toList.isEmpty with
         | true=>
           have he1:v2.t.toList=[]:=List.isEmpty_iff.1 he
           go_upto_region 8 with (first
            |((with_reducible refine zaa (.tmp 6) B5 S6 ?_ ?_ ?_ ?_);rfl;rfl;rfl)
            |((with_reducible refine zae (.tmp 8) wr.heap.size S8b ?_ ?_ ?_ ?_);rfl;rfl;rfl)
            |(go_at_call 116;(with_reducible refine (V2.out _).mono ?_);rintro e w7 ⟨rfl,hb7⟩;have S6b:=S6.below hb7;have S8b:=uw6.below hb7;have H7:=Lib.hid hb7;clear hb7)
            |(go_at_call 116;(with_reducible refine (V1.out _).mono ?_);rintro e w8 ⟨rfl,hb8⟩;have S6c:=S6b.below hb8;have S8c:=S8b.below hb8;have k6:=zab S6c 3 rfl;have k8:=zab S8c 3 rfl;have H8:=Lib.hid hb8;clear hb8))
           have HB9:Hid (Below W0.heap.size W0 w8):=Lib.hid ((HB6.out.trans (H7.out.mono HB6.out.size)).trans (H8.out.mono ((HB6.out.trans (H7.out.mono HB6.out.size)).size)))
           have HC9:Hid (Below w5.heap.size w5 w8):=Lib.hid ((HC6.out.trans (H7.out.mono HC6.out.size)).trans (H8.out.mono ((HC6.out.trans (H7.out.mono HC6.out.size)).size)))
           have HPK:Hid (zbg v2 v1 r2 r1=true):=Lib.hid (zdg _ _ (zrt _ he))
           clear S6 uw6
           go_quiet (fail)
           have HB10:=Lib.hid (zao HB9.out nq)
           have HC10:=Lib.hid (zao HC9.out nq)
           generalize World.drewN w8 nq=wz at*
           go_wp2_with fail
           go_roundg (gk - 1)
           case measure=>omega
           case rel=>exact ⟨2,by omega,by go_num,HB10,HC10,.inr (.inr ⟨rfl,HQ1,HPK⟩)⟩
         | false=>
           cases hx:(v2.t.toList == v1.t.toList) with
           | false=>
             go_upto_region 8 with (first
              |((with_reducible refine zaa (.tmp 6) B5 S6 ?_ ?_ ?_ ?_);rfl;rfl;rfl)
              |((with_reducible refine zae (.tmp 8) wr.heap.size S8b ?_ ?_ ?_ ?_);rfl;rfl;rfl)
              |(go_at_call 116;(with_reducible refine (V2.out _).mono ?_);rintro e w7 ⟨rfl,hb7⟩;have S6b:=S6.below hb7;have S8b:=uw6.below hb7;have H7:=Lib.hid hb7;clear hb7)
              |(go_at_call 116;(with_reducible refine (V1.out _).mono ?_);rintro e w8 ⟨rfl,hb8⟩;have S6c:=S6b.below hb8;have S8c:=S8b.below hb8;have k6:=zab S6c 3 rfl;have k8:=zab S8c 3 rfl;have H8:=Lib.hid hb8;clear hb8))
             have HB9:Hid (Below W0.heap.size W0 w8):=Lib.hid ((HB6.out.trans (H7.out.mono HB6.out.size)).trans (H8.out.mono ((HB6.out.trans (H7.out.mono HB6.out.size)).size)))
             have HC9:Hid (Below w5.heap.size w5 w8):=Lib.hid ((HC6.out.trans (H7.out.mono HC6.out.size)).trans (H8.out.mono ((HC6.out.trans (H7.out.mono HC6.out.size)).size)))
             have HPK:Hid (zbg v2 v1 r2 r1=true):=Lib.hid (zdg _ _ (zru hx))
             clear S6 uw6
             go_quiet (fail)
             have HB10:=Lib.hid (zao HB9.out nq)
             have HC10:=Lib.hid (zao HC9.out nq)
             generalize World.drewN w8 nq=wz at*
             go_wp2_with fail
             go_roundg (gk - 1)
             case measure=>omega
             case rel=>exact ⟨2,by omega,by go_num,HB10,HC10,.inr (.inr ⟨rfl,HQ1,HPK⟩)⟩
           | true=>
             by_cases hrr:r2=r1
             ·have e2:(r2 != r1)=false:=by simp [hrr]
              have HRR:=Lib.hid hrr
              clear hrr
              go_upto_region 8 with (first
               |((with_reducible refine zaa (.tmp 6) B5 S6 ?_ ?_ ?_ ?_);rfl;rfl;rfl)
               |((with_reducible refine zae (.tmp 8) wr.heap.size S8b ?_ ?_ ?_ ?_);rfl;rfl;rfl)
               |(go_at_call 116;(with_reducible refine (V2.out _).mono ?_);rintro e w7 ⟨rfl,hb7⟩;have S6b:=S6.below hb7;have S8b:=uw6.below hb7;have H7:=Lib.hid hb7;clear hb7)
               |(go_at_call 116;(with_reducible refine (V1.out _).mono ?_);rintro e w8 ⟨rfl,hb8⟩;have S6c:=S6b.below hb8;have S8c:=S8b.below hb8;have k6:=zab S6c 3 rfl;have k8:=zab S8c 3 rfl;have H8:=Lib.hid hb8;clear hb8))
              have HB9:Hid (Below W0.heap.size W0 w8):=Lib.hid ((HB6.out.trans (H7.out.mono HB6.out.size)).trans (H8.out.mono ((HB6.out.trans (H7.out.mono HB6.out.size)).size)))
              have HC9:Hid (Below w5.heap.size w5 w8):=Lib.hid ((HC6.out.trans (H7.out.mono HC6.out.size)).trans (H8.out.mono ((HC6.out.trans (H7.out.mono HC6.out.size)).size)))
              have HPK:Hid (zbg v2 v1 r2 r1=true):=Lib.hid (zrq HRR.out)
              have R9:=(HB9.out.block _ (zac HR.out)).trans HR.out
              have kr2:=zab R9 2 rfl
              have kr1:=zab R9 1 rfl
              clear S6 uw6
              go_quiet (fail)
              have HB10:=Lib.hid (zao HB9.out nq)
              have HC10:=Lib.hid (zao HC9.out nq)
              generalize World.drewN w8 nq=wz at*
              go_wp2_with fail
              go_roundg (gk - 1)
              case measure=>omega
              case rel=>exact ⟨2,by omega,by go_num,HB10,HC10,.inr (.inr ⟨rfl,HQ1,HPK⟩)⟩
             ·have e2:(r2 != r1)=true:=by simp [hrr]
              have HRR:=Lib.hid hrr
              clear hrr
              go_upto_region 8 with (first
               |((with_reducible refine zaa (.tmp 6) B5 S6 ?_ ?_ ?_ ?_);rfl;rfl;rfl)
               |((with_reducible refine zae (.tmp 8) wr.heap.size S8b ?_ ?_ ?_ ?_);rfl;rfl;rfl)
               |(go_at_call 116;(with_reducible refine (V2.out _).mono ?_);rintro e w7 ⟨rfl,hb7⟩;have S6b:=S6.below hb7;have S8b:=uw6.below hb7;have H7:=Lib.hid hb7;clear hb7)
               |(go_at_call 116;(with_reducible refine (V1.out _).mono ?_);rintro e w8 ⟨rfl,hb8⟩;have S6c:=S6b.below hb8;have S8c:=S8b.below hb8;have k6:=zab S6c 3 rfl;have k8:=zab S8c 3 rfl;have H8:=Lib.hid hb8;clear hb8))
              have HB9:Hid (Below W0.heap.size W0 w8):=Lib.hid ((HB6.out.trans (H7.out.mono HB6.out.size)).trans (H8.out.mono ((HB6.out.trans (H7.out.mono HB6.out.size)).size)))
              have HC9:Hid (Below w5.heap.size w5 w8):=Lib.hid ((HC6.out.trans (H7.out.mono HC6.out.size)).trans (H8.out.mono ((HC6.out.trans (H7.out.mono HC6.out.size)).size)))
              have HPK:Hid (zbg v2 v1 r2 r1=false):=Lib.hid (zn9 (zrv D2.out D1.out he hx) HRR.out)
              have R9:=(HB9.out.block _ (zac HR.out)).trans HR.out
              have kr2:=zab R9 2 rfl
              have kr1:=zab R9 1 rfl
              clear S6 uw6
              go_quiet (fail)
              have HB10:=Lib.hid (zao HB9.out nq)
              generalize World.drewN w8 nq=wz at*
              go_wp2_with fail
              go_ret
              exact ⟨by rw [HP.out,show zlm v0 v1 v2 r0 r1 r2=false from by unfold zlm;rw [HPK.out];simp];rfl,HB0.out.trans (HB10.out.mono HB0.out.size)⟩
    ·go_wp2_with fail
     go_roundg (3 - 3)
     case measure=>omega
     case rel=>exact ⟨3,by omega,by go_num,HBq,.inr (.inr (.inr ⟨rfl,Lib.hid (by rw [HP.out,zlm,HP1.out,HQ1.out,HQ2.out];rfl)⟩))⟩
  ·go_wp2_with fail
   go_ret
   exact ⟨by rw [HP2.out];rfl,HB0.out.trans (HB.out.mono HB0.out.size)⟩
def SM.part (s:SM) (k v j:Nat):Val:=(s.vs[s.num k v j]?).getD nulV
theorem lev_all (k v:Nat) (hv:v < 3):v=(lev k).1∨v=(lev k).2.1∨v=(lev k).2.2:=by
 unfold lev
 split <;> simp <;> omega
section
variable {l:List Tri3} {s:SM} (h:zbf l s)
include h
theorem zuq:s.rs.Nodup:=h.rows.imp fun {a b} q e=>by subst e;exact R3.irr _ q
theorem zur (k:Nat) (hk:k < 6):(s.ls k).Nodup:=(h.nums k hk).perm.nodup_iff.2 List.nodup_range
theorem zxl (k:Nat) (hk:k < 6) (i j:Nat) (hi:i < (s.ls k).length) (hj:j < (s.ls k).length) (e:s.rs[(s.ls k)[i]]'(h.lt k _ (List.getElem_mem hi))=s.rs[(s.ls k)[j]]'(h.lt k _ (List.getElem_mem hj))):i=j:=
 (List.getElem_inj (zur h k hk)).1 ((List.getElem_inj (zuq h)).1 e)
theorem zzo (k:Nat) (hk:k < 6) (i j:Nat) (hi:i < (s.ls k).length) (hj:j < (s.ls k).length) (e0:s.num k (lev k).1 i=s.num k (lev k).1 j) (e1:s.num k (lev k).2.1 i=s.num k (lev k).2.1 j) (e2:s.num k (lev k).2.2 i=s.num k (lev k).2.2 j):i=j:=by
 have hall:∀ v,v < 3→s.num k v i=s.num k v j:=fun v hv=>by
  rcases lev_all k v hv with e | e | e
  ·rw [e];exact e0
  ·rw [e];exact e1
  ·rw [e];exact e2
 refine zxl h k hk i j hi hj ?_
 have f:=fun v=>s.num_eq k v i hi (h.lt k _ (List.getElem_mem hi))
 have g:=fun v=>s.num_eq k v j hj (h.lt k _ (List.getElem_mem hj))
 have a0:=hall 0 (by omega)
 have a1:=hall 1 (by omega)
 have a2:=hall 2 (by omega)
 rw [f 0,g 0] at a0
 rw [f 1,g 1] at a1
 rw [f 2,g 2] at a2
 generalize s.rs[(s.ls k)[i]]'(h.lt k _ (List.getElem_mem hi))=a at*
 generalize s.rs[(s.ls k)[j]]'(h.lt k _ (List.getElem_mem hj))=b at*
 obtain ⟨p,q,r⟩:=a
 obtain ⟨p2,q2,r2⟩:=b
 simp only [R3.at] at a0 a1 a2
 rw [a0,a1,a2]
end
section
variable {s:SM} {k:Nat} {c:CS}
theorem zln (h1:c.pos < c.fin):c.pos < c.bot s k:=by
 have hb:=c.bot_in s k (Nat.le_of_lt h1)
 rcases Nat.lt_or_ge c.pos (c.bot s k) with q | q
 ·exact q
 ·have e:c.bot s k=c.pos:=by omega
  have:=zi3 (s.same k c.lev c.pos) (c.fin - c.pos) c.pos (by show c.bot s k < _;omega)
  change s.same k c.lev c.pos (c.bot s k)=false at this
  rw [e] at this
  unfold SM.same at this
  simp at this
theorem zs5 (h:Fit s k c) (hd:c.d < 3) (h1:1≤c.d) (hp:c.pos < c.fin):c.opens s k=true:=by
 have:=zln (s:=s) (k:=k) hp
 unfold CS.opens CS.lo CS.hi
 rw [if_neg (by omega),if_neg (by omega)]
 simp [hd,this]
end
structure VY (y:V6) (u:Val):Prop where
 p:y.p=none
 l:y.len=0
 c:y.cap=0
 e:u=.mk y.k y.b y.n y.t y.x []
 f:Fine y.n y.t y.x 0
theorem VY.is {y:V6} {u:Val} (h:VY y u) (W:World):Is W y u []:=by
 obtain ⟨k,b,n,t,x,p,len,cap⟩:=y
 obtain ⟨hp,hl,hc,he,hf⟩:=h
 simp only at hp hl hc he hf
 subst hp hl hc
 exact ⟨he,rfl,hf,⟨none,0,rfl⟩⟩
section
variable {l:List Tri3} {s:SM} {k:Nat} {c:CS}
theorem zs6 (h:c.opens s k=true):c.opn s k=c.down c.lo (c.hi s k):=by unfold CS.opn;rw [if_pos h]
theorem t0 (hd:c.d=0) (hn:0 < c.n):c.opens s k=true∧(c.opn s k).d=1∧(c.opn s k).a0=0:=by
 have ho:c.opens s k=true:=by unfold CS.opens CS.lo CS.hi;rw [if_pos hd,if_pos hd,hd];simp [hn]
 rw [zs6 ho]
 unfold CS.lo CS.hi
 rw [if_pos hd,if_pos hd]
 obtain ⟨sp,pl,n,cl,l0,l1,l2,a0,e0,a1,e1,a2,e2,d⟩:=c
 simp only at hd
 subst hd
 exact ⟨ho,rfl,rfl⟩
theorem t1 (h:Fit s k c) (hd:c.d=1) (hp:c.a0 < c.e0):c.opens s k=true∧(c.opn s k).d=2∧(c.opn s k).a1=c.a0∧(c.opn s k).a1 < (c.opn s k).e1∧(c.opn s k).a0=c.a0:=by
 obtain ⟨p,f,lv⟩:=CS.pos1 hd
 have ho:=zs5 h (by omega) (by omega) (by rw [p,f];exact hp)
 have hb:=zln (s:=s) (k:=k) (c:=c) (by rw [p,f];exact hp)
 rw [zs6 ho]
 unfold CS.lo CS.hi
 rw [if_neg (by omega),if_neg (by omega)]
 rw [p] at hb ⊢
 generalize c.bot s k=b at*
 obtain ⟨sp,pl,n,cl,l0,l1,l2,a0,e0,a1,e1,a2,e2,d⟩:=c
 simp only at hd
 subst hd
 exact ⟨ho,rfl,rfl,hb,rfl⟩
theorem t2 (h:Fit s k c) (hd:c.d=2) (hp:c.a1 < c.e1):c.opens s k=true∧(c.opn s k).d=3∧(c.opn s k).a2=c.a1∧(c.opn s k).a2 < (c.opn s k).e2∧(c.opn s k).a0=c.a0∧(c.opn s k).a1=c.a1:=by
 obtain ⟨p,f,lv⟩:=CS.pos2 hd
 have ho:=zs5 h (by omega) (by omega) (by rw [p,f];exact hp)
 have hb:=zln (s:=s) (k:=k) (c:=c) (by rw [p,f];exact hp)
 rw [zs6 ho]
 unfold CS.lo CS.hi
 rw [if_neg (by omega),if_neg (by omega)]
 rw [p] at hb ⊢
 generalize c.bot s k=b at*
 obtain ⟨sp,pl,n,cl,l0,l1,l2,a0,e0,a1,e1,a2,e2,d⟩:=c
 simp only at hd
 subst hd
 exact ⟨ho,rfl,rfl,hb,rfl,rfl⟩
end
end Go.Proofs.YtanbgdhmfjgihaaGreatDoor
