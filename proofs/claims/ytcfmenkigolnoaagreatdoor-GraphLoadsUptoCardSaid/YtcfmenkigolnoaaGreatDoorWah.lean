/- Texts of one kind, one behind the other: each says ahead of itself what it shows. -/
import Derived.Test.YtcfmenkigolnoaaGreatDoorWag
import Derived.Deep.RegionHeld
import Derived.Deep.Cut
import Derived.Deep.CutBlock
import Derived.BigQuiet
/- GU -/
namespace Go.Proofs.YtcfmenkigolnoaaGreatDoor
open Go.RowKit
set_option maxHeartbeats 3200000 in
set_option maxRecDepth 20000 in
theorem hold72 (q:zap→Bool) (l:List zap) (v:Value) (w:World) (h:zak za4 w (Old w) v l) (hn:l.length≤2097152)
 (each:∀ x∈l,∀ W c,Below w.heap.size w W→za4.rel W (Old W) c x→Calls Tryz.prog 73 #[.agg c.toArray] W fun e w'=>e=.returned (.bool (q x))∧Below W.heap.size W w'):
 Calls Tryz.prog 72 #[v,.func (.func 73) #[] #[]] w fun e w'=>e=.returned (.bool (l.all q))∧Below w.heap.size w w':=by
 obtain ⟨n,hln⟩:∃ n,n=l.length:=⟨_,rfl⟩
 obtain ⟨p,cap,rfl⟩:=h.slice
 rw [← hln] at hn
 obtain ⟨ans,hans⟩:∃ ans,ans=l.all q:=⟨_,rfl⟩
 have HN:=Lib.hid hans
 rw [← hans]
 have HL:=Lib.hid hln
 have HH:=Lib.hid h
 have HE:=Lib.hid each
 rw [← hln]
 clear h hln each hans
 go_enter Tryz.func72,Tryz.ntmps72
 go_wp2_with fail
 go_loopg [9] n (fun gg s9 wr=>∃ j:Nat,j+gg=n∧s9=.int .i64 j∧Hid (Below w.heap.size w wr)∧Hid (∀ i (h:i < l.length),i < j→q l[i]=true))
 case atStart=>exact ⟨0,by omega,rfl,Lib.hid (Below.refl _ _),Lib.hid (fun i _ h=>absurd h (by omega))⟩
 case round=>
  obtain ⟨j,hjg,rfl,HB,HA⟩:=hrel
  by_cases hlt:(j:Int) < n
  ·have hj1:j < l.length:=by have:=HL.out;omega
   have hbel:=HB.out
   obtain ⟨g,off,cap',c,e0,hg,hrl,hra⟩:=(HH.out.stays (zad hbel)).at_ j hj1
   injection e0 with e1 e2 e3
   subst e1
   replace hra:wr.rangeAt g (off+j*3) c:=hra
   have hlen:c.length=3:=za4.len hrl
   have hbs:=hbel.size
   obtain ⟨r,hr⟩:∃ r,r=q l[j]:=⟨_,rfl⟩
   have hone:=za4.one hrl
   have HR:=Lib.hid (And.intro hrl hra)
   clear hrl hra e2 e3 hbel
   go_upto_region 4 with (first
    |((with_reducible refine zav (.tmp 11) g (off+j*3) 38 c 3 _ HR.out.2 hlen Tryz.underlying38 rfl zal ?_ ?_ ?_ ?_);rfl;rfl;rfl)
    |((with_reducible refine zah (.tmp 6) (.tmp 12) wr.heap.size 38 38 _ c 3 (zae _ _ rfl) hlen ?_ ?_ ?_ ?_ zal rfl hone ?_);rfl;rfl;rfl;rfl;intro wX oX hX))
   have bX:Below wr.heap.size wr wX:=zag (zas wr _) oX (Nat.le_refl _) (by simp)
   have bWX:Below w.heap.size w wX:=HB.out.trans (bX.mono hbs)
   have hcall:=HE.out l[j] (List.getElem_mem hj1) wX c bWX (za4.stays (zad bX) HR.out.1)
   rw [← hr] at hcall
   have HC:=Lib.hid hcall
   have HR2:=Lib.hid hr
   have HX:=Lib.hid (And.intro bWX hX)
   clear oX bX bWX hcall hr
   cases r with
   | true=>
     go_wp2_with (first
      |((with_reducible refine zaf (.tmp 6) wr.heap.size 38 38 c 3 _ hX hlen Tryz.underlying38 rfl zal ?_ ?_ ?_ ?_);rfl;rfl;rfl)
      |(go_at_call 73;(with_reducible refine HC.out.mono ?_);rintro e w3 ⟨rfl,hb3⟩))
     have HB2:Hid (Below w.heap.size w w3):=Lib.hid (HX.out.1.trans (hb3.mono HX.out.1.size))
     clear hb3
     go_wp2_with fail
     go_roundg (gk - 1)
     case measure=>omega
     case rel=>
      refine ⟨j+1,by omega,by go_num,HB2,Lib.hid fun i h hi=>?_⟩
      by_cases e:i=j
      ·subst e;exact HR2.out.symm
      ·exact HA.out i h (by omega)
   | false=>
     go_wp2_with (first
      |((with_reducible refine zaf (.tmp 6) wr.heap.size 38 38 c 3 _ hX hlen Tryz.underlying38 rfl zal ?_ ?_ ?_ ?_);rfl;rfl;rfl)
      |(go_at_call 73;(with_reducible refine HC.out.mono ?_);rintro e w3 ⟨rfl,hb3⟩))
     have HB2:Hid (Below w.heap.size w w3):=Lib.hid (HX.out.1.trans (hb3.mono HX.out.1.size))
     clear hb3
     go_wp2_with fail
     go_ret
     refine ⟨?_,HB2.out⟩
     have e:l.all q=false:=List.all_eq_false.2 ⟨l[j],List.getElem_mem hj1,by rw [← HR2.out];decide⟩
     rw [HN.out.trans e]
     try rfl
  ·have e:l.all q=true:=List.all_eq_true.2 fun x hx=>by
    obtain ⟨i,hi,rfl⟩:=List.getElem_of_mem hx
    exact HA.out i hi (by have:=HL.out;omega)
   have HQ:=Lib.hid e
   clear e
   go_wp2_with fail
   go_ret
   refine ⟨?_,HB.out⟩
   rw [HN.out.trans HQ.out]
   try rfl
set_option maxHeartbeats 3200000 in
set_option maxRecDepth 20000 in
theorem hold74 (q:zat→Bool) (l:List zat) (v B:Value) (w:World) (h:zak zaz w (Old w) v l) (hn:l.length≤2097152)
 (each:∀ x∈l,∀ W c,Below w.heap.size w W→zaz.rel W (Old W) c x→Calls Tryz.prog 75 #[.agg c.toArray,B] W fun e w'=>e=.returned (.bool (q x))∧Below W.heap.size W w'):
 Calls Tryz.prog 74 #[v,.func (.func 75) #[] #[B]] w fun e w'=>e=.returned (.bool (l.all q))∧Below w.heap.size w w':=by
 obtain ⟨n,hln⟩:∃ n,n=l.length:=⟨_,rfl⟩
 obtain ⟨p,cap,rfl⟩:=h.slice
 rw [← hln] at hn
 obtain ⟨ans,hans⟩:∃ ans,ans=l.all q:=⟨_,rfl⟩
 have HN:=Lib.hid hans
 rw [← hans]
 have HL:=Lib.hid hln
 have HH:=Lib.hid h
 have HE:=Lib.hid each
 rw [← hln]
 clear h hln each hans
 go_enter Tryz.func74,Tryz.ntmps74
 go_wp2_with fail
 go_loopg [9] n (fun gg s9 wr=>∃ j:Nat,j+gg=n∧s9=.int .i64 j∧Hid (Below w.heap.size w wr)∧Hid (∀ i (h:i < l.length),i < j→q l[i]=true))
 case atStart=>exact ⟨0,by omega,rfl,Lib.hid (Below.refl _ _),Lib.hid (fun i _ h=>absurd h (by omega))⟩
 case round=>
  obtain ⟨j,hjg,rfl,HB,HA⟩:=hrel
  by_cases hlt:(j:Int) < n
  ·have hj1:j < l.length:=by have:=HL.out;omega
   have hbel:=HB.out
   obtain ⟨g,off,cap',c,e0,hg,hrl,hra⟩:=(HH.out.stays (zad hbel)).at_ j hj1
   injection e0 with e1 e2 e3
   subst e1
   replace hra:wr.rangeAt g (off+j*5) c:=hra
   have hlen:c.length=5:=zaz.len hrl
   have hbs:=hbel.size
   obtain ⟨r,hr⟩:∃ r,r=q l[j]:=⟨_,rfl⟩
   have hone:=zaz.one hrl
   have HR:=Lib.hid (And.intro hrl hra)
   clear hrl hra e2 e3 hbel
   go_upto_region 4 with (first
    |((with_reducible refine zav (.tmp 11) g (off+j*5) 41 c 5 _ HR.out.2 hlen Tryz.underlying41 rfl zan ?_ ?_ ?_ ?_);rfl;rfl;rfl)
    |((with_reducible refine zah (.tmp 6) (.tmp 12) wr.heap.size 41 41 _ c 5 (zae _ _ rfl) hlen ?_ ?_ ?_ ?_ zan rfl hone ?_);rfl;rfl;rfl;rfl;intro wX oX hX))
   have bX:Below wr.heap.size wr wX:=zag (zas wr _) oX (Nat.le_refl _) (by simp)
   have bWX:Below w.heap.size w wX:=HB.out.trans (bX.mono hbs)
   have hcall:=HE.out l[j] (List.getElem_mem hj1) wX c bWX (zaz.stays (zad bX) HR.out.1)
   rw [← hr] at hcall
   have HC:=Lib.hid hcall
   have HR2:=Lib.hid hr
   have HX:=Lib.hid (And.intro bWX hX)
   clear oX bX bWX hcall hr
   cases r with
   | true=>
     go_wp2_with (first
      |((with_reducible refine zaf (.tmp 6) wr.heap.size 41 41 c 5 _ hX hlen Tryz.underlying41 rfl zan ?_ ?_ ?_ ?_);rfl;rfl;rfl)
      |(go_at_call 75;(with_reducible refine HC.out.mono ?_);rintro e w3 ⟨rfl,hb3⟩))
     have HB2:Hid (Below w.heap.size w w3):=Lib.hid (HX.out.1.trans (hb3.mono HX.out.1.size))
     clear hb3
     go_wp2_with fail
     go_roundg (gk - 1)
     case measure=>omega
     case rel=>
      refine ⟨j+1,by omega,by go_num,HB2,Lib.hid fun i h hi=>?_⟩
      by_cases e:i=j
      ·subst e;exact HR2.out.symm
      ·exact HA.out i h (by omega)
   | false=>
     go_wp2_with (first
      |((with_reducible refine zaf (.tmp 6) wr.heap.size 41 41 c 5 _ hX hlen Tryz.underlying41 rfl zan ?_ ?_ ?_ ?_);rfl;rfl;rfl)
      |(go_at_call 75;(with_reducible refine HC.out.mono ?_);rintro e w3 ⟨rfl,hb3⟩))
     have HB2:Hid (Below w.heap.size w w3):=Lib.hid (HX.out.1.trans (hb3.mono HX.out.1.size))
     clear hb3
     go_wp2_with fail
     go_ret
     refine ⟨?_,HB2.out⟩
     have e:l.all q=false:=List.all_eq_false.2 ⟨l[j],List.getElem_mem hj1,by rw [← HR2.out];decide⟩
     rw [HN.out.trans e]
     try rfl
  ·have e:l.all q=true:=List.all_eq_true.2 fun x hx=>by
    obtain ⟨i,hi,rfl⟩:=List.getElem_of_mem hx
    exact HA.out i hi (by have:=HL.out;omega)
   have HQ:=Lib.hid e
   clear e
   go_wp2_with fail
   go_ret
   refine ⟨?_,HB.out⟩
   rw [HN.out.trans HQ.out]
   try rfl
set_option maxHeartbeats 3200000 in
set_option maxRecDepth 20000 in
theorem hold116 (q:ByteArray→Bool) (l:List ByteArray) (v:Value) (w:World) (h:zak zbq w (Old w) v l) (hn:l.length≤2097152)
 (each:∀ x∈l,∀ W c,Below w.heap.size w W→zbq.rel W (Old W) c x→Calls Tryz.prog 102 #[.string x] W fun e w'=>e=.returned (.bool (q x))∧Below W.heap.size W w'):
 Calls Tryz.prog 116 #[v,.func (.func 102) #[] #[]] w fun e w'=>e=.returned (.bool (l.all q))∧Below w.heap.size w w':=by
 obtain ⟨n,hln⟩:∃ n,n=l.length:=⟨_,rfl⟩
 obtain ⟨p,cap,rfl⟩:=h.slice
 rw [← hln] at hn
 obtain ⟨ans,hans⟩:∃ ans,ans=l.all q:=⟨_,rfl⟩
 have HN:=Lib.hid hans
 rw [← hans]
 have HL:=Lib.hid hln
 have HH:=Lib.hid h
 have HE:=Lib.hid each
 rw [← hln]
 clear h hln each hans
 go_enter Tryz.func116,Tryz.ntmps116
 go_wp2_with fail
 go_loopg [9] n (fun gg s9 wr=>∃ j:Nat,j+gg=n∧s9=.int .i64 j∧Hid (Below w.heap.size w wr)∧Hid (∀ i (h:i < l.length),i < j→q l[i]=true))
 case atStart=>exact ⟨0,by omega,rfl,Lib.hid (Below.refl _ _),Lib.hid (fun i _ h=>absurd h (by omega))⟩
 case round=>
  obtain ⟨j,hjg,rfl,HB,HA⟩:=hrel
  by_cases hlt:(j:Int) < n
  ·have hj1:j < l.length:=by have:=HL.out;omega
   have hbel:=HB.out
   obtain ⟨g,off,cap',c,e0,hg,hrl,hra⟩:=(HH.out.stays (zad hbel)).at_ j hj1
   injection e0 with e1 e2 e3
   subst e1
   replace hra:wr.rangeAt g (off+j*1) c:=hra
   have hlen:c.length=1:=zbq.len hrl
   have hbs:=hbel.size
   obtain ⟨r,hr⟩:∃ r,r=q l[j]:=⟨_,rfl⟩
   obtain ⟨rfl,hwf⟩:=hrl
   have c0:wr.cell? ⟨g,off+j,none⟩=some (.string l[j]):=by
    have:=hra 0 _ rfl
    simpa using this
   have hcall:=HE.out l[j] (List.getElem_mem hj1) wr _ hbel ⟨rfl,hwf⟩
   rw [← hr] at hcall
   have HC:=Lib.hid hcall
   have HR2:=Lib.hid hr
   clear hcall hr hra e2 e3 hbel
   cases r with
   | true=>
     go_wp2_with (first
      |(go_at_call 102;(with_reducible refine HC.out.mono ?_);rintro e w3 ⟨rfl,hb3⟩))
     have HB2:Hid (Below w.heap.size w w3):=Lib.hid (HB.out.trans (hb3.mono HB.out.size))
     clear hb3
     go_wp2_with fail
     go_roundg (gk - 1)
     case measure=>omega
     case rel=>
      refine ⟨j+1,by omega,by go_num,HB2,Lib.hid fun i h hi=>?_⟩
      by_cases e:i=j
      ·subst e;exact HR2.out.symm
      ·exact HA.out i h (by omega)
   | false=>
     go_wp2_with (first
      |(go_at_call 102;(with_reducible refine HC.out.mono ?_);rintro e w3 ⟨rfl,hb3⟩))
     have HB2:Hid (Below w.heap.size w w3):=Lib.hid (HB.out.trans (hb3.mono HB.out.size))
     clear hb3
     go_wp2_with fail
     go_ret
     refine ⟨?_,HB2.out⟩
     have e:l.all q=false:=List.all_eq_false.2 ⟨l[j],List.getElem_mem hj1,by rw [← HR2.out];decide⟩
     rw [HN.out.trans e]
     try rfl
  ·have e:l.all q=true:=List.all_eq_true.2 fun x hx=>by
    obtain ⟨i,hi,rfl⟩:=List.getElem_of_mem hx
    exact HA.out i hi (by have:=HL.out;omega)
   have HQ:=Lib.hid e
   clear e
   go_wp2_with fail
   go_ret
   refine ⟨?_,HB.out⟩
   rw [HN.out.trans HQ.out]
   try rfl
set_option maxHeartbeats 3200000 in
set_option maxRecDepth 20000 in
theorem hold120 (q:zax→Bool) (l:List zax) (v:Value) (w:World) (h:zak za0 w (Old w) v l) (hn:l.length≤2097152)
 (each:∀ x∈l,∀ W c,Below w.heap.size w W→za0.rel W (Old W) c x→Calls Tryz.prog 121 #[.agg c.toArray] W fun e w'=>e=.returned (.bool (q x))∧Below W.heap.size W w'):
 Calls Tryz.prog 120 #[v,.func (.func 121) #[] #[]] w fun e w'=>e=.returned (.bool (l.all q))∧Below w.heap.size w w':=by
 obtain ⟨n,hln⟩:∃ n,n=l.length:=⟨_,rfl⟩
 obtain ⟨p,cap,rfl⟩:=h.slice
 rw [← hln] at hn
 obtain ⟨ans,hans⟩:∃ ans,ans=l.all q:=⟨_,rfl⟩
 have HN:=Lib.hid hans
 rw [← hans]
 have HL:=Lib.hid hln
 have HH:=Lib.hid h
 have HE:=Lib.hid each
 rw [← hln]
 clear h hln each hans
 go_enter Tryz.func120,Tryz.ntmps120
 go_wp2_with fail
 go_loopg [9] n (fun gg s9 wr=>∃ j:Nat,j+gg=n∧s9=.int .i64 j∧Hid (Below w.heap.size w wr)∧Hid (∀ i (h:i < l.length),i < j→q l[i]=true))
 case atStart=>exact ⟨0,by omega,rfl,Lib.hid (Below.refl _ _),Lib.hid (fun i _ h=>absurd h (by omega))⟩
 case round=>
  obtain ⟨j,hjg,rfl,HB,HA⟩:=hrel
  by_cases hlt:(j:Int) < n
  ·have hj1:j < l.length:=by have:=HL.out;omega
   have hbel:=HB.out
   obtain ⟨g,off,cap',c,e0,hg,hrl,hra⟩:=(HH.out.stays (zad hbel)).at_ j hj1
   injection e0 with e1 e2 e3
   subst e1
   replace hra:wr.rangeAt g (off+j*7) c:=hra
   have hlen:c.length=7:=za0.len hrl
   have hbs:=hbel.size
   obtain ⟨r,hr⟩:∃ r,r=q l[j]:=⟨_,rfl⟩
   have hone:=za0.one hrl
   have HR:=Lib.hid (And.intro hrl hra)
   clear hrl hra e2 e3 hbel
   go_upto_region 4 with (first
    |((with_reducible refine zav (.tmp 11) g (off+j*7) 70 c 7 _ HR.out.2 hlen Tryz.underlying70 rfl zbb ?_ ?_ ?_ ?_);rfl;rfl;rfl)
    |((with_reducible refine zah (.tmp 6) (.tmp 12) wr.heap.size 70 70 _ c 7 (zae _ _ rfl) hlen ?_ ?_ ?_ ?_ zbb rfl hone ?_);rfl;rfl;rfl;rfl;intro wX oX hX))
   have bX:Below wr.heap.size wr wX:=zag (zas wr _) oX (Nat.le_refl _) (by simp)
   have bWX:Below w.heap.size w wX:=HB.out.trans (bX.mono hbs)
   have hcall:=HE.out l[j] (List.getElem_mem hj1) wX c bWX (za0.stays (zad bX) HR.out.1)
   rw [← hr] at hcall
   have HC:=Lib.hid hcall
   have HR2:=Lib.hid hr
   have HX:=Lib.hid (And.intro bWX hX)
   clear oX bX bWX hcall hr
   cases r with
   | true=>
     go_wp2_with (first
      |((with_reducible refine zaf (.tmp 6) wr.heap.size 70 70 c 7 _ hX hlen Tryz.underlying70 rfl zbb ?_ ?_ ?_ ?_);rfl;rfl;rfl)
      |(go_at_call 121;(with_reducible refine HC.out.mono ?_);rintro e w3 ⟨rfl,hb3⟩))
     have HB2:Hid (Below w.heap.size w w3):=Lib.hid (HX.out.1.trans (hb3.mono HX.out.1.size))
     clear hb3
     go_wp2_with fail
     go_roundg (gk - 1)
     case measure=>omega
     case rel=>
      refine ⟨j+1,by omega,by go_num,HB2,Lib.hid fun i h hi=>?_⟩
      by_cases e:i=j
      ·subst e;exact HR2.out.symm
      ·exact HA.out i h (by omega)
   | false=>
     go_wp2_with (first
      |((with_reducible refine zaf (.tmp 6) wr.heap.size 70 70 c 7 _ hX hlen Tryz.underlying70 rfl zbb ?_ ?_ ?_ ?_);rfl;rfl;rfl)
      |(go_at_call 121;(with_reducible refine HC.out.mono ?_);rintro e w3 ⟨rfl,hb3⟩))
     have HB2:Hid (Below w.heap.size w w3):=Lib.hid (HX.out.1.trans (hb3.mono HX.out.1.size))
     clear hb3
     go_wp2_with fail
     go_ret
     refine ⟨?_,HB2.out⟩
     have e:l.all q=false:=List.all_eq_false.2 ⟨l[j],List.getElem_mem hj1,by rw [← HR2.out];decide⟩
     rw [HN.out.trans e]
     try rfl
  ·have e:l.all q=true:=List.all_eq_true.2 fun x hx=>by
    obtain ⟨i,hi,rfl⟩:=List.getElem_of_mem hx
    exact HA.out i hi (by have:=HL.out;omega)
   have HQ:=Lib.hid e
   clear e
   go_wp2_with fail
   go_ret
   refine ⟨?_,HB.out⟩
   rw [HN.out.trans HQ.out]
   try rfl
set_option maxHeartbeats 3200000 in
set_option maxRecDepth 20000 in
theorem hold149 (q:Val→Bool) (l:List Val) (v:Value) (w:World) (h:zak valE w (Old w) v l) (hn:l.length≤2097152)
 (each:∀ x∈l,∀ W c,Below w.heap.size w W→valE.rel W (Old W) c x→Calls Tryz.prog 148 #[.agg c.toArray] W fun e w'=>e=.returned (.bool (q x))∧Below W.heap.size W w'):
 Calls Tryz.prog 149 #[v,.func (.func 148) #[] #[]] w fun e w'=>e=.returned (.bool (l.all q))∧Below w.heap.size w w':=by
 obtain ⟨n,hln⟩:∃ n,n=l.length:=⟨_,rfl⟩
 obtain ⟨p,cap,rfl⟩:=h.slice
 rw [← hln] at hn
 obtain ⟨ans,hans⟩:∃ ans,ans=l.all q:=⟨_,rfl⟩
 have HN:=Lib.hid hans
 rw [← hans]
 have HL:=Lib.hid hln
 have HH:=Lib.hid h
 have HE:=Lib.hid each
 rw [← hln]
 clear h hln each hans
 go_enter Tryz.func149,Tryz.ntmps149
 go_wp2_with fail
 go_loopg [9] n (fun gg s9 wr=>∃ j:Nat,j+gg=n∧s9=.int .i64 j∧Hid (Below w.heap.size w wr)∧Hid (∀ i (h:i < l.length),i < j→q l[i]=true))
 case atStart=>exact ⟨0,by omega,rfl,Lib.hid (Below.refl _ _),Lib.hid (fun i _ h=>absurd h (by omega))⟩
 case round=>
  obtain ⟨j,hjg,rfl,HB,HA⟩:=hrel
  by_cases hlt:(j:Int) < n
  ·have hj1:j < l.length:=by have:=HL.out;omega
   have hbel:=HB.out
   obtain ⟨g,off,cap',c,e0,hg,hrl,hra⟩:=(HH.out.stays (zad hbel)).at_ j hj1
   injection e0 with e1 e2 e3
   subst e1
   replace hra:wr.rangeAt g (off+j*6) c:=hra
   have hlen:c.length=6:=valE.len hrl
   have hbs:=hbel.size
   obtain ⟨r,hr⟩:∃ r,r=q l[j]:=⟨_,rfl⟩
   have hone:=valE.one hrl
   have HR:=Lib.hid (And.intro hrl hra)
   clear hrl hra e2 e3 hbel
   go_upto_region 4 with (first
    |((with_reducible refine zav (.tmp 11) g (off+j*6) 60 c 6 _ HR.out.2 hlen Tryz.underlying60 rfl zcg ?_ ?_ ?_ ?_);rfl;rfl;rfl)
    |((with_reducible refine zah (.tmp 6) (.tmp 12) wr.heap.size 60 60 _ c 6 (zae _ _ rfl) hlen ?_ ?_ ?_ ?_ zcg rfl hone ?_);rfl;rfl;rfl;rfl;intro wX oX hX))
   have bX:Below wr.heap.size wr wX:=zag (zas wr _) oX (Nat.le_refl _) (by simp)
   have bWX:Below w.heap.size w wX:=HB.out.trans (bX.mono hbs)
   have hcall:=HE.out l[j] (List.getElem_mem hj1) wX c bWX (valE.stays (zad bX) HR.out.1)
   rw [← hr] at hcall
   have HC:=Lib.hid hcall
   have HR2:=Lib.hid hr
   have HX:=Lib.hid (And.intro bWX hX)
   clear oX bX bWX hcall hr
   cases r with
   | true=>
     go_wp2_with (first
      |((with_reducible refine zaf (.tmp 6) wr.heap.size 60 60 c 6 _ hX hlen Tryz.underlying60 rfl zcg ?_ ?_ ?_ ?_);rfl;rfl;rfl)
      |(go_at_call 148;(with_reducible refine HC.out.mono ?_);rintro e w3 ⟨rfl,hb3⟩))
     have HB2:Hid (Below w.heap.size w w3):=Lib.hid (HX.out.1.trans (hb3.mono HX.out.1.size))
     clear hb3
     go_wp2_with fail
     go_roundg (gk - 1)
     case measure=>omega
     case rel=>
      refine ⟨j+1,by omega,by go_num,HB2,Lib.hid fun i h hi=>?_⟩
      by_cases e:i=j
      ·subst e;exact HR2.out.symm
      ·exact HA.out i h (by omega)
   | false=>
     go_wp2_with (first
      |((with_reducible refine zaf (.tmp 6) wr.heap.size 60 60 c 6 _ hX hlen Tryz.underlying60 rfl zcg ?_ ?_ ?_ ?_);rfl;rfl;rfl)
      |(go_at_call 148;(with_reducible refine HC.out.mono ?_);rintro e w3 ⟨rfl,hb3⟩))
     have HB2:Hid (Below w.heap.size w w3):=Lib.hid (HX.out.1.trans (hb3.mono HX.out.1.size))
     clear hb3
     go_wp2_with fail
     go_ret
     refine ⟨?_,HB2.out⟩
     have e:l.all q=false:=List.all_eq_false.2 ⟨l[j],List.getElem_mem hj1,by rw [← HR2.out];decide⟩
     rw [HN.out.trans e]
     try rfl
  ·have e:l.all q=true:=List.all_eq_true.2 fun x hx=>by
    obtain ⟨i,hi,rfl⟩:=List.getElem_of_mem hx
    exact HA.out i hi (by have:=HL.out;omega)
   have HQ:=Lib.hid e
   clear e
   go_wp2_with fail
   go_ret
   refine ⟨?_,HB.out⟩
   rw [HN.out.trans HQ.out]
   try rfl
end Go.Proofs.YtcfmenkigolnoaaGreatDoor

/- HA -/
namespace Go.Proofs.YtcfmenkigolnoaaGreatDoor
open Go.RowKit
theorem zdz {fn:Func} {p:Tmp} (h:fn.results=#[.cell p 60]) (tmps:Array Value) {w:World} {g:Nat} {k:Int} {b:Bool} {n:Int} {t x:ByteArray} {pp:Option Addr} {len cap:Nat}
 (hp:tmps.getD p undef=.pointer (some ⟨g,0,none⟩)) (hg:Six w g k b n t x pp len cap):(results fn tmps).run Tryz.prog w=.ok (.agg #[.int .i64 k,.bool b,.int .i64 n,.string t,.string x,.slice pp len cap]) w:=by
 have hp':tmps[p]?.getD undef=.pointer (some ⟨g,0,none⟩):=by simpa using hp
 have hl:=run_loadVar_row (P:=Tryz.prog) w g 60 60 _ (0,0) _ hg Tryz.underlying60 rfl zg9
 simp [results,h,hp',asAddr,hl]
def zg3 (w:World) (k:Int) (b:Bool) (n:Int) (t x:ByteArray) (q:List Val) (e:Ending) (w':World):Prop:=
 ∃ p c,e=.returned (.agg #[.int .i64 k,.bool b,.int .i64 n,.string t,.string x,.slice p q.length c])∧zay w' (fun g=>w.heap.size < g∧g < w'.heap.size) (.slice p q.length c) q∧Below w.heap.size w w'
def zoz (v:Val):Prop:=∀ (W:World) (k:Int) (b:Bool) (n:Int) (t x:ByteArray) (q:List Val) (p:Option Addr) (cap:Nat),v=.mk k b n t x q→q.length≤2097152→Held W (.slice p q.length cap) q→
 Calls Tryz.prog 95 #[.slice p q.length cap] W (zg2 W q)
set_option maxRecDepth 20000 in
set_option maxHeartbeats 3200000 in
theorem zi3 (k:Int) (b:Bool) (n:Int) (t x:ByteArray) (q:List Val) (p:Option Addr) (cap:Nat) (w:World) (hc:∀ W,Below w.heap.size w W→Calls Tryz.prog 95 #[.slice p q.length cap] W (zg2 W q)):
 Calls Tryz.prog 65 #[.agg #[.int .i64 k,.bool b,.int .i64 n,.string t,.string x,.slice p q.length cap]] w (zg3 w k b n t x q):=by
 obtain ⟨W0,hW0⟩:∃ W0,W0=(w.alloc (.cells #[.int .i64 k,.bool b,.int .i64 n,.string t,.string x,.slice p q.length cap] 60)).alloc (.cells #[.int .i64 0,.bool false,.int .i64 0,.string ⟨#[]⟩,.string ⟨#[]⟩,.slice none 0 0] 60):=⟨_,rfl⟩
 have S1:Six W0 w.heap.size k b n t x p q.length cap:=by rw [hW0];exact (zai _ rfl).alloc _
 have S2:Six W0 (w.heap.size+1) 0 false 0 ⟨#[]⟩ ⟨#[]⟩ none 0 0:=by rw [hW0];exact zai _ (by simp)
 have b0:Below w.heap.size w W0:=by rw [hW0];exact (zas _ _).alloc (by simp) _
 have z0:W0.heap.size=w.heap.size+2:=by rw [hW0];simp
 have c5:=S1.c5
 have H0:=Lib.hid hW0
 have HZ:=Lib.hid z0
 clear hW0 z0
 go_enter Tryz.func65,Tryz.ntmps65
 go_wp2_with (first
  |(go_at_call 95;rw [← H0.out];(with_reducible refine (hc _ b0).mono ?_);rintro e w2 ⟨V,ys,rfl,hv,hcs,hb2⟩
    have hq2:zay w2 (fun g=>w.heap.size+1 < g∧g < w2.heap.size) V q:=zl9 hv hcs (fun g hg=>⟨by have:=hg.1;have:=HZ.out;omega,hg.2.1⟩) (fun g hg=>⟨by have:=(hv.lt g hg).1;have:=HZ.out;omega,(hv.lt g hg).2⟩)
    obtain ⟨p2,c2,rfl⟩:=za5 hq2.held
    have T1:=S1.below hb2;have T2:=S2.below hb2;have b2:=zab b0 hb2 b0.size;have c5:=T1.c5;have f5:=T1.free 5
    have HQ:=Lib.hid hq2;clear hq2 hv hcs hb2 S1 S2 b0)
  |((with_reducible refine zaj (.tmp 1) w.heap.size (T1.set5 p2 q.length c2) ?_ ?_ ?_ ?_);rfl;rfl;rfl)
  |((with_reducible refine zdj (k':=k) (b':=b) (n':=n) (t':=t) (x':=x) (p':=p2) (len':=q.length) (cap':=c2) (.tmp 2) (.tmp 7) (w.heap.size+1) (Six.only T2 (Only.refl w.heap.size _ |>.setCell 5 none _) (by omega)) ?_ ?_ ?_ ?_ ?_);rfl;rfl;rfl;rfl;intro w9 on9 S9))
 have on5:Only w.heap.size w2 (w2.setCell ⟨w.heap.size,5,none⟩ (.slice p2 q.length c2)):=(Only.refl w.heap.size w2).setCell 5 none _
 have s5:=on5.size
 have s9:=on9.size
 have b5:Below w.heap.size w (w2.setCell ⟨w.heap.size,5,none⟩ (.slice p2 q.length c2)):=zag b2 on5 (Nat.le_refl _) b2.size
 refine bodyPost_ret (zdz (p:=2) Tryz.results65 _ rfl S9) rfl ⟨p2,c2,rfl,?_,zag b5 on9 (by omega) b5.size⟩
 exact HQ.out.stays (P':=fun g=>w.heap.size < g∧g < w9.heap.size) (fun g hg=>⟨⟨by omega,by omega⟩,(on9.block g (by omega) (by omega)).trans (on5.block g (by omega) (by omega))⟩) q
set_option maxRecDepth 20000 in
set_option maxHeartbeats 6400000 in
theorem zsj (l:List Val) (g off cap:Nat) (w:World) (hl:zb5 w g off l) (hn:l.length≤2097152) (each:∀ v∈l,zoz v):
 Calls Tryz.prog 95 #[.slice (some ⟨g,off,none⟩) l.length cap] w (zg2 w l):=by
 obtain ⟨n,hln⟩:∃ n,n=l.length:=⟨_,rfl⟩
 rw [← hln] at hn ⊢
 obtain ⟨i0,hi,hz0,hz1,hz2⟩:=info_parts info28b
 have HL:=Lib.hid hln
 have HH:=Lib.hid hl
 have HE:=Lib.hid each
 clear hl hln each
 go_enter Tryz.func95,Tryz.ntmps95
 go_wp2_with fail
 go_loopg [3,4] n (fun gg s3 s4 wr=>∃ j:Nat,j+gg=n∧s4=.int .i64 j∧Hid (Acc w (l.take j) s3 wr))
 case atStart=>exact ⟨0,by omega,rfl,Lib.hid ⟨⟨[],by simpa using World.ownsRow_nil w w.heap.size 60 6,by unfold zbu;rfl⟩,Below.refl _ _⟩⟩
 case round=>
  obtain ⟨j,hjg,rfl,HA⟩:=hrel
  by_cases hlt:(j:Int) < n
  ·have hj1:j < l.length:=by have:=HL.out;omega
   obtain ⟨k,b,m,t,x,q,p,cp,o1⟩:=((zb5.at_ l off HH.out j hj1).below _ HA.out.bel).opens
   have hcp:Calls Tryz.prog 65 #[.agg #[.int .i64 k,.bool b,.int .i64 m,.string t,.string x,.slice p q.length cp]] wr (zg3 wr k b m t x q):=
    zi3 k b m t x q p cp wr fun W h=>HE.out l[j] (List.getElem_mem hj1) W k b m t x q p cp o1.e o1.hf.hn (Held.below q o1.hl h)
   unfold zg3 at hcp
   have HF:=Lib.hid o1.hf
   have HV:=Lib.hid o1.e
   have hjl:(l.take j).length=j:=by rw [List.length_take];omega
   have c0:=o1.c0
   have c1:=o1.c1
   have c2:=o1.c2
   have c3:=o1.c3
   have c4:=o1.c4
   have c5:=o1.c5
   clear o1
   go_wp2_with (first
    |((with_reducible refine zby (.tmp 14) g (off+j*6) k b m t x _ c0 c1 c2 c3 c4 c5 ?_ ?_ ?_ ?_);rfl;rfl;rfl)
    |(go_at_call 65;(with_reducible refine hcp.mono ?_);rintro e wf ⟨p5,k5,rfl,hq0,bf0⟩
      obtain ⟨⟨xs,hown,hcs⟩,hbel⟩:=HA.out
      have hownX:=za2 hown bf0
      have hbs:=hbel.size
      have hfs:=bf0.size
      have HX:=Lib.hid (And.intro hown (And.intro hcs (And.intro hbel (And.intro bf0 hq0))))
      clear hown hcs hbel bf0 hq0 HA c0 c1 c2 c3 c4 c5 hcp)
    |(at_builtin;refine wpList_append_own_at _ rfl _ _ 43 rfl w.heap.size 60 i0 (.agg #[.int .i64 0,.bool false,.int .i64 0,.string ⟨#[]⟩,.string ⟨#[]⟩,.slice none 0 0]) 6 80 Tryz.underlying43 hi hz0 hz1 hz2 rfl (by decide) _ _ _ rfl (hownX.alloc _) ⟨wf.heap.size,0,none⟩ 1 1 [.int .i64 k,.bool b,.int .i64 m,.string t,.string x,.slice p5 q.length k5] rfl rfl (zmd _ _ _ _ _ _ _ _) ?_ ?_ ?_ ?_ ?_))
   all_goals (try (first |(rw [hjl];unfold maxLen;omega) |(rw [hjl];omega) |(simp;omega) |(intro u hu;simp only [List.mem_cons,List.mem_nil_iff,or_false] at hu;rcases hu with rfl | rfl | rfl | rfl | rfl | rfl <;> rfl)))
   intro v' w1 hown' hgrow _ hloc
   have acc:=Acc.next (k:=k) (b:=b) (n:=m) (t:=t) (x:=x) (q:=q) rfl HX.out.1 HX.out.2.1 HX.out.2.2.1 HX.out.2.2.2.1 HF.out HX.out.2.2.2.2 (by rw [hjl];exact hown') hgrow hloc
   have e:l.take (j+1)=l.take j++[.mk k b m t x q]:=by rw [List.take_succ_eq_append_getElem hj1,HV.out]
   rw [← e] at acc
   have ACC:=Lib.hid acc
   clear acc hown' hgrow hloc hownX
   go_wp2_with fail
   go_roundg (gk - 1)
   case measure=>omega
   case rel=>exact ⟨j+1,by omega,by go_num,ACC⟩
  ·have e:l.take j=l:=by rw [List.take_of_length_le];have:=HL.out;omega
   have hA:=HA.out
   rw [e] at hA
   obtain ⟨⟨xs,hown,hcs⟩,hbel⟩:=hA
   have HX:=Lib.hid (And.intro hown (And.intro hcs hbel))
   clear hown hcs hbel HA
   go_wp2_with fail
   go_ret
   exact ⟨_,xs,rfl,HX.out.1,HX.out.2.1,HX.out.2.2⟩
theorem zp1 (q:List Val) (p:Option Addr) (cap:Nat) (w:World) (hl:Held w (.slice p q.length cap) q) (hn:q.length≤2097152) (each:∀ u∈q,zoz u):
 Calls Tryz.prog 95 #[.slice p q.length cap] w (zg2 w q):=by
 cases q with
 | nil=>
   go_enter Tryz.func95,Tryz.ntmps95
   go_wp2_with fail
   go_loopg [3,4] 0 (fun gg s3 s4 wr=>gg=0∧s4=.int .i64 0∧s3=.slice none 0 0∧wr=w)
   case atStart=>exact ⟨rfl,rfl,rfl,rfl⟩
   case round=>
    obtain ⟨_,rfl,rfl,rfl⟩:=hrel
    go_wp2_with fail
    go_ret
    exact ⟨_,[],rfl,World.ownsRow_nil _ _ 60 6,by unfold zbu;rfl,Below.refl _ _⟩
 | cons v r=>
   obtain ⟨g,off,rfl,hh⟩:=hl.form
   exact zsj (v::r) g off cap w hh hn each
mutual
theorem zo0:(v:Val)→zoz v
 | .mk k b n t x q=>fun W k1 b1 n1 t1 x1 q1 p cap e hn hl=>by
   cases e
   exact zp1 q p cap W hl hn (zme q)
theorem zme:(q:List Val)→∀ u∈q,zoz u
 | [],_,h=>absurd h (by simp)
 | v::r,u,h=>by
   rcases List.mem_cons.1 h with h | h
   ·rw [h];exact zo0 v
   ·exact zme r u h
end
theorem rcopyAt (k:Int) (b:Bool) (n:Int) (t x:ByteArray) (q:List Val) (p:Option Addr) (cap:Nat) (w:World) (hf:Fine n t x q.length) (hl:Held w (.slice p q.length cap) q):
 Calls Tryz.prog 65 #[.agg #[.int .i64 k,.bool b,.int .i64 n,.string t,.string x,.slice p q.length cap]] w (zg3 w k b n t x q):=
 zi3 k b n t x q p cap w fun W h=>zo0 (.mk k b n t x q) W k b n t x q p cap rfl hf.hn (Held.below q hl h)
end Go.Proofs.YtcfmenkigolnoaaGreatDoor

/- GO -/
namespace Go.Proofs.YtcfmenkigolnoaaGreatDoor
open Go.RowKit
theorem ze3 {w:World} {P:Nat→Prop} {g:Nat}:(l:List Val)→(off:Nat)→zb2 w P g off l→∃ xs,w.rangeAt g off xs∧RowE valE w P xs l
 | [],_,_=>⟨[],fun j u hu=>by simp at hu,RowE.nil⟩
 | .mk k b n t x q::r,off,h=>by
   unfold zb2 zbi at h
   obtain ⟨⟨h0,h1,h2,h3,h4,hf,L,h5,hl⟩,hr⟩:=h
   obtain ⟨xs,hx,hrow⟩:=ze3 r (off+6) hr
   refine ⟨[.int .i64 k,.bool b,.int .i64 n,.string t,.string x,L]++xs,fun j u hu=>?_,RowE.append [_] r (RowE.single ⟨L,rfl,hf,hl⟩) hrow⟩
   by_cases hj:j < 6
   ·rw [List.getElem?_append_left (by simpa using hj)] at hu
    match j,hj with
    | 0,_=>simp at hu;subst hu;exact h0
    | 1,_=>simp at hu;subst hu;exact h1
    | 2,_=>simp at hu;subst hu;exact h2
    | 3,_=>simp at hu;subst hu;exact h3
    | 4,_=>simp at hu;subst hu;exact h4
    | 5,_=>simp at hu;subst hu;exact h5
   ·rw [List.getElem?_append_right (by simpa using hj)] at hu
    have:=hx (j - 6) u (by simpa using hu)
    rwa [show off+6+(j - 6)=off+j by omega] at this
theorem zep {w:World} {P:Nat→Prop} {L:Value}:(l:List Val)→zay w P L l→zak valE w P L l
 | [],h=>by
   unfold zay at h
   obtain ⟨p,cap,rfl⟩:=h
   exact zak.nil _ _
 | v::r,h=>by
   unfold zay at h
   obtain ⟨g,off,cap,rfl,hg,hv,hr⟩:=h
   obtain ⟨xs,hx,hrow⟩:=ze3 (v::r) off (by unfold zb2;exact ⟨hv,hr⟩)
   exact ⟨_,cap,rfl,fun _=>⟨g,off,xs,rfl,hg,hx,hrow⟩⟩
theorem ze4 {w:World} {P:Nat→Prop} {g:Nat}:(l:List Val)→(off:Nat)→(xs:List Value)→w.rangeAt g off xs→RowE valE w P xs l→zb2 w P g off l
 | [],_,_,_,_=>by unfold zb2;trivial
 | .mk k b n t x q::r,off,xs,hx,h=>by
   unfold RowE at h
   obtain ⟨c,ys,rfl,⟨L,rfl,hf,hl⟩,hr⟩:=h
   unfold zb2 zbi
   refine ⟨⟨hx 0 _ rfl,hx 1 _ rfl,hx 2 _ rfl,hx 3 _ rfl,hx 4 _ rfl,hf,L,hx 5 _ rfl,hl⟩,ze4 r (off+6) ys (fun j u hu=>?_) hr⟩
   have:=hx (6+j) u (by rw [List.getElem?_append_right (by simp)];simpa using hu)
   rwa [← Nat.add_assoc] at this
theorem zds {w:World} {P:Nat→Prop} {L:Value}:(l:List Val)→zak valE w P L l→zay w P L l
 | [],h=>by
   obtain ⟨p,cap,rfl,_⟩:=h
   unfold zay
   exact ⟨p,cap,rfl⟩
 | v::r,h=>by
   obtain ⟨p,cap,rfl,h⟩:=h
   obtain ⟨g,off,xs,rfl,hg,hx,hrow⟩:=h (by simp)
   have hh:=ze4 (v::r) off xs hx hrow
   unfold zb2 at hh
   unfold zay
   exact ⟨g,off,cap,rfl,hg,hh.1,hh.2⟩
theorem za9.slice {β:Type} {E:Elem β} {D:TypeId} {w w':World} {bs:List β} {V:Value} {xs:List Value} (h:w'.ownsRow w.heap.size D E.k V bs.length xs) (r:RowE E w' (Inn w V w') xs bs):zak E w' (New w w') V bs:=
 zbm h r (fun _ hg=>⟨hg.1,hg.2.1⟩) (fun g hg=>⟨(h.lt g hg).1,(h.lt g hg).2⟩)
theorem zc0 {w:World} {N i:Nat} {V v:Value} (q:List Val) (hq:zay w (fun g=>N+1 < g∧g < w.heap.size) V q):zay (w.setCell ⟨N,i,none⟩ v) (fun g=>N+1 < g∧g < (w.setCell ⟨N,i,none⟩ v).heap.size) V q:=
 zay.stays (fun g hg=>⟨⟨hg.1,by simpa using hg.2⟩,Below.heap_setCell _ _ _ _ (by show g≠N;have:=hg.1;omega)⟩) q hq
def OwnV (v:Val):Prop:=∀ (W:World) (c:List Value),zfn W (Old W) c v→Calls Tryz.prog 59 #[.agg c.toArray] W (zb6 valE v W)
theorem ownList (q:List Val) (L:Value) (W:World) (hl:zay W (Old W) L q) (hn:q.length≤2097152) (each:∀ v∈q,OwnV v):Calls Tryz.prog 94 #[L,.func (.func 59) #[] #[]] W (za9 valE 60 W q):=by
 have h:=map94 id q L W (zep q hl) hn fun x hx W' c _ hr=>each x hx W' c hr
 rwa [List.map_id] at h
set_option maxHeartbeats 6400000 in
set_option maxRecDepth 20000 in
theorem zsk (k:Int) (b:Bool) (n:Int) (t x:ByteArray) (q:List Val) (p:Option Addr) (cap:Nat) (w:World) (hf:Fine n t x q.length) (hl:zay w (Old w) (.slice p q.length cap) q) (each:∀ v∈q,OwnV v):
 Calls Tryz.prog 59 #[.agg #[.int .i64 k,.bool b,.int .i64 n,.string t,.string x,.slice p q.length cap]] w fun e w'=>∃ V,e=.returned (.agg #[.int .i64 k,.bool b,.int .i64 n,.string t,.string x,V])∧zay w' (New w w') V q∧Below w.heap.size w w':=by
 obtain ⟨w1,hw1⟩:∃ w1,w1=(w.alloc (.cells #[.int .i64 k,.bool b,.int .i64 n,.string t,.string x,.slice p q.length cap] 60)).alloc (.cells #[.int .i64 0,.bool false,.int .i64 0,.string ⟨#[]⟩,.string ⟨#[]⟩,.slice none 0 0] 60):=⟨_,rfl⟩
 have u1:Six w1 w.heap.size k b n t x p q.length cap:=by rw [hw1];exact (zai _ rfl).alloc _
 have u2:Six w1 (w.heap.size+1) 0 false 0 ⟨#[]⟩ ⟨#[]⟩ none 0 0:=by rw [hw1];exact zai _ (by simp)
 have bw:Below w.heap.size w w1:=by rw [hw1];exact zbk _ _ _
 have HCL:=Lib.hid (fun W=>zhu t W (by have:=hf.ht;omega))
 have HCX:=Lib.hid (fun W=>zhu x W (by have:=hf.hx;omega))
 have HLL:Hid (∀ W,Below w.heap.size w W→Calls Tryz.prog 94 #[.slice p q.length cap,.func (.func 59) #[] #[]] W (za9 valE 60 W q)):=
  Lib.hid fun W hb=>ownList q _ W (zay.stays (zad hb) q hl) hf.hn each
 have HW:=Lib.hid hw1
 clear hw1 hf hl each
 go_enter Tryz.func59,Tryz.ntmps59
 go_upto_region 1 with fail
 rw [← HW.out]
 refine wp_region_held_drew (S:=fun W=>∃ p' n' c',Six W w.heap.size k b n t x p' n' c') (by kernel_rfl) ⟨p,q.length,cap,u1⟩ (fun hHeld=>?_)
 replace bw:=bw.drew
 replace u1:Six w1.drew w.heap.size k b n t x p q.length cap:=u1
 replace u2:Six w1.drew (w.heap.size+1) 0 false 0 ⟨#[]⟩ ⟨#[]⟩ none 0 0:=u2
 refine tg (i:=0) (.pointer (some ⟨w.heap.size,3,none⟩)) rfl hHeld ?_
 refine tg (i:=3) (.pointer (some ⟨w.heap.size,4,none⟩)) rfl hHeld ?_
 refine tg (i:=6) (.pointer (some ⟨w.heap.size,5,none⟩)) rfl hHeld ?_
 refine tk (i:=1) (v:=.string t) rfl (Or.inl ⟨by rfl,fun W ⟨_,_,_,h⟩=>by have c0:=h.c3;go_simp⟩) hHeld ?_
 refine tk (i:=4) (v:=.string x) rfl (Or.inl ⟨by rfl,fun W ⟨_,_,_,h⟩=>by have c0:=h.c4;go_simp⟩) hHeld ?_
 clear hHeld
 refine wpAnyH_ready (rs:=[2,7]) (by kernel_rfl) (by simp) ?_
 refine AllReadyH.cons rfl (fun K hK=>?_) (AllReadyH.cons rfl (fun K hK=>?_) AllReadyH.nil)
 ·rw [if_pos (by rfl)]
  go_simp
  refine (HCL.out _).mono ?_
  rintro e0 w3 ⟨rfl,hb3⟩
  replace u1:=u1.below hb3
  replace u2:=u2.below hb3
  replace bw:=zab bw hb3 bw.size
  refine hK.out _ _ ⟨_,_,_,u1⟩ (fun _=>?_)
  clear hK K hb3
  try simp only [putS]
  refine wpAnyH_ready (rs:=[5,7]) (by kernel_rfl) (by simp) ?_
  refine AllReadyH.cons rfl (fun K hK=>?_) (AllReadyH.cons rfl (fun K hK=>?_) AllReadyH.nil)
  ·rw [if_pos (by rfl)]
   go_simp
   refine (HCX.out _).mono ?_
   rintro e0 w3 ⟨rfl,hb3⟩
   replace u1:=u1.below hb3
   replace u2:=u2.below hb3
   replace bw:=zab bw hb3 bw.size
   refine hK.out _ _ ⟨_,_,_,u1⟩ (fun _=>?_)
   clear hK K hb3
   try simp only [putS]
   refine tr 7 rfl (fun K hK=>?_)
   rw [if_pos (by rfl)]
   have c0:=u1.c5
   go_simp
   refine hK.out _ _ ⟨_,_,_,u1⟩ (fun _=>?_)
   clear hK K c0
   try simp only [putS]
   refine tg (i:=9) (.pointer (some ⟨w.heap.size,3,none⟩)) rfl ⟨_,_,_,u1⟩ ?_
   refine tr 8 rfl (fun K hK=>?_)
   rw [if_pos (by rfl)]
   go_simp
   refine (HLL.out _ bw).mono ?_
   rintro e0 w3 ⟨V,xs,rfl,hown,hrow,hb3⟩
   have hV:zay w3 (fun g=>w.heap.size+1 < g∧g < w3.heap.size) V q:=zay.stays (fun g hg=>⟨⟨by have:=hg.1;have:=u2.lt;omega,hg.2⟩,rfl⟩) q (zds q (za9.slice hown hrow))
   obtain ⟨pv,cv,rfl⟩:=za5 (zay.held q hV)
   replace u1:=u1.below hb3
   replace u2:=u2.below hb3
   replace bw:=zab bw hb3 bw.size
   have HV:=Lib.hid hV
   refine hK.out _ _ ⟨_,_,_,u1⟩ (fun _=>?_)
   clear hK K hb3 hown hrow hV
   try simp only [putS]
   refine tr 10 rfl (fun K hK=>?_)
   have c0:=u1.c3
   have f0:=u1.free 3
   go_simp
   replace HV:=Lib.hid (zc0 (i:=3) (v:=.string t) q HV.out)
   replace bw:=zam (e:=w.heap.size) (o:=3) bw none (.string t) (Nat.le_refl _) bw.size
   replace u2:=u2.only ((Only.refl w.heap.size _).setCell 3 none (.string t)) (by omega)
   replace u1:=u1.set3 t
   refine hK.out _ _ ⟨_,_,_,u1⟩ (fun _=>?_)
   clear hK K c0 f0
   try simp only [putS]
   refine tg (i:=11) (.pointer (some ⟨w.heap.size,4,none⟩)) rfl ⟨_,_,_,u1⟩ ?_
   refine tr 12 rfl (fun K hK=>?_)
   have c0:=u1.c4
   have f0:=u1.free 4
   go_simp
   replace HV:=Lib.hid (zc0 (i:=4) (v:=.string x) q HV.out)
   replace bw:=zam (e:=w.heap.size) (o:=4) bw none (.string x) (Nat.le_refl _) bw.size
   replace u2:=u2.only ((Only.refl w.heap.size _).setCell 4 none (.string x)) (by omega)
   replace u1:=u1.set4 x
   refine hK.out _ _ ⟨_,_,_,u1⟩ (fun _=>?_)
   clear hK K c0 f0
   try simp only [putS]
   refine tg (i:=13) (.pointer (some ⟨w.heap.size,5,none⟩)) rfl ⟨_,_,_,u1⟩ ?_
   refine tr 14 rfl (fun K hK=>?_)
   have c0:=u1.c5
   have f0:=u1.free 5
   go_simp
   replace HV:=Lib.hid (zc0 (i:=5) (v:=.slice pv q.length cv) q HV.out)
   replace bw:=zam (e:=w.heap.size) (o:=5) bw none (.slice pv q.length cv) (Nat.le_refl _) bw.size
   replace u2:=u2.only ((Only.refl w.heap.size _).setCell 5 none (.slice pv q.length cv)) (by omega)
   replace u1:=u1.set5 pv q.length cv
   refine hK.out _ _ ⟨_,_,_,u1⟩ (fun _=>?_)
   clear hK K c0 f0
   try simp only [putS]
   refine wpAnyH_done (by kernel_rfl) ?_ _
   go_wp2_with (first
    |((with_reducible refine zaj (.tmp 1) w.heap.size u1 ?_ ?_ ?_ ?_);rfl;rfl;rfl)
    |((with_reducible refine zdj (k':=k) (b':=b) (n':=n) (t':=t) (x':=x) (p':=pv) (len':=q.length) (cap':=cv) (.tmp 2) (.tmp 15) (w.heap.size+1) u2 ?_ ?_ ?_ ?_ ?_);rfl;rfl;rfl;rfl;intro w5 ho5 u5))
   have b5:=zag bw ho5 (Nat.le_succ _) bw.size
   refine bodyPost_ret (zdz (p:=2) Tryz.results59 _ rfl u5) rfl ⟨_,rfl,zay.stays (fun g hg=>⟨⟨by have:=hg.1;omega,Nat.lt_of_lt_of_le hg.2 ho5.size⟩,ho5.block g hg.2 (by have:=hg.1;omega)⟩) q HV.out,b5⟩
  ·rw [if_pos (by rfl)]
   have c0:=u1.c5
   go_simp
   refine hK.out _ _ ⟨_,_,_,u1⟩ (fun _=>?_)
   clear hK K c0
   try simp only [putS]
   refine tg (i:=9) (.pointer (some ⟨w.heap.size,3,none⟩)) rfl ⟨_,_,_,u1⟩ ?_
   refine tr 5 rfl (fun K hK=>?_)
   rw [if_pos (by rfl)]
   go_simp
   refine (HCX.out _).mono ?_
   rintro e0 w3 ⟨rfl,hb3⟩
   replace u1:=u1.below hb3
   replace u2:=u2.below hb3
   replace bw:=zab bw hb3 bw.size
   refine hK.out _ _ ⟨_,_,_,u1⟩ (fun _=>?_)
   clear hK K hb3
   try simp only [putS]
   refine tr 8 rfl (fun K hK=>?_)
   rw [if_pos (by rfl)]
   go_simp
   refine (HLL.out _ bw).mono ?_
   rintro e0 w3 ⟨V,xs,rfl,hown,hrow,hb3⟩
   have hV:zay w3 (fun g=>w.heap.size+1 < g∧g < w3.heap.size) V q:=zay.stays (fun g hg=>⟨⟨by have:=hg.1;have:=u2.lt;omega,hg.2⟩,rfl⟩) q (zds q (za9.slice hown hrow))
   obtain ⟨pv,cv,rfl⟩:=za5 (zay.held q hV)
   replace u1:=u1.below hb3
   replace u2:=u2.below hb3
   replace bw:=zab bw hb3 bw.size
   have HV:=Lib.hid hV
   refine hK.out _ _ ⟨_,_,_,u1⟩ (fun _=>?_)
   clear hK K hb3 hown hrow hV
   try simp only [putS]
   refine tr 10 rfl (fun K hK=>?_)
   have c0:=u1.c3
   have f0:=u1.free 3
   go_simp
   replace HV:=Lib.hid (zc0 (i:=3) (v:=.string t) q HV.out)
   replace bw:=zam (e:=w.heap.size) (o:=3) bw none (.string t) (Nat.le_refl _) bw.size
   replace u2:=u2.only ((Only.refl w.heap.size _).setCell 3 none (.string t)) (by omega)
   replace u1:=u1.set3 t
   refine hK.out _ _ ⟨_,_,_,u1⟩ (fun _=>?_)
   clear hK K c0 f0
   try simp only [putS]
   refine tg (i:=11) (.pointer (some ⟨w.heap.size,4,none⟩)) rfl ⟨_,_,_,u1⟩ ?_
   refine tr 12 rfl (fun K hK=>?_)
   have c0:=u1.c4
   have f0:=u1.free 4
   go_simp
   replace HV:=Lib.hid (zc0 (i:=4) (v:=.string x) q HV.out)
   replace bw:=zam (e:=w.heap.size) (o:=4) bw none (.string x) (Nat.le_refl _) bw.size
   replace u2:=u2.only ((Only.refl w.heap.size _).setCell 4 none (.string x)) (by omega)
   replace u1:=u1.set4 x
   refine hK.out _ _ ⟨_,_,_,u1⟩ (fun _=>?_)
   clear hK K c0 f0
   try simp only [putS]
   refine tg (i:=13) (.pointer (some ⟨w.heap.size,5,none⟩)) rfl ⟨_,_,_,u1⟩ ?_
   refine tr 14 rfl (fun K hK=>?_)
   have c0:=u1.c5
   have f0:=u1.free 5
   go_simp
   replace HV:=Lib.hid (zc0 (i:=5) (v:=.slice pv q.length cv) q HV.out)
   replace bw:=zam (e:=w.heap.size) (o:=5) bw none (.slice pv q.length cv) (Nat.le_refl _) bw.size
   replace u2:=u2.only ((Only.refl w.heap.size _).setCell 5 none (.slice pv q.length cv)) (by omega)
   replace u1:=u1.set5 pv q.length cv
   refine hK.out _ _ ⟨_,_,_,u1⟩ (fun _=>?_)
   clear hK K c0 f0
   try simp only [putS]
   refine wpAnyH_done (by kernel_rfl) ?_ _
   go_wp2_with (first
    |((with_reducible refine zaj (.tmp 1) w.heap.size u1 ?_ ?_ ?_ ?_);rfl;rfl;rfl)
    |((with_reducible refine zdj (k':=k) (b':=b) (n':=n) (t':=t) (x':=x) (p':=pv) (len':=q.length) (cap':=cv) (.tmp 2) (.tmp 15) (w.heap.size+1) u2 ?_ ?_ ?_ ?_ ?_);rfl;rfl;rfl;rfl;intro w5 ho5 u5))
   have b5:=zag bw ho5 (Nat.le_succ _) bw.size
   refine bodyPost_ret (zdz (p:=2) Tryz.results59 _ rfl u5) rfl ⟨_,rfl,zay.stays (fun g hg=>⟨⟨by have:=hg.1;omega,Nat.lt_of_lt_of_le hg.2 ho5.size⟩,ho5.block g hg.2 (by have:=hg.1;omega)⟩) q HV.out,b5⟩
 ·rw [if_pos (by rfl)]
  have c0:=u1.c5
  go_simp
  refine hK.out _ _ ⟨_,_,_,u1⟩ (fun _=>?_)
  clear hK K c0
  try simp only [putS]
  refine tr 2 rfl (fun K hK=>?_)
  rw [if_pos (by rfl)]
  go_simp
  refine (HCL.out _).mono ?_
  rintro e0 w3 ⟨rfl,hb3⟩
  replace u1:=u1.below hb3
  replace u2:=u2.below hb3
  replace bw:=zab bw hb3 bw.size
  refine hK.out _ _ ⟨_,_,_,u1⟩ (fun _=>?_)
  clear hK K hb3
  try simp only [putS]
  refine tg (i:=9) (.pointer (some ⟨w.heap.size,3,none⟩)) rfl ⟨_,_,_,u1⟩ ?_
  refine tr 5 rfl (fun K hK=>?_)
  rw [if_pos (by rfl)]
  go_simp
  refine (HCX.out _).mono ?_
  rintro e0 w3 ⟨rfl,hb3⟩
  replace u1:=u1.below hb3
  replace u2:=u2.below hb3
  replace bw:=zab bw hb3 bw.size
  refine hK.out _ _ ⟨_,_,_,u1⟩ (fun _=>?_)
  clear hK K hb3
  try simp only [putS]
  refine tr 8 rfl (fun K hK=>?_)
  rw [if_pos (by rfl)]
  go_simp
  refine (HLL.out _ bw).mono ?_
  rintro e0 w3 ⟨V,xs,rfl,hown,hrow,hb3⟩
  have hV:zay w3 (fun g=>w.heap.size+1 < g∧g < w3.heap.size) V q:=zay.stays (fun g hg=>⟨⟨by have:=hg.1;have:=u2.lt;omega,hg.2⟩,rfl⟩) q (zds q (za9.slice hown hrow))
  obtain ⟨pv,cv,rfl⟩:=za5 (zay.held q hV)
  replace u1:=u1.below hb3
  replace u2:=u2.below hb3
  replace bw:=zab bw hb3 bw.size
  have HV:=Lib.hid hV
  refine hK.out _ _ ⟨_,_,_,u1⟩ (fun _=>?_)
  clear hK K hb3 hown hrow hV
  try simp only [putS]
  refine tr 10 rfl (fun K hK=>?_)
  have c0:=u1.c3
  have f0:=u1.free 3
  go_simp
  replace HV:=Lib.hid (zc0 (i:=3) (v:=.string t) q HV.out)
  replace bw:=zam (e:=w.heap.size) (o:=3) bw none (.string t) (Nat.le_refl _) bw.size
  replace u2:=u2.only ((Only.refl w.heap.size _).setCell 3 none (.string t)) (by omega)
  replace u1:=u1.set3 t
  refine hK.out _ _ ⟨_,_,_,u1⟩ (fun _=>?_)
  clear hK K c0 f0
  try simp only [putS]
  refine tg (i:=11) (.pointer (some ⟨w.heap.size,4,none⟩)) rfl ⟨_,_,_,u1⟩ ?_
  refine tr 12 rfl (fun K hK=>?_)
  have c0:=u1.c4
  have f0:=u1.free 4
  go_simp
  replace HV:=Lib.hid (zc0 (i:=4) (v:=.string x) q HV.out)
  replace bw:=zam (e:=w.heap.size) (o:=4) bw none (.string x) (Nat.le_refl _) bw.size
  replace u2:=u2.only ((Only.refl w.heap.size _).setCell 4 none (.string x)) (by omega)
  replace u1:=u1.set4 x
  refine hK.out _ _ ⟨_,_,_,u1⟩ (fun _=>?_)
  clear hK K c0 f0
  try simp only [putS]
  refine tg (i:=13) (.pointer (some ⟨w.heap.size,5,none⟩)) rfl ⟨_,_,_,u1⟩ ?_
  refine tr 14 rfl (fun K hK=>?_)
  have c0:=u1.c5
  have f0:=u1.free 5
  go_simp
  replace HV:=Lib.hid (zc0 (i:=5) (v:=.slice pv q.length cv) q HV.out)
  replace bw:=zam (e:=w.heap.size) (o:=5) bw none (.slice pv q.length cv) (Nat.le_refl _) bw.size
  replace u2:=u2.only ((Only.refl w.heap.size _).setCell 5 none (.slice pv q.length cv)) (by omega)
  replace u1:=u1.set5 pv q.length cv
  refine hK.out _ _ ⟨_,_,_,u1⟩ (fun _=>?_)
  clear hK K c0 f0
  try simp only [putS]
  refine wpAnyH_done (by kernel_rfl) ?_ _
  go_wp2_with (first
   |((with_reducible refine zaj (.tmp 1) w.heap.size u1 ?_ ?_ ?_ ?_);rfl;rfl;rfl)
   |((with_reducible refine zdj (k':=k) (b':=b) (n':=n) (t':=t) (x':=x) (p':=pv) (len':=q.length) (cap':=cv) (.tmp 2) (.tmp 15) (w.heap.size+1) u2 ?_ ?_ ?_ ?_ ?_);rfl;rfl;rfl;rfl;intro w5 ho5 u5))
  have b5:=zag bw ho5 (Nat.le_succ _) bw.size
  refine bodyPost_ret (zdz (p:=2) Tryz.results59 _ rfl u5) rfl ⟨_,rfl,zay.stays (fun g hg=>⟨⟨by have:=hg.1;omega,Nat.lt_of_lt_of_le hg.2 ho5.size⟩,ho5.block g hg.2 (by have:=hg.1;omega)⟩) q HV.out,b5⟩
mutual
theorem ownVal:(v:Val)→OwnV v
 | .mk k b n t x q=>by
   intro W c h
   obtain ⟨L,rfl,hf,hq⟩:=h
   obtain ⟨p,cap,rfl⟩:=za5 (zay.held q hq)
   refine (zsk k b n t x q p cap W hf hq (znv q)).mono ?_
   rintro e w' ⟨V,rfl,hV,hb⟩
   exact ⟨_,[.int .i64 k,.bool b,.int .i64 n,.string t,.string x,V],rfl,rfl,⟨V,rfl,hf,hV⟩,hb⟩
theorem znv:(q:List Val)→∀ v∈q,OwnV v
 | [],v,h=>by cases h
 | u::r,v,h=>by
   rcases List.mem_cons.1 h with e | h
   ·rw [e]
    exact ownVal u
   ·exact znv r v h
end
end Go.Proofs.YtcfmenkigolnoaaGreatDoor
