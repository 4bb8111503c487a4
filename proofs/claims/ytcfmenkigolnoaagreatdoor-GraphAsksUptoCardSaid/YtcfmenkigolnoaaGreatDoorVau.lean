/- Texts of one kind, one behind the other: each says ahead of itself what it shows. -/
import Derived.Test.YtcfmenkigolnoaaGreatDoorVaq
import Derived.Test.YtcfmenkigolnoaaGreatDoorVat
import Derived.Test.YtcfmenkigolnoaaGreatDoorVan
/- GRW -/
namespace Go.Proofs.YtcfmenkigolnoaaGreatDoor
open Go.RowKit
theorem zje (s:ByteArray) (w:World) (hs:s.size≤2097152):Calls Tryz.prog 42 #[.string s] w fun e w'=>e=.returned (.bool (zco s))∧w=w':=by
 have hmax:s.size≤maxLen:=by unfold maxLen;omega
 by_cases h0:s.size=0
 ·have e:zco s=false:=by simp [zco,h0]
  rw [e]
  have h1:decide ((1:Int)≤s.size)=false:=decide_eq_false (by omega)
  clear e h0
  go_enter Tryz.func42,Tryz.ntmps42
  go_wp2_with fail
  go_ret
  exact ⟨rfl,rfl⟩
 ·have h1:decide ((1:Int)≤s.size)=true:=decide_eq_true (by omega)
  by_cases h2:s.size≤1048576
  ·have e:zco s=true:=by simp [zco,h0,h2]
   have h3:decide ((s.size:Int)≤1048576)=true:=decide_eq_true (by omega)
   rw [e]
   clear e h0
   go_enter Tryz.func42,Tryz.ntmps42
   go_wp2_with fail
   go_ret
   exact ⟨rfl,rfl⟩
  ·have e:zco s=false:=by simp [zco,h2]
   have h3:decide ((s.size:Int)≤1048576)=false:=decide_eq_false (by omega)
   rw [e]
   clear e h0
   go_enter Tryz.func42,Tryz.ntmps42
   go_wp2_with fail
   go_ret
   exact ⟨rfl,rfl⟩
def IdxPost (W:World) (q:Bool) (e:Ending) (w':World):Prop:=∃ r:Int,e=.returned (.int .i64 r)∧(q=true→0≤r)∧(q=false→r < 0)∧W=w'
set_option maxHeartbeats 1600000 in
set_option maxRecDepth 20000 in
theorem zha (V:Value) (ts:List ByteArray) (t:ByteArray) (W:World) (h:zcd W V ts) (hn:ts.length≤2097152):Calls Tryz.prog 55 #[V,.string t] W (IdxPost W (memB t ts)):=by
 obtain ⟨p,cap,rfl,hc⟩:=h
 obtain ⟨n,hl⟩:∃ n,n=ts.length:=⟨_,rfl⟩
 obtain ⟨r,hr⟩:∃ r,r=memB t ts:=⟨_,rfl⟩
 rw [← hr,← hl]
 rw [← hl] at hn
 have HC:=Lib.hid hc
 have HL:=Lib.hid hl
 have HR:=Lib.hid hr
 clear hc hl hr
 go_enter Tryz.func55,Tryz.ntmps55
 go_wp2_with fail
 go_loopg [5] n (fun gg s5 wr=>∃ j:Nat,j+gg=n∧s5=.int .i64 j∧Hid (∀ i (h:i < ts.length),i < j→ts[i]≠t)∧wr=W)
 case atStart=>exact ⟨0,by omega,rfl,Lib.hid (fun i _ h=>absurd h (by omega)),rfl⟩
 case round=>
  obtain ⟨j,hjg,rfl,HA,rfl⟩:=hrel
  by_cases hj:(j:Int) < n
  ·have hj1:j < ts.length:=by have:=HL.out;omega
   obtain ⟨g,off,rfl,hcj⟩:=HC.out (by intro q;rw [q] at hj1;simp at hj1)
   obtain ⟨y,hy⟩:∃ y,y=ts[j]:=⟨_,rfl⟩
   have cj:wr.cell? ⟨g,off+j,none⟩=some (.string y):=by
    rw [hcj j hj1,hy]
    simp [hj1]
   have HY:=Lib.hid hy
   clear hcj hy
   by_cases q:y=t
   ·subst q
    have HR2:Hid (r=true):=Lib.hid (by rw [HR.out,ze0,HY.out];exact List.getElem_mem hj1)
    go_wp2_with fail
    go_ret
    exact ⟨j,rfl,fun _=>by omega,fun h=>by rw [HR2.out] at h;simp at h,rfl⟩
   ·have q2:(y.toList == t.toList)=false:=zi2 q
    have HA2:Hid (∀ i (h:i < ts.length),i < j+1→ts[i]≠t):=Lib.hid fun i h1 h2=>by
     by_cases e:i=j
     ·subst e
      rw [← HY.out]
      exact q
     ·exact HA.out i h1 (by omega)
    clear q
    go_wp2_with fail
    go_roundg (gk - 1)
    case measure=>omega
    case rel=>exact ⟨j+1,by omega,by go_num,HA2,rfl⟩
  ·have HR2:Hid (r=false):=Lib.hid (by
    rw [HR.out]
    refine zi1 fun h=>?_
    obtain ⟨i,hi,e⟩:=List.getElem_of_mem h
    exact HA.out i hi (by have:=HL.out;omega) e)
   go_wp2_with fail
   go_ret
   exact ⟨-1,rfl,fun h=>by rw [HR2.out] at h;simp at h,fun _=>by decide,rfl⟩
theorem zhb (ls:List ByteArray) (i:Nat) (hi:i < ls.length):((ls.take (i+1)).all zco && decide ((ls.take (i+1)).map bl).Nodup)=(((ls.take i).all zco && decide ((ls.take i).map bl).Nodup) && (zco ls[i] && !memB ls[i] (ls.take i))):=by
 rw [List.take_succ_eq_append_getElem hi,List.all_append,List.map_append]
 rw [Bool.eq_iff_iff]
 simp only [Bool.and_eq_true,decide_eq_true_eq,List.nodup_append,List.all_cons,List.all_nil,List.map_cons,List.map_nil,List.mem_singleton,Bool.not_eq_true',and_true]
 constructor
 ·rintro ⟨⟨h1,h2⟩,h3,_,h5⟩
  refine ⟨⟨h1,h3⟩,h2,zi1 fun h=>?_⟩
  exact h5 _ (List.mem_map.2 ⟨_,h,rfl⟩) _ rfl rfl
 ·rintro ⟨⟨h1,h3⟩,h2,h4⟩
  refine ⟨⟨h1,h2⟩,h3,by simp,fun a ha b hb e=>?_⟩
  subst hb e
  obtain ⟨t,ht,e2⟩:=List.mem_map.1 ha
  have:=(ze0 ls[i] (ls.take i)).2 (by rw [← zir e2];exact ht)
  rw [h4] at this
  simp at this
def zeq (ls:List ByteArray):Bool:=ls.all zco && decide (ls.map bl).Nodup
theorem zjf {ls:List ByteArray} {i:Nat} (hi:i < ls.length) (h:(zco ls[i] && !memB ls[i] (ls.take i))=false):zc5 ls=false:=by
 have h1:zeq (ls.take (i+1))=false:=by
  unfold zeq
  rw [zhb ls i hi,h,Bool.and_false]
 rw [Bool.eq_false_iff] at h1 ⊢
 intro q
 refine h1 ?_
 unfold zc5 at q
 unfold zeq
 simp only [Bool.and_eq_true,decide_eq_true_eq,List.all_eq_true] at q ⊢
 refine ⟨fun x hx=>q.1.2 x (List.mem_of_mem_take hx),?_⟩
 rw [List.map_take]
 exact q.2.sublist (List.take_sublist _ _)
theorem zkl {ls:List ByteArray} (h:zeq ls=true):zc5 ls=decide (ls.length≤65536):=by
 unfold zeq at h
 unfold zc5
 rw [Bool.and_assoc,h,Bool.and_true]
def capK (v:Value):Prop:=∀ p n c,v=.slice p n c→n≤c
set_option maxHeartbeats 3200000 in
set_option maxRecDepth 20000 in
theorem zps (V:Value) (ls:List ByteArray) (W:World) (h:zcd W V ls) (hcap:capK V) (ht:∀ t∈ls,t.size≤2097152) (hn:ls.length≤2097152):Calls Tryz.prog 40 #[V] W fun e w'=>e=.returned (.bool (zc5 ls))∧Below W.heap.size W w':=by
 obtain ⟨p,cap,rfl,hc⟩:=id h
 have hcp:=hcap p _ cap rfl
 obtain ⟨n,hl⟩:∃ n,n=ls.length:=⟨_,rfl⟩
 obtain ⟨r,hr⟩:∃ r,r=zc5 ls:=⟨_,rfl⟩
 rw [← hr,← hl]
 rw [← hl] at hn hcp
 have HS:=Lib.hid h
 have HL:=Lib.hid hl
 have HR:=Lib.hid hr
 have HT:=Lib.hid ht
 clear hc hl hr h ht hcap
 go_enter Tryz.func40,Tryz.ntmps40
 go_wp2_with fail
 go_loopg [3] n (fun gg s3 wr=>∃ j:Nat,j+gg=n∧s3=.int .i64 j∧Hid (zeq (ls.take j)=true)∧Hid (Below W.heap.size W wr))
 case atStart=>exact ⟨0,by omega,rfl,Lib.hid (by simp [zeq]),Lib.hid (Below.refl _ _)⟩
 case round=>
  obtain ⟨j,hjg,rfl,HA,HB⟩:=hrel
  by_cases hj:(j:Int) < n
  ·have hj1:j < ls.length:=by have:=HL.out;omega
   obtain ⟨pp,cc,e0,hcv⟩:=HS.out.below HB.out
   injection e0 with e1 e2 e3
   subst e1
   obtain ⟨g,off,rfl,hcj⟩:=hcv (by intro q;rw [q] at hj1;simp at hj1)
   obtain ⟨t,hte⟩:∃ t,t=ls[j]:=⟨_,rfl⟩
   have cj:wr.cell? ⟨g,off+j,none⟩=some (.string t):=by
    rw [hcj j hj1,hte]
    simp [hj1]
   have hts:t.size≤2097152:=HT.out t (by rw [hte];exact List.getElem_mem hj1)
   have hpre:zcd wr (.slice (some ⟨g,off,none⟩) j cap) (ls.take j):=⟨some ⟨g,off,none⟩,cap,by rw [List.length_take];congr 1;omega,fun _=>⟨g,off,rfl,fun i hi=>by
    rw [List.length_take] at hi
    rw [hcj i (by omega)]
    simp [List.getD_eq_getElem?_getD,List.getElem?_take,show i < j by omega]⟩⟩
   have hjc:j≤cap:=by omega
   have hjc2:(j:Int)≤cap:=by omega
   have HW:=Lib.hid (fun W'=>zje t W' hts)
   have HI:=Lib.hid (fun W' (b:Below wr.heap.size wr W')=>zha _ (ls.take j) t W' (hpre.below b) (by rw [List.length_take];omega))
   obtain ⟨r1,hr1⟩:∃ r1,r1=zco t:=⟨_,rfl⟩
   obtain ⟨r2,hr2⟩:∃ r2,r2=memB t (ls.take j):=⟨_,rfl⟩
   rw [← hr1] at HW
   rw [← hr2] at HI
   have HZ:Hid ((r1 && !r2)=false→r=false):=Lib.hid fun h=>by
    rw [HR.out]
    refine zjf hj1 ?_
    rw [← hte,← hr1,← hr2]
    exact h
   have HY:Hid ((r1 && !r2)=true→zeq (ls.take (j+1))=true):=Lib.hid fun h=>by
    have h2:=HA.out
    unfold zeq at h2 ⊢
    rw [zhb ls j hj1,h2,← hte,← hr1,← hr2,h]
    rfl
   clear hcj hcv e2 e3 hte hr1 hr2 hpre HA
   have hB:=HB.out
   have ck:=Below.refl wr.heap.size wr
   clear HB
   cases r1 with
   | false=>
     obtain rfl:r=false:=HZ.out rfl
     go_upto_region 4 with fail
     refine wp_region_held_drew (S:=fun W'=>W'.cell? ⟨g,off+j,none⟩=some (.string t)) (by kernel_rfl) cj (fun _=>?_)
     replace cj:wr.drew.cell? ⟨g,off+j,none⟩=_:=cj
     replace hB:=hB.drew
     replace ck:=ck.drew
     generalize wr.drew=wD at*
     refine tg (i:=0) (.slice (some ⟨g,off,none⟩) n cap) rfl (cj) ?_
     refine tg (i:=1) (.int .i64 (j:Int)) rfl (cj) ?_
     refine tg (i:=2) (.pointer (some ⟨g,off+j,none⟩)) rfl (cj) ?_
     refine tk (i:=3) (v:=.string t) rfl (Or.inl ⟨by rfl,fun W' h=>by have c0:=h;go_simp⟩) (cj) ?_
     refine tr 4 rfl (fun K hK=>?_)
     rw [if_pos (by rfl)]
     go_simp
     refine (HW.out _).mono ?_
     rintro e0 w3 ⟨rfl,rfl⟩
     refine hK.out _ _ (cj) (fun _=>?_)
     clear hK K
     try simp only [putS]
     refine tg (i:=5) (.bool true) rfl (cj) ?_
     refine tg (i:=6) (.bool true) rfl (cj) ?_
     refine tn (i:=7) rfl (cj) ?_
     refine tn (i:=8) rfl (cj) ?_
     refine tn (i:=10) rfl (cj) ?_
     refine tn (i:=11) rfl (cj) ?_
     refine tn (i:=9) rfl (cj) ?_
     refine tn (i:=12) rfl (cj) ?_
     refine tn (i:=13) rfl (cj) ?_
     refine tn (i:=14) rfl (cj) ?_
     refine tn (i:=15) rfl (cj) ?_
     refine tg (i:=16) (.bool true) rfl (cj) ?_
     refine wpAnyH_done (by kernel_rfl) ?_ _
     go_wp2_with fail
     go_ret
     exact ⟨rfl,hB⟩
   | true=>
     cases r2 with
     | true=>
       obtain rfl:r=false:=HZ.out rfl
       go_upto_region 4 with fail
       refine wp_region_held_drew (S:=fun W'=>W'.cell? ⟨g,off+j,none⟩=some (.string t)) (by kernel_rfl) cj (fun _=>?_)
       replace cj:wr.drew.cell? ⟨g,off+j,none⟩=_:=cj
       replace hB:=hB.drew
       replace ck:=ck.drew
       generalize wr.drew=wD at*
       refine tg (i:=0) (.slice (some ⟨g,off,none⟩) n cap) rfl (cj) ?_
       refine tg (i:=1) (.int .i64 (j:Int)) rfl (cj) ?_
       refine tg (i:=2) (.pointer (some ⟨g,off+j,none⟩)) rfl (cj) ?_
       refine tk (i:=3) (v:=.string t) rfl (Or.inl ⟨by rfl,fun W' h=>by have c0:=h;go_simp⟩) (cj) ?_
       refine tr 4 rfl (fun K hK=>?_)
       rw [if_pos (by rfl)]
       go_simp
       refine (HW.out _).mono ?_
       rintro e0 w3 ⟨rfl,rfl⟩
       refine hK.out _ _ (cj) (fun _=>?_)
       clear hK K
       try simp only [putS]
       refine tg (i:=5) (.bool false) rfl (cj) ?_
       refine tg (i:=6) (.bool false) rfl (cj) ?_
       refine tg (i:=7) (.slice (some ⟨g,off,none⟩) n cap) rfl (cj) ?_
       refine tg (i:=8) (.int .i64 (j:Int)) rfl (cj) ?_
       refine tg (i:=10) (.slice (some ⟨g,off,none⟩) n cap) rfl (cj) ?_
       refine tg (i:=11) (.int .i64 (j:Int)) rfl (cj) ?_
       refine tg (i:=9) (.slice (some ⟨g,off,none⟩) j cap) rfl (cj) ?_
       refine tg (i:=12) (.pointer (some ⟨g,off+j,none⟩)) rfl (cj) ?_
       refine tk (i:=13) (v:=.string t) rfl (Or.inl ⟨by rfl,fun W' h=>by have c0:=h;go_simp⟩) (cj) ?_
       refine tr 14 rfl (fun K hK=>?_)
       rw [if_pos (by rfl)]
       go_simp
       refine (HI.out _ ck).mono ?_
       rintro e0 w4 ⟨ri,rfl,hi1,hi2,rfl⟩
       have hri:=hi1 rfl
       clear hi1 hi2
       refine hK.out _ _ (cj) (fun _=>?_)
       clear hK K
       try simp only [putS]
       refine tg (i:=15) (.bool true) rfl (cj) ?_
       refine tg (i:=16) (.bool true) rfl (cj) ?_
       refine wpAnyH_done (by kernel_rfl) ?_ _
       go_wp2_with fail
       go_ret
       exact ⟨rfl,hB⟩
     | false=>
       go_upto_region 4 with fail
       refine wp_region_held_drew (S:=fun W'=>W'.cell? ⟨g,off+j,none⟩=some (.string t)) (by kernel_rfl) cj (fun _=>?_)
       replace cj:wr.drew.cell? ⟨g,off+j,none⟩=_:=cj
       replace hB:=hB.drew
       replace ck:=ck.drew
       generalize wr.drew=wD at*
       refine tg (i:=0) (.slice (some ⟨g,off,none⟩) n cap) rfl (cj) ?_
       refine tg (i:=1) (.int .i64 (j:Int)) rfl (cj) ?_
       refine tg (i:=2) (.pointer (some ⟨g,off+j,none⟩)) rfl (cj) ?_
       refine tk (i:=3) (v:=.string t) rfl (Or.inl ⟨by rfl,fun W' h=>by have c0:=h;go_simp⟩) (cj) ?_
       refine tr 4 rfl (fun K hK=>?_)
       rw [if_pos (by rfl)]
       go_simp
       refine (HW.out _).mono ?_
       rintro e0 w3 ⟨rfl,rfl⟩
       refine hK.out _ _ (cj) (fun _=>?_)
       clear hK K
       try simp only [putS]
       refine tg (i:=5) (.bool false) rfl (cj) ?_
       refine tg (i:=6) (.bool false) rfl (cj) ?_
       refine tg (i:=7) (.slice (some ⟨g,off,none⟩) n cap) rfl (cj) ?_
       refine tg (i:=8) (.int .i64 (j:Int)) rfl (cj) ?_
       refine tg (i:=10) (.slice (some ⟨g,off,none⟩) n cap) rfl (cj) ?_
       refine tg (i:=11) (.int .i64 (j:Int)) rfl (cj) ?_
       refine tg (i:=9) (.slice (some ⟨g,off,none⟩) j cap) rfl (cj) ?_
       refine tg (i:=12) (.pointer (some ⟨g,off+j,none⟩)) rfl (cj) ?_
       refine tk (i:=13) (v:=.string t) rfl (Or.inl ⟨by rfl,fun W' h=>by have c0:=h;go_simp⟩) (cj) ?_
       refine tr 14 rfl (fun K hK=>?_)
       rw [if_pos (by rfl)]
       go_simp
       refine (HI.out _ ck).mono ?_
       rintro e0 w4 ⟨ri,rfl,hi1,hi2,rfl⟩
       have hri:=hi2 rfl
       have hrd:decide (0≤ri)=false:=decide_eq_false (by omega)
       clear hi1 hi2
       refine hK.out _ _ (cj) (fun _=>?_)
       clear hK K
       try simp only [putS]
       refine tg (i:=15) (.bool false) rfl (cj) ?_
       refine tg (i:=16) (.bool false) rfl (cj) ?_
       refine wpAnyH_done (by kernel_rfl) ?_ _
       go_wp2_with fail
       go_roundg (gk - 1)
       case measure=>omega
       case rel=>exact ⟨j+1,by omega,by go_num,Lib.hid (HY.out rfl),Lib.hid hB⟩
  ·have HZ:Hid (r=decide (n≤65536)):=Lib.hid (by
    have e:ls.take j=ls:=by rw [List.take_of_length_le];have:=HL.out;omega
    have h:=HA.out
    rw [e] at h
    rw [HR.out,zkl h,HL.out])
   go_wp2_with fail
   go_ret
   refine ⟨?_,HB.out⟩
   rw [HZ.out]
   simp
   try omega
end Go.Proofs.YtcfmenkigolnoaaGreatDoor

/- GRX -/
namespace Go.Proofs.YtcfmenkigolnoaaGreatDoor
open Go.RowKit
theorem zfj (k:Int) (b:Bool) (n:Int) (t x:ByteArray) (q:List Val) (d:Nat):mayP (.mk k b n t x q) d=zcc k b n t x q.length (decide (q.length≤4096) && decide (d+1≤60) && zem q (d+1)):=by conv=>lhs;unfold mayP
theorem zgx (k:Int) (b:Bool) (n:Int) (t x:ByteArray) (q:List Val):zfe (.mk k b n t x q)=((zdh (.mk k b n t x q) || (decide (k=5) && q.all zdh)) && mayP (.mk k b n t x q) 0):=rfl
def zc2 (v:Val) (l:Bool):Bool:=if l=true then zfe v else zdh v && mayP v 0
theorem zft (k:Int) (b:Bool) (n:Int) (t x:ByteArray) (q:List Val):zdh (.mk k b n t x q)=true↔k=1∨k=2∨k=3∨k=4:=by
 unfold zdh
 simp only [Bool.or_eq_true,decide_eq_true_eq]
 omega
theorem ze3 {k:Int} {b:Bool} {n:Int} {t x:ByteArray} {q:List Val} (l:Bool) (h:k=1∨k=2∨k=3∨k=4):zc2 (.mk k b n t x q) l=mayP (.mk k b n t x q) 0:=by
 have h1:=(zft k b n t x q).2 h
 unfold zc2
 split
 ·rw [zgx]
  rw [h1]
  simp
 ·rw [h1]
  simp
theorem zr8 {k:Int} {b:Bool} {n:Int} {t x:ByteArray} {q:List Val} (l:Bool) (h:¬ (k=1∨k=2∨k=3∨k=4)) (h5:k≠5):zc2 (.mk k b n t x q) l=false:=by
 have h1:zdh (.mk k b n t x q)=false:=by rw [Bool.eq_false_iff];exact fun h2=>h ((zft k b n t x q).1 h2)
 unfold zc2
 split
 ·rw [zgx]
  rw [h1,decide_eq_false h5]
  rfl
 ·rw [h1]
  rfl
theorem zv2 {v:Val} (h:zdh v=true) (d:Nat):mayP v d=mayP v 0:=by
 obtain ⟨k,b,n,t,x,q⟩:=v
 rw [zfj,zfj]
 rcases (zft k b n t x q).1 h with rfl | rfl | rfl | rfl <;> rfl
theorem zv3 {q:List Val} {d:Nat} (h:zem q d=true) (u:Val) (hu:u∈q):mayP u d=true:=by
 obtain ⟨j,hj,rfl⟩:=List.getElem_of_mem hu
 cases e:mayP q[j] d with
 | true=>rfl
 | false=>rw [zhz q d j hj e] at h;simp at h
theorem zv4 {b:Bool} {n:Int} {t x:ByteArray} {q:List Val} (l:Bool) {u:Val} (hu:u∈q) (h:zc2 u false=false):zc2 (.mk 5 b n t x q) l=false:=by
 rw [Bool.eq_false_iff]
 intro hc
 unfold zc2 at hc
 split at hc
 ·rw [zgx] at hc
  have h1:zdh (.mk 5 b n t x q)=false:=rfl
  rw [h1] at hc
  simp only [Bool.false_or,Bool.and_eq_true,decide_eq_true_eq,List.all_eq_true] at hc
  obtain ⟨⟨_,h2⟩,h3⟩:=hc
  rw [zfj] at h3
  have h4:((decide (q.length≤4096) && decide (0+1≤60) && zem q (0+1)) && zbx b n t x 0)=true:=h3
  simp only [Bool.and_eq_true] at h4
  have h5:=zv3 h4.1.2 u hu
  rw [zv2 (h2 u hu)] at h5
  unfold zc2 at h
  rw [if_neg (by decide),h2 u hu,h5] at h
  simp at h
 ·simp only [Bool.and_eq_true] at hc
  have h1:zdh (.mk 5 b n t x q)=false:=rfl
  rw [h1] at hc
  simp at hc
theorem zr9 {b:Bool} {n:Int} {t x:ByteArray} {q:List Val} (h:∀ u∈q,zc2 u false=true):zc2 (.mk 5 b n t x q) true=mayP (.mk 5 b n t x q) 0:=by
 unfold zc2
 rw [if_pos rfl]
 rw [zgx]
 have h1:q.all zdh=true:=by
  rw [List.all_eq_true]
  intro u hu
  have:=h u hu
  unfold zc2 at this
  rw [if_neg (by decide)] at this
  simp only [Bool.and_eq_true] at this
  exact this.1
 rw [h1]
 simp
theorem zpt {b:Bool} {n:Int} {t x:ByteArray} {q:List Val}:zc2 (.mk 5 b n t x q) false=false:=by
 unfold zc2
 rw [if_neg (by decide)]
 rfl
def zer (v:Val) (l:Bool):Prop:=∀ (W:World) (k:Int) (b:Bool) (n:Int) (t x:ByteArray) (q:List Val) (p:Option Addr) (cap:Nat),v=.mk k b n t x q→Fine n t x q.length→Held W (.slice p q.length cap) q→
 Calls Tryz.prog 84 #[.agg #[.int .i64 k,.bool b,.int .i64 n,.string t,.string x,.slice p q.length cap],.bool l] W fun e w'=>e=.returned (.bool (zc2 v l))∧Below W.heap.size W w'
set_option maxRecDepth 20000 in
set_option maxHeartbeats 6400000 in
theorem zv5 (k:Int) (b:Bool) (n:Int) (t x:ByteArray) (p:Option Addr) (len cap:Nat) (l:Bool) (w:World) (hk:¬ (k=1∨k=2∨k=3∨k=4)) (h5:k≠5):
 Calls Tryz.prog 84 #[.agg #[.int .i64 k,.bool b,.int .i64 n,.string t,.string x,.slice p len cap],.bool l] w fun e w'=>e=.returned (.bool false)∧Below w.heap.size w w':=by
 have S:=zal (k:=k) (b:=b) (n:=n) (t:=t) (x:=x) (p:=p) (len:=len) (cap:=cap) w rfl
 have b0:=zar w (.cells #[.int .i64 k,.bool b,.int .i64 n,.string t,.string x,.slice p len cap] 60)
 have f0:=S.c0
 have e1:(k == 1)=false:=by simp;omega
 have e2:(k == 2)=false:=by simp;omega
 have e3:(k == 3)=false:=by simp;omega
 have e4:(k == 4)=false:=by simp;omega
 have e5:(k == 5)=false:=by simp;omega
 clear hk h5
 go_enter Tryz.func84,Tryz.ntmps84
 go_wp2_with fail
 go_ret
 exact ⟨rfl,b0⟩
set_option maxRecDepth 20000 in
set_option maxHeartbeats 3200000 in
theorem zv6 (b:Bool) (n:Int) (t x:ByteArray) (q:List Val) (p:Option Addr) (cap:Nat) (l:Bool) (w:World) (hf:Fine n t x q.length) (hl:Held w (.slice p q.length cap) q):
 Calls Tryz.prog 84 #[.agg #[.int .i64 1,.bool b,.int .i64 n,.string t,.string x,.slice p q.length cap],.bool l] w fun e w'=>e=.returned (.bool (mayP (.mk 1 b n t x q) 0))∧Below w.heap.size w w':=by
 obtain ⟨w1,hw1⟩:∃ w1,w1=w.alloc (.cells #[.int .i64 1,.bool b,.int .i64 n,.string t,.string x,.slice p q.length cap] 60):=⟨_,rfl⟩
 have S:Six w1 w.heap.size 1 b n t x p q.length cap:=by rw [hw1];exact zal _ rfl
 have b0:Below w.heap.size w w1:=by rw [hw1];exact zar _ _
 have HM:=Lib.hid (fun (W:World) (h:Held W (.slice p q.length cap) q)=>zoj 1 b n t x q p cap W hf h)
 have HL:=Lib.hid hl
 have HW:=Lib.hid hw1
 have f0:=S.c0
 clear hl hw1
 generalize mayP (.mk 1 b n t x q) 0=r at HM ⊢
 go_enter Tryz.func84,Tryz.ntmps84
 go_upto_region 1 with fail
 rw [← HW.out]
 go_wp2_with (first
  |((with_reducible refine zan (.tmp 2) w.heap.size S ?_ ?_ ?_ ?_);rfl;rfl;rfl)
  |(go_at_call 108;(with_reducible refine (HM.out _ (Held.below q HL.out b0)).mono ?_);rintro e w9 ⟨rfl,hb9⟩;have b9:=zab b0 hb9 b0.size))
 go_ret
 exact ⟨rfl,b9⟩
set_option maxRecDepth 20000 in
set_option maxHeartbeats 3200000 in
theorem zv7 (b:Bool) (n:Int) (t x:ByteArray) (q:List Val) (p:Option Addr) (cap:Nat) (l:Bool) (w:World) (hf:Fine n t x q.length) (hl:Held w (.slice p q.length cap) q):
 Calls Tryz.prog 84 #[.agg #[.int .i64 2,.bool b,.int .i64 n,.string t,.string x,.slice p q.length cap],.bool l] w fun e w'=>e=.returned (.bool (mayP (.mk 2 b n t x q) 0))∧Below w.heap.size w w':=by
 obtain ⟨w1,hw1⟩:∃ w1,w1=w.alloc (.cells #[.int .i64 2,.bool b,.int .i64 n,.string t,.string x,.slice p q.length cap] 60):=⟨_,rfl⟩
 have S:Six w1 w.heap.size 2 b n t x p q.length cap:=by rw [hw1];exact zal _ rfl
 have b0:Below w.heap.size w w1:=by rw [hw1];exact zar _ _
 have HM:=Lib.hid (fun (W:World) (h:Held W (.slice p q.length cap) q)=>zoj 2 b n t x q p cap W hf h)
 have HL:=Lib.hid hl
 have HW:=Lib.hid hw1
 have f0:=S.c0
 clear hl hw1
 generalize mayP (.mk 2 b n t x q) 0=r at HM ⊢
 go_enter Tryz.func84,Tryz.ntmps84
 go_upto_region 1 with fail
 rw [← HW.out]
 go_wp2_with (first
  |((with_reducible refine zan (.tmp 2) w.heap.size S ?_ ?_ ?_ ?_);rfl;rfl;rfl)
  |(go_at_call 108;(with_reducible refine (HM.out _ (Held.below q HL.out b0)).mono ?_);rintro e w9 ⟨rfl,hb9⟩;have b9:=zab b0 hb9 b0.size))
 go_ret
 exact ⟨rfl,b9⟩
set_option maxRecDepth 20000 in
set_option maxHeartbeats 3200000 in
theorem zv8 (b:Bool) (n:Int) (t x:ByteArray) (q:List Val) (p:Option Addr) (cap:Nat) (l:Bool) (w:World) (hf:Fine n t x q.length) (hl:Held w (.slice p q.length cap) q):
 Calls Tryz.prog 84 #[.agg #[.int .i64 3,.bool b,.int .i64 n,.string t,.string x,.slice p q.length cap],.bool l] w fun e w'=>e=.returned (.bool (mayP (.mk 3 b n t x q) 0))∧Below w.heap.size w w':=by
 obtain ⟨w1,hw1⟩:∃ w1,w1=w.alloc (.cells #[.int .i64 3,.bool b,.int .i64 n,.string t,.string x,.slice p q.length cap] 60):=⟨_,rfl⟩
 have S:Six w1 w.heap.size 3 b n t x p q.length cap:=by rw [hw1];exact zal _ rfl
 have b0:Below w.heap.size w w1:=by rw [hw1];exact zar _ _
 have HM:=Lib.hid (fun (W:World) (h:Held W (.slice p q.length cap) q)=>zoj 3 b n t x q p cap W hf h)
 have HL:=Lib.hid hl
 have HW:=Lib.hid hw1
 have f0:=S.c0
 clear hl hw1
 generalize mayP (.mk 3 b n t x q) 0=r at HM ⊢
 go_enter Tryz.func84,Tryz.ntmps84
 go_upto_region 1 with fail
 rw [← HW.out]
 go_wp2_with (first
  |((with_reducible refine zan (.tmp 2) w.heap.size S ?_ ?_ ?_ ?_);rfl;rfl;rfl)
  |(go_at_call 108;(with_reducible refine (HM.out _ (Held.below q HL.out b0)).mono ?_);rintro e w9 ⟨rfl,hb9⟩;have b9:=zab b0 hb9 b0.size))
 go_ret
 exact ⟨rfl,b9⟩
set_option maxRecDepth 20000 in
set_option maxHeartbeats 3200000 in
theorem zv9 (b:Bool) (n:Int) (t x:ByteArray) (q:List Val) (p:Option Addr) (cap:Nat) (l:Bool) (w:World) (hf:Fine n t x q.length) (hl:Held w (.slice p q.length cap) q):
 Calls Tryz.prog 84 #[.agg #[.int .i64 4,.bool b,.int .i64 n,.string t,.string x,.slice p q.length cap],.bool l] w fun e w'=>e=.returned (.bool (mayP (.mk 4 b n t x q) 0))∧Below w.heap.size w w':=by
 obtain ⟨w1,hw1⟩:∃ w1,w1=w.alloc (.cells #[.int .i64 4,.bool b,.int .i64 n,.string t,.string x,.slice p q.length cap] 60):=⟨_,rfl⟩
 have S:Six w1 w.heap.size 4 b n t x p q.length cap:=by rw [hw1];exact zal _ rfl
 have b0:Below w.heap.size w w1:=by rw [hw1];exact zar _ _
 have HM:=Lib.hid (fun (W:World) (h:Held W (.slice p q.length cap) q)=>zoj 4 b n t x q p cap W hf h)
 have HL:=Lib.hid hl
 have HW:=Lib.hid hw1
 have f0:=S.c0
 clear hl hw1
 generalize mayP (.mk 4 b n t x q) 0=r at HM ⊢
 go_enter Tryz.func84,Tryz.ntmps84
 go_upto_region 1 with fail
 rw [← HW.out]
 go_wp2_with (first
  |((with_reducible refine zan (.tmp 2) w.heap.size S ?_ ?_ ?_ ?_);rfl;rfl;rfl)
  |(go_at_call 108;(with_reducible refine (HM.out _ (Held.below q HL.out b0)).mono ?_);rintro e w9 ⟨rfl,hb9⟩;have b9:=zab b0 hb9 b0.size))
 go_ret
 exact ⟨rfl,b9⟩
set_option maxRecDepth 20000 in
set_option maxHeartbeats 6400000 in
theorem zwa (b:Bool) (n:Int) (t x:ByteArray) (q:List Val) (p:Option Addr) (cap:Nat) (l:Bool) (w:World) (hf:Fine n t x q.length) (hl:Held w (.slice p q.length cap) q) (each:∀ v∈q,zer v false):
 Calls Tryz.prog 84 #[.agg #[.int .i64 5,.bool b,.int .i64 n,.string t,.string x,.slice p q.length cap],.bool l] w fun e w'=>e=.returned (.bool (zc2 (.mk 5 b n t x q) l))∧Below w.heap.size w w':=by
 obtain ⟨r,hr⟩:∃ r,r=zc2 (.mk 5 b n t x q) l:=⟨_,rfl⟩
 rw [← hr]
 have S:=zal (k:=5) (b:=b) (n:=n) (t:=t) (x:=x) (p:=p) (len:=q.length) (cap:=cap) w rfl
 have b0:=zar w (.cells #[.int .i64 5,.bool b,.int .i64 n,.string t,.string x,.slice p q.length cap] 60)
 have HM0:=fun (W:World) (h:Held W (.slice p q.length cap) q)=>zoj 5 b n t x q p cap W hf h
 obtain ⟨m,hm⟩:∃ m,m=q.length:=⟨_,rfl⟩
 have hml:m≤2097152:=by rw [hm];exact hf.hn
 rw [← hm] at S b0 HM0 hl ⊢
 have f0:=S.c0
 have HN:=Lib.hid hm
 have HM:=Lib.hid HM0
 have HL:=Lib.hid hl
 have HS:=Lib.hid S
 have HR:=Lib.hid hr
 have HE:=Lib.hid each
 clear hm HM0 hl S hr each hf
 go_enter Tryz.func84,Tryz.ntmps84
 go_wp2_with fail
 go_loopw [5] (fun i wr=>∃ j:Nat,j≤m∧i=.int .i64 j∧Below w.heap.size w wr∧Six wr w.heap.size 5 b n t x p m cap∧Hid (∀ (i:Nat) (h:i < q.length),i < j→zc2 q[i] false=true)) (fun i _=>m - (intOf i).toNat)
 case atStart=>exact ⟨0,Nat.zero_le _,rfl,b0,HS.out,Lib.hid fun _ _ h=>absurd h (by omega)⟩
 case round=>
  clear f0 b0
  obtain ⟨j,hj,rfl,hb,S,HA⟩:=hrel
  have f5:=S.c5
  by_cases hlt:(j:Int) < m
  ·have hj1:j < q.length:=by have:=HN.out;omega
   obtain ⟨g,off,rfl,hh⟩:∃ g off,p=some ⟨g,off,none⟩∧zb8 w g off q:=by
    have hq:=HL.out
    cases q with
    | nil=>simp at hj1
    | cons v r=>exact hq.form
   obtain ⟨k1,b1,n1,t1,x1,q1,p1,cp1,o1⟩:=((zb8.at_ q off hh j hj1).below _ hb).opens
   have hc:=HE.out q[j] (List.getElem_mem hj1) wr k1 b1 n1 t1 x1 q1 p1 cp1 o1.e o1.hf o1.hl
   obtain ⟨c,hcc⟩:∃ c,c=zc2 q[j] false:=⟨_,rfl⟩
   rw [← hcc] at hc
   have HC:=Lib.hid hcc
   have HC2:=Lib.hid hc
   clear hc hcc
   have O1:=Lib.hid o1
   clear o1 hh
   cases c with
   | true=>
     go_wp2_with (first
      |((with_reducible refine zbu (.tmp 27) g (off+j*6) k1 b1 n1 t1 x1 _ O1.out.c0 O1.out.c1 O1.out.c2 O1.out.c3 O1.out.c4 O1.out.c5 ?_ ?_ ?_ ?_);rfl;rfl;rfl)
      |(go_at_call 84;(with_reducible refine HC2.out.mono ?_);rintro e w3 ⟨rfl,hb3⟩;have b3:=zab hb hb3 hb.size;have S3:=S.below hb3;clear hb3))
     go_roundw
     case rel=>
      refine ⟨j+1,by omega,by go_num,b3,S3,Lib.hid fun i hi hlt'=>?_⟩
      by_cases e:i=j
      ·subst e;exact HC.out.symm
      ·exact HA.out i hi (by omega)
     case measure=>simp [intOf];omega
   | false=>
     go_wp2_with (first
      |((with_reducible refine zbu (.tmp 27) g (off+j*6) k1 b1 n1 t1 x1 _ O1.out.c0 O1.out.c1 O1.out.c2 O1.out.c3 O1.out.c4 O1.out.c5 ?_ ?_ ?_ ?_);rfl;rfl;rfl)
      |(go_at_call 84;(with_reducible refine HC2.out.mono ?_);rintro e w3 ⟨rfl,hb3⟩;have b3:=zab hb hb3 hb.size;clear hb3))
     go_ret
     exact ⟨by rw [HR.out,zv4 l (List.getElem_mem hj1) HC.out.symm];rfl,b3⟩
  ·have HA2:Hid (∀ u∈q,zc2 u false=true):=Lib.hid fun u hu=>by
    obtain ⟨i,hi,rfl⟩:=List.getElem_of_mem hu
    exact HA.out i hi (by have:=HN.out;omega)
   have hLw:=Held.below q HL.out hb
   have HC:=HM.out wr hLw
   clear hLw
   cases l with
   | true=>
     have HC2:=Lib.hid HC
     clear HC
     go_wp2_with (first
      |((with_reducible refine zau (.tmp 2) w.heap.size S ?_ ?_ ?_ ?_);rfl;rfl;rfl)
      |(go_at_call 108;(with_reducible refine HC2.out.mono ?_);rintro e w9 ⟨rfl,hb9⟩;have b9:=zab hb hb9 hb.size))
     go_ret
     exact ⟨by rw [HR.out,zr9 HA2.out];rfl,b9⟩
   | false=>
     clear HC
     go_wp2_with fail
     go_ret
     exact ⟨by rw [HR.out,zpt];rfl,hb⟩
theorem zok (v:Val) (l:Bool) (k:Int) (b:Bool) (n:Int) (t x:ByteArray) (q:List Val) (ev:v=.mk k b n t x q) (each:∀ u∈q,zer u false):zer v l:=by
 subst ev
 intro W k1 b1 n1 t1 x1 q1 p cap e hf hl
 cases e
 by_cases h1:k=1
 ·subst h1;rw [ze3 l (by omega)];exact zv6 b n t x q p cap l W hf hl
 by_cases h2:k=2
 ·subst h2;rw [ze3 l (by omega)];exact zv7 b n t x q p cap l W hf hl
 by_cases h3:k=3
 ·subst h3;rw [ze3 l (by omega)];exact zv8 b n t x q p cap l W hf hl
 by_cases h4:k=4
 ·subst h4;rw [ze3 l (by omega)];exact zv9 b n t x q p cap l W hf hl
 by_cases h5:k=5
 ·subst h5;exact zwa b n t x q p cap l W hf hl each
 rw [zr8 l (by omega) h5]
 exact zv5 k b n t x p q.length cap l W (by omega) h5
mutual
theorem zjg:(v:Val)→(l:Bool)→zer v l
 | .mk k b n t x q,l=>zok _ l k b n t x q rfl (fun u h=>zhp q u h)
theorem zhp:(q:List Val)→∀ u∈q,zer u false
 | [],_,h=>absurd h (by simp)
 | v::r,u,h=>by
   rcases List.mem_cons.1 h with h | h
   ·rw [h];exact zjg v false
   ·exact zhp r u h
end
end Go.Proofs.YtcfmenkigolnoaaGreatDoor

/- GRY -/
namespace Go.Proofs.YtcfmenkigolnoaaGreatDoor
open Go.RowKit
def zgy (ps:List za2):Bool:=zeq (ps.map za2.key) && ps.all fun p=>zfe p.v
theorem zsa (ps:List za2) (i:Nat) (hi:i < ps.length):zgy (ps.take (i+1))=(zgy (ps.take i) && ((zco ps[i].key && !memB ps[i].key ((ps.map za2.key).take i)) && zfe ps[i].v)):=by
 have hi2:i < (ps.map za2.key).length:=by rw [List.length_map];exact hi
 have h:zeq ((ps.map za2.key).take (i+1))=(zeq ((ps.map za2.key).take i) && (zco (ps.map za2.key)[i] && !memB (ps.map za2.key)[i] ((ps.map za2.key).take i))):=zhb _ i hi2
 rw [List.getElem_map] at h
 unfold zgy
 rw [List.map_take,List.map_take,h,List.take_succ_eq_append_getElem hi,List.all_append,List.all_cons,List.all_nil,Bool.and_true]
 ac_rfl
theorem zpu {ps:List za2} {i:Nat} (hi:i < ps.length) (h:((zco ps[i].key && !memB ps[i].key ((ps.map za2.key).take i)) && zfe ps[i].v)=false):zce ps=false:=by
 rw [Bool.and_eq_false_iff] at h
 unfold zce
 rcases h with h | h
 ·have h2:zc5 (ps.map za2.key)=false:=zjf (i:=i) (by rw [List.length_map];exact hi) (by rw [List.getElem_map];exact h)
  rw [h2,Bool.and_false,Bool.false_and]
 ·have h2:(ps.all fun p=>zfe p.v)=false:=by
   rw [Bool.eq_false_iff]
   intro q
   rw [List.all_eq_true] at q
   have:=q _ (List.getElem_mem hi)
   rw [h] at this
   simp at this
  rw [h2,Bool.and_false]
theorem zsb {ps:List za2} (h:zgy ps=true):zce ps=decide (ps.length≤65536):=by
 unfold zgy at h
 rw [Bool.and_eq_true] at h
 unfold zce
 rw [zkl h.1,h.2,List.length_map,Bool.and_true,Bool.and_self]
set_option maxHeartbeats 6400000 in
set_option maxRecDepth 20000 in
theorem zkm (V:Value) (ps:List za2) (W:World) (h:zaj za8 W (Old W) V ps) (hn:ps.length≤2097152):Calls Tryz.prog 41 #[V] W fun e w'=>e=.returned (.bool (zce ps))∧Below W.heap.size W w':=by
 obtain ⟨p,cap,rfl⟩:=h.slice
 obtain ⟨n,hl⟩:∃ n,n=ps.length:=⟨_,rfl⟩
 obtain ⟨r,hr⟩:∃ r,r=zce ps:=⟨_,rfl⟩
 rw [← hr,← hl]
 rw [← hl] at hn
 by_cases hbig:n≤65536
 ·have hb1:decide ((65536:Int) < n)=false:=decide_eq_false (by omega)
  have H1:=Lib.hid h
  have HL:=Lib.hid hl
  have HR:=Lib.hid hr
  have HBG:=Lib.hid hbig
  clear h hl hr hbig
  go_enter Tryz.func41,Tryz.ntmps41
  go_wp2_with fail
  go_loopg [3] n (fun gg s3 wr=>∃ j:Nat,j+gg=n∧s3=.int .i64 j∧Hid (zgy (ps.take j)=true)∧Hid (Below W.heap.size W wr))
  case atStart=>exact ⟨0,by omega,rfl,Lib.hid (by simp [zgy,zeq]),Lib.hid (Below.refl _ _)⟩
  case round=>
   obtain ⟨j,hjg,rfl,HA,HB⟩:=hrel
   clear hb1
   by_cases hj:(j:Int) < n
   ·have hj1:j < ps.length:=by have:=HL.out;omega
    obtain ⟨g,o,cp1,cc1,e1,hg1,hr1,hra1⟩:=(H1.out.stays (zad HB.out)).at_ j hj1
    injection e1 with e11 e12 e13
    subst e11
    obtain ⟨x,hx⟩:∃ x,x=ps[j]:=⟨_,rfl⟩
    rw [← hx] at hr1
    obtain ⟨key,⟨k1,b1,i1,t1,x1,q1⟩⟩:=x
    obtain ⟨c61,rfl,hks,hv1⟩:=hr1
    obtain ⟨L1,rfl,hf1,hq1⟩:=hv1
    have hh1:=za9.held q1 hq1
    obtain ⟨lp1,lc1,rfl⟩:=za7 hh1
    have ra:wr.rangeAt g (o+j*7) [.string key,.int .i64 k1,.bool b1,.int .i64 i1,.string t1,.string x1,.slice lp1 q1.length lc1]:=hra1
    have rv:wr.rangeAt g (o+j*7+1) [.int .i64 k1,.bool b1,.int .i64 i1,.string t1,.string x1,.slice lp1 q1.length lc1]:=fun i u hi=>by
     have:=ra (i+1) u (by rw [List.getElem?_cons_succ];exact hi)
     rw [show o+j*7+1+i=o+j*7+(i+1) by omega]
     exact this
    have c0:wr.cell? ⟨g,o+j*7,none⟩=some (.string key):=ra 0 _ rfl
    have hkey:key=ps[j].key:=by rw [← hx]
    have hval:(.mk k1 b1 i1 t1 x1 q1:Val)=ps[j].v:=by rw [← hx]
    have hw:=zje key wr hks
    have hp:=zjg (.mk k1 b1 i1 t1 x1 q1) true wr k1 b1 i1 t1 x1 q1 lp1 lc1 rfl hf1 hh1
    rw [show zc2 (.mk k1 b1 i1 t1 x1 q1) true=zfe (.mk k1 b1 i1 t1 x1 q1) from rfl] at hp
    obtain ⟨r1,hr1⟩:∃ r1,r1=zco key:=⟨_,rfl⟩
    obtain ⟨r2,hr2⟩:∃ r2,r2=zfe (.mk k1 b1 i1 t1 x1 q1):=⟨_,rfl⟩
    rw [← hr1] at hw
    rw [← hr2] at hp
    have HWD:=Lib.hid hw
    have HPL:=Lib.hid hp
    have HZ:Hid (((r1 && !memB key ((ps.map za2.key).take j)) && r2)=false→r=false):=Lib.hid fun h=>by
     rw [HR.out]
     refine zpu hj1 ?_
     rw [← hkey,← hval,← hr1,← hr2]
     exact h
    have HY:Hid (((r1 && !memB key ((ps.map za2.key).take j)) && r2)=true→zgy (ps.take (j+1))=true):=Lib.hid fun h=>by
     rw [zsa ps j hj1,HA.out,← hkey,← hval,← hr1,← hr2,h]
     rfl
    have HK:=Lib.hid hkey
    have hB:=HB.out
    clear hw hp hr1 hr2 hkey hval hx hra1 e12 e13 hh1 hq1 hf1 HA HB ra hks
    cases r1 with
    | false=>
      obtain rfl:r=false:=HZ.out rfl
      clear rv HPL
      go_wp2_with (first
       |(go_at_call 42;(with_reducible refine HWD.out.mono ?_);rintro e w3 ⟨rfl,rfl⟩))
      go_ret
      exact ⟨rfl,hB⟩
    | true=>
      cases r2 with
      | false=>
        obtain rfl:r=false:=HZ.out (by rw [Bool.and_false])
        go_wp2_with (first
         |(go_at_call 42;(with_reducible refine HWD.out.mono ?_);rintro e w3 ⟨rfl,rfl⟩)
         |((with_reducible refine zcv (.tmp 25) g (o+j*7+1) 60 _ 6 _ rv rfl Tryz.underlying60 rfl (by kernel_rfl) ?_ ?_ ?_ ?_);rfl;rfl;rfl)
         |(go_at_call 84;(with_reducible refine HPL.out.mono ?_);rintro e w4 ⟨rfl,hb4⟩;have b4:=zab hB hb4 hB.size))
        go_ret
        exact ⟨rfl,b4⟩
      | true=>
        go_wp2_with (first
         |(go_at_call 42;(with_reducible refine HWD.out.mono ?_);rintro e w3 ⟨rfl,rfl⟩)
         |((with_reducible refine zcv (.tmp 25) g (o+j*7+1) 60 _ 6 _ rv rfl Tryz.underlying60 rfl (by kernel_rfl) ?_ ?_ ?_ ?_);rfl;rfl;rfl)
         |(go_at_call 84;(with_reducible refine HPL.out.mono ?_);rintro e w4 ⟨rfl,hb4⟩;have b4:=zab hB hb4 hB.size))
        have HB4:=Lib.hid b4
        clear c0 rv hb4 b4 hB HWD HPL
        go_loopg [4] j (fun gg s4 wr2=>∃ i:Nat,i+gg=j∧s4=.int .i64 i∧Hid (∀ m (h:m < ps.length),m < i→ps[m].key≠key)∧Hid (Below W.heap.size W wr2))
        case atStart=>exact ⟨0,by omega,rfl,Lib.hid (fun m _ h=>absurd h (by omega)),HB4⟩
        case round=>
         clear HB4
         obtain ⟨i,hig,rfl,HC,HB⟩:=hrel
         by_cases hi:(i:Int) < j
         ·have hi1:i < ps.length:=by omega
          obtain ⟨g1,o1,cp1,cc1,e1,hg1,hr1,hra1⟩:=(H1.out.stays (zad HB.out)).at_ i hi1
          injection e1 with e11 e12 e13
          injection e11 with e14
          injection e14 with e15 e16
          subst e15 e16
          obtain ⟨g2,o2,cp2,cc2,e1,hg2,hr2,hra2⟩:=(H1.out.stays (zad HB.out)).at_ j hj1
          injection e1 with e21 e22 e23
          injection e21 with e24
          injection e24 with e25 e26
          subst e25 e26
          obtain ⟨y,hy⟩:∃ y,y=ps[i].key:=⟨_,rfl⟩
          obtain ⟨t1,rfl,_,_⟩:=hr1
          obtain ⟨t2,rfl,_,_⟩:=hr2
          have c1:=hra1 0 _ rfl
          have c2:=hra2 0 _ rfl
          rw [← hy] at c1
          rw [← HK.out] at c2
          replace c1:wr.cell? ⟨g,o+i*7,none⟩=some (.string y):=c1
          replace c2:wr.cell? ⟨g,o+j*7,none⟩=some (.string key):=c2
          have HYY:=Lib.hid hy
          clear hra1 hra2 e12 e13 e22 e23 hy
          by_cases q:y=key
          ·subst q
           have HR2:Hid (r=false):=Lib.hid (HZ.out (by
            have:memB y ((ps.map za2.key).take j)=true:=by
             rw [ze0,HYY.out]
             refine List.mem_iff_getElem.2 ⟨i,by rw [List.length_take,List.length_map];omega,?_⟩
             rw [List.getElem_take,List.getElem_map]
            rw [this]
            rfl))
           have hB:=HB.out
           clear HB
           go_upto_region 11 with fail
           go_quiet (fail)
           have hB9:=hB.trans (zbw (Below.refl _ wr) nq |>.mono hB.size)
           clear c1 c2 hB
           generalize wr.drewN nq=w9 at*
           go_wp2_with fail
           go_ret
           exact ⟨by rw [HR2.out];rfl,hB9⟩
          ·have q2:(y.toList == key.toList)=false:=zi2 q
           have HC2:Hid (∀ m (h:m < ps.length),m < i+1→ps[m].key≠key):=Lib.hid fun m h1 h2=>by
            by_cases e:m=i
            ·subst e
             rw [← HYY.out]
             exact q
            ·exact HC.out m h1 (by omega)
           have hB:=HB.out
           clear HB q
           go_upto_region 11 with fail
           go_quiet (fail)
           have hB9:=hB.trans (zbw (Below.refl _ wr) nq |>.mono hB.size)
           clear c1 c2 hB
           generalize wr.drewN nq=w9 at*
           go_wp2_with fail
           go_roundg (gk - 1)
           case measure=>omega
           case rel=>exact ⟨i+1,by omega,by go_num,HC2,Lib.hid hB9⟩
         ·have HM:Hid (zgy (ps.take (j+1))=true):=Lib.hid (HY.out (by
           have:memB key ((ps.map za2.key).take j)=false:=by
            refine zi1 fun h=>?_
            obtain ⟨m,hm,e⟩:=List.getElem_of_mem h
            rw [List.length_take,List.length_map] at hm
            rw [List.getElem_take,List.getElem_map] at e
            exact HC.out m (by omega) (by omega) e
           rw [this]
           rfl))
          go_wp2_with fail
          go_roundg (n - (j+1))
          case measure=>omega
          case rel=>exact ⟨j+1,by omega,by go_num,HM,HB⟩
   ·have HZ:Hid (r=true):=Lib.hid (by
     have e:ps.take j=ps:=by rw [List.take_of_length_le];have:=HL.out;omega
     have h:=HA.out
     rw [e] at h
     rw [HR.out,zsb h,← HL.out]
     exact decide_eq_true HBG.out)
    go_wp2_with fail
    go_ret
    exact ⟨by rw [HZ.out];rfl,HB.out⟩
 ·have hb1:decide ((65536:Int) < n)=true:=decide_eq_true (by omega)
  obtain rfl:r=false:=by
   rw [hr]
   unfold zce
   rw [← hl,decide_eq_false hbig]
   rfl
  clear hr hl h hbig
  go_enter Tryz.func41,Tryz.ntmps41
  go_wp2_with fail
  go_ret
  exact ⟨rfl,Below.refl _ _⟩
end Go.Proofs.YtcfmenkigolnoaaGreatDoor
