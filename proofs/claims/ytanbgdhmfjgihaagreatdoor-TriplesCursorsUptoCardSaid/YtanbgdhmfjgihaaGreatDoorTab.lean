/- Texts of one kind, one behind the other: each says ahead of itself what it shows. -/
import Derived.Test.YtanbgdhmfjgihaaGreatDoorTaa
import Derived.Lib.IndexMore
import Derived.Lib.TrimByte
import Derived.BigGuardPart
namespace Go.Proofs.YtanbgdhmfjgihaaGreatDoor
open Go.RowKit
set_option maxHeartbeats 12800000
set_option maxRecDepth 20000
theorem zqu (p:Nat→Bool) (a e x s left:Nat) (ha:a≤x) (hx:x < e) (hs:1≤s) (hp:p x=true) (mono:∀ i j,a≤i→i≤j→j < e→p j=true→p i=true) (hl:left=min (x+s) e - (x+1))
 (hend:x+s < e→p (x+s)=false):x+1+(List.range left).countP (fun i=>!(!p (x+1+i)))=gal p a (e - a):=by
 rw [ztb p (x+1) left (fun i j hij hj h=>mono _ _ (by omega) (by omega) (by omega) h)]
 have g1:=zh0 p left (x+1)
 have g2:=zdc p left (x+1)
 symm
 refine gal_is p a (e - a) _ (by omega) (by omega) (fun j h1 h2=>?_) (fun h=>?_)
 ·by_cases c:j≤x
  ·exact mono j x h1 c hx hp
  ·exact zct p left (x+1) j (by omega) (by omega)
 ·rw [show x+1+(gal p (x+1) left - (x+1))=gal p (x+1) left by omega] at h ⊢
  by_cases c:gal p (x+1) left < x+1+left
  ·exact zh1 p left (x+1) c
  ·have e1:gal p (x+1) left=x+s:=by omega
   rw [e1] at h ⊢
   exact hend (by omega)
theorem eg118:∀ args w,(callFunc 118 args).run Tryz.prog w=.ok (.enter 118 args) w:=enters_of Tryz.func118 (by kernel_rfl) rfl
theorem zr3 (g:Nat) (b0:Value) (eg:∀ args w,(callFunc g args).run Tryz.prog w=.ok (.enter g args) w) (a e:Nat) (p:Nat→Bool) (w:World) (h:a < e) (hp:p a=true) (he:e < 1099511627776)
 (mono:∀ i j,a≤i→i≤j→j < e→p j=true→p i=true)
 (hf:∀ W,Low w.heap.size w W→∀ j:Nat,a≤j→j < e→Calls Tryz.prog g #[b0,.int .i64 j] W fun x w'=>x=.returned (.bool (p j))∧Low W.heap.size W w'):
 Calls Tryz.prog 91 #[.agg #[.int .i64 a,.int .i64 e],.func (.func g) #[b0] #[]] w fun x w'=>x=.returned (.int .i64 (gal p a (e - a):Nat))∧Low w.heap.size w w':=by
 obtain ⟨W1,hW1⟩:∃ W1,W1=(w.alloc (.cells #[.int .i64 a,.int .i64 e] 90)).alloc (.cells #[.func (.func g) #[b0] #[]] 98):=⟨_,rfl⟩
 have B:W1.heap[w.heap.size]?=some (.cells #[.int .i64 a,.int .i64 e] 90):=by rw [hW1];exact zaw _ (zah _ _ rfl)
 have B2:W1.heap[w.heap.size+1]?=some (.cells #[.func (.func g) #[b0] #[]] 98):=by rw [hW1];exact zah _ _ (by simp)
 have b0':Low w.heap.size w W1:=by rw [hW1];exact low2 _ _ _
 have hemp:=fun W=>zeb a e W
 rw [decide_eq_false (by omega)] at hemp
 have hfa:=fun W (h:Low w.heap.size w W)=>hf W h a (Nat.le_refl _) ‹a < e›
 rw [hp] at hfa
 have HF:=Lib.hid hf
 have HM:=Lib.hid mono
 have HP:=Lib.hid hp
 have HW:=Lib.hid hW1
 clear hW1 mono hf hp
 go_enter Tryz.func91,Tryz.ntmps91
 go_wp2_with (first
  |(rw [← HW.out];(with_reducible refine zcf (.tmp 2) w.heap.size 0 a e (zio B) ?_ ?_ ?_ ?_);rfl;rfl;rfl)
  |(go_at_call 56;(with_reducible refine (hemp _).mono ?_);rintro e0 w3 ⟨rfl,hb3⟩;replace b0':=zad b0' hb3 b0'.size;replace B:=(hb3.block _ (zac B)).trans B;replace B2:=(hb3.block _ (zac B2)).trans B2;clear hb3;have c0:=zab B 0 rfl;have c1:=zab B2 0 rfl)
  |(go_at_fn g;(with_reducible refine (hfa _ b0').mono ?_);rintro e0 w3 ⟨rfl,hb3⟩;replace b0':=zad b0' hb3 b0'.size;replace B:=(hb3.block _ (zac B)).trans B;replace B2:=(hb3.block _ (zac B2)).trans B2;clear hb3 c0 c1;have c0:=zab B 0 rfl))
 clear hfa hemp c0
 go_loopg [5,6] (e - a) (fun gg s5 s6 wr=>∃ x s:Nat,s5=.int .i64 x∧s6=.int .i64 s∧a≤x∧x < e∧e - x≤gg∧1≤s∧s < 2199023255552∧Hid (p x=true)∧Low w.heap.size w wr∧Hid (wr.heap[w.heap.size]?=some (.cells #[.int .i64 a,.int .i64 e] 90))∧Hid (wr.heap[w.heap.size+1]?=some (.cells #[.func (.func g) #[b0] #[]] 98)))
 case atStart=>exact ⟨a,1,rfl,rfl,Nat.le_refl _,h,Nat.le_refl _,Nat.le_refl _,by omega,HP,b0',Lib.hid B,Lib.hid B2⟩
 case round=>
  clear B B2 b0'
  obtain ⟨x,s,rfl,rfl,hax,hxe,hgg,hs1,hs2,hpx,bw,hB,hB2⟩:=hrel
  have B:=hB.out
  have B2:=hB2.out
  have c1:=zab B 1 rfl
  have c2:=zab B2 0 rfl
  by_cases hlt:x+s < e
  ·have hlt':(x:Int)+s < e:=by omega
   have hq:=fun W (h:Low w.heap.size w W)=>HF.out W h (x+s) (by omega) hlt
   rw [show ((x+s:Nat):Int)=(x:Int)+s by omega] at hq
   cases hps:p (x+s) with
   | true=>
     rw [hps] at hq
     have HPS:=Lib.hid hps
     clear hps
     go_wp2_with (go_at_fn g;(with_reducible refine (hq _ bw).mono ?_);rintro e0 w3 ⟨rfl,hb3⟩;replace bw:=zad bw hb3 bw.size;replace B:=(hb3.block _ (zac B)).trans B;replace B2:=(hb3.block _ (zac B2)).trans B2;clear hb3 c1 c2)
     go_roundg (e - (x+s))
     case measure=>omega
     case rel=>exact ⟨x+s,s*2,by go_num,by go_num,by omega,hlt,by omega,by omega,by omega,HPS,bw,Lib.hid B,Lib.hid B2⟩
   | false=>
     rw [hps] at hq
     have hend:x+s < e→p (x+s)=false:=fun _=>hps
     have HE:=Lib.hid (zqu p a e x s (s - 1) hax hxe hs1 hpx.out HM.out (by omega) hend)
     have hmin:min ((x:Int)+s) e=(x:Int)+s:=by omega
     clear hend hps
     go_upto_region 8 with (go_at_fn g;(with_reducible refine (hq _ bw).mono ?_);rintro e0 w3 ⟨rfl,hb3⟩;replace bw:=zad bw hb3 bw.size;replace B:=(hb3.block _ (zac B)).trans B;replace B2:=(hb3.block _ (zac B2)).trans B2;clear hb3 c1 c2)
     generalize hw4:w3.alloc (Obj.cells #[Value.int IntKind.i64 ((x:Int)+1)] 3)=w4
     replace bw:Low w.heap.size w w4:=by rw [← hw4];exact bw.alloc bw.size _
     replace B:w4.heap[w.heap.size]?=some (.cells #[.int .i64 a,.int .i64 e] 90):=by rw [← hw4];exact zaw _ B
     replace B2:w4.heap[w.heap.size+1]?=some (.cells #[.func (.func g) #[b0] #[]] 98):=by rw [← hw4];exact zaw _ B2
     have B7:w4.heap[w3.heap.size]?=some (.cells #[.int .i64 ((x:Int)+1)] 3):=by rw [← hw4];exact zah _ _ rfl
     generalize w3.heap.size=b7 at*
     have c1:=zab B 1 rfl
     have c7:=zab B7 0 rfl
     have HC:∀ n,Calls Tryz.prog 117 #[.int .i64 ((s - 1:Nat):Int),.func (.func 118) #[] #[.pointer (some ⟨w.heap.size+1,0,none⟩),.pointer (some ⟨b7,0,none⟩)]] (w4.drewN n) fun x' w'=>x'=.returned (.int .i64 ((List.range (s - 1)).countP (fun i=>!(!p (x+1+i))):Nat))∧Low (w4.drewN n).heap.size (w4.drewN n) w':=fun n=>
      zta 118 #[.pointer (some ⟨w.heap.size+1,0,none⟩),.pointer (some ⟨b7,0,none⟩)] (s - 1) (fun i=>!p (x+1+i)) (w4.drewN n) eg118 (by omega)
       (fun W hW i hi=>zxt g b0 eg (w.heap.size+1) b7 (x+1) i (p (x+1+i)) W (by omega) (zab ((hW.block _ (zac B2)).trans B2) 0 rfl) (zab ((hW.block _ (zac B7)).trans B7) 0 rfl)
         (by have:=HF.out W (zad (zbx bw n) hW (zbx bw n).size) (x+1+i) (by omega) (by omega);simpa using this))
       (fun i j hij hj h=>by
         cases hh:p (x+1+j) with
         | false=>rfl
         | true=>rw [HM.out (x+1+i) (x+1+j) (by omega) (by omega) (by omega) hh] at h;cases h)
     have hleft:((s - 1:Nat):Int)=(x:Int)+s - ((x:Int)+1):=by omega
     rw [hleft] at HC
     have HC:=Lib.hid HC
     clear hleft hw4
     go_upto_region 9 with fail
     refine wp_region_held_drew (S:=fun W=>W.cell? ⟨b7,0,none⟩=some (.int .i64 ((x:Int)+1))) (by kernel_rfl) c7 (fun hHeld=>?_)
     replace bw:=bw.drew
     have HC:=HC.out 1
     refine tk (i:=0) (v:=.int .i64 ((x:Int)+1)) rfl (Or.inl ⟨by rfl,fun W h=>by have c0:=h;go_simp⟩) hHeld ?_
     refine tg (i:=1) (.int .i64 ((x:Int)+s - ((x:Int)+1))) rfl hHeld ?_
     refine tg (i:=2) (.func (.func 118) #[] #[.pointer (some ⟨w.heap.size+1,0,none⟩),.pointer (some ⟨b7,0,none⟩)]) rfl hHeld ?_
     refine tr 3 rfl (fun K hK=>?_)
     rw [if_pos (by rfl)]
     go_simp
     refine (HC).mono ?_
     rintro e0 w3 ⟨rfl,hb3⟩
     have h7:w3.cell? ⟨b7,0,none⟩=some (.int .i64 ((x:Int)+1)):=(hb3.cell (p:=⟨b7,0,none⟩) (zac B7)).trans hHeld
     replace bw:=zad bw hb3 bw.size
     clear HC
     refine hK.out _ _ h7 (fun hHeld=>?_)
     clear hK K
     try simp only [putS]
     have hres:((x:Int)+1)+((List.range (s - 1)).countP (fun i=>!(!p (x+1+i))):Nat)=(gal p a (e - a):Nat):=by rw [← HE.out];omega
     have hgl:=zdc p (e - a) a
     have hwr:IntKind.i64.wrap ((gal p a (e - a):Nat):Int)=(gal p a (e - a):Nat):=IntWalk.i64_in _ (by omega)
     generalize ((List.range (s - 1)).countP (fun i=>!(!p (x+1+i))):Nat)=cnt at*
     refine tg (i:=4) (.int .i64 (gal p a (e - a):Nat)) rfl hHeld ?_
     refine tg (i:=5) (.int .i64 (gal p a (e - a):Nat)) rfl hHeld ?_
     refine wpAnyH_done (by kernel_rfl) ?_ _
     go_wp2_with fail
     go_ret
     exact ⟨rfl,bw⟩
  ·have hlt':¬ (x:Int)+s < e:=by omega
   have HE:=Lib.hid (zqu p a e x s (e - (x+1)) hax hxe hs1 hpx.out HM.out (by omega) (fun h=>absurd h hlt))
   have hmin:min ((x:Int)+s) e=e:=by omega
   go_upto_region 8 with fail
   generalize hw4:wr.alloc (Obj.cells #[Value.int IntKind.i64 ((x:Int)+1)] 3)=w4
   replace bw:Low w.heap.size w w4:=by rw [← hw4];exact bw.alloc bw.size _
   replace B:w4.heap[w.heap.size]?=some (.cells #[.int .i64 a,.int .i64 e] 90):=by rw [← hw4];exact zaw _ B
   replace B2:w4.heap[w.heap.size+1]?=some (.cells #[.func (.func g) #[b0] #[]] 98):=by rw [← hw4];exact zaw _ B2
   have B7:w4.heap[wr.heap.size]?=some (.cells #[.int .i64 ((x:Int)+1)] 3):=by rw [← hw4];exact zah _ _ rfl
   generalize wr.heap.size=b7 at*
   have c1:=zab B 1 rfl
   have c7:=zab B7 0 rfl
   have HC:∀ n,Calls Tryz.prog 117 #[.int .i64 ((e - (x+1):Nat):Int),.func (.func 118) #[] #[.pointer (some ⟨w.heap.size+1,0,none⟩),.pointer (some ⟨b7,0,none⟩)]] (w4.drewN n) fun x' w'=>x'=.returned (.int .i64 ((List.range (e - (x+1))).countP (fun i=>!(!p (x+1+i))):Nat))∧Low (w4.drewN n).heap.size (w4.drewN n) w':=fun n=>
    zta 118 #[.pointer (some ⟨w.heap.size+1,0,none⟩),.pointer (some ⟨b7,0,none⟩)] (e - (x+1)) (fun i=>!p (x+1+i)) (w4.drewN n) eg118 (by omega)
     (fun W hW i hi=>zxt g b0 eg (w.heap.size+1) b7 (x+1) i (p (x+1+i)) W (by omega) (zab ((hW.block _ (zac B2)).trans B2) 0 rfl) (zab ((hW.block _ (zac B7)).trans B7) 0 rfl)
       (by have:=HF.out W (zad (zbx bw n) hW (zbx bw n).size) (x+1+i) (by omega) (by omega);simpa using this))
     (fun i j hij hj h=>by
       cases hh:p (x+1+j) with
       | false=>rfl
       | true=>rw [HM.out (x+1+i) (x+1+j) (by omega) (by omega) (by omega) hh] at h;cases h)
   have hleft:((e - (x+1):Nat):Int)=(e:Int) - ((x:Int)+1):=by omega
   rw [hleft] at HC
   have HC:=Lib.hid HC
   clear hleft hw4
   go_upto_region 9 with fail
   refine wp_region_held_drew (S:=fun W=>W.cell? ⟨b7,0,none⟩=some (.int .i64 ((x:Int)+1))) (by kernel_rfl) c7 (fun hHeld=>?_)
   replace bw:=bw.drew
   have HC:=HC.out 1
   refine tk (i:=0) (v:=.int .i64 ((x:Int)+1)) rfl (Or.inl ⟨by rfl,fun W h=>by have c0:=h;go_simp⟩) hHeld ?_
   refine tg (i:=1) (.int .i64 ((e:Int) - ((x:Int)+1))) rfl hHeld ?_
   refine tg (i:=2) (.func (.func 118) #[] #[.pointer (some ⟨w.heap.size+1,0,none⟩),.pointer (some ⟨b7,0,none⟩)]) rfl hHeld ?_
   refine tr 3 rfl (fun K hK=>?_)
   rw [if_pos (by rfl)]
   go_simp
   refine (HC).mono ?_
   rintro e0 w3 ⟨rfl,hb3⟩
   have h7:w3.cell? ⟨b7,0,none⟩=some (.int .i64 ((x:Int)+1)):=(hb3.cell (p:=⟨b7,0,none⟩) (zac B7)).trans hHeld
   replace bw:=zad bw hb3 bw.size
   clear HC
   refine hK.out _ _ h7 (fun hHeld=>?_)
   clear hK K
   try simp only [putS]
   have hres:((x:Int)+1)+((List.range (e - (x+1))).countP (fun i=>!(!p (x+1+i))):Nat)=(gal p a (e - a):Nat):=by rw [← HE.out];omega
   have hgl:=zdc p (e - a) a
   have hwr:IntKind.i64.wrap ((gal p a (e - a):Nat):Int)=(gal p a (e - a):Nat):=IntWalk.i64_in _ (by omega)
   generalize ((List.range (e - (x+1))).countP (fun i=>!(!p (x+1+i))):Nat)=cnt at*
   refine tg (i:=4) (.int .i64 (gal p a (e - a):Nat)) rfl hHeld ?_
   refine tg (i:=5) (.int .i64 (gal p a (e - a):Nat)) rfl hHeld ?_
   refine wpAnyH_done (by kernel_rfl) ?_ _
   go_wp2_with fail
   go_ret
   exact ⟨rfl,bw⟩
def za1 (c:UInt8):Bool:=48≤c && c≤57
def digs (l:List UInt8):Bool:=!l.isEmpty && l.all za1
def orN (l:List UInt8):List UInt8:=if l.isEmpty then [48] else l
def wr (neg:Bool) (a b:List UInt8):Option (List UInt8):=
 let x:=Lib.trimLeftB a 48
 let y:=Lib.trimRightB b 48
 if 40 < x.length∨20 < y.length then none
 else some ((if neg && !(x++y).isEmpty then [45] else [])++(orN x++46::orN y))
def sgn:List UInt8→Bool × List UInt8
 | []=>(false,[])
 | c::r=>if c=45 then (true,r) else if c=43 then (false,r) else (false,c::r)
def zcg (l:List UInt8):Option (Bool × List UInt8 × List UInt8):=
 let c:=Lib.cut (sgn l).2 [46]
 if digs c.1 && (!c.2.2 || digs c.2.1) then some ((sgn l).1,c.1,c.2.1) else none
def zhk (l:List UInt8):Option (Option (List UInt8)):=(zcg l).map fun x=>wr x.1 x.2.1 x.2.2
def chk (l:List UInt8):Bool:=zhk l == some (some l)
theorem zca (c:UInt8):za1 c=true↔48≤(c.toNat:Int)∧(c.toNat:Int)≤57:=by
 unfold za1
 rw [Bool.and_eq_true,decide_eq_true_iff,decide_eq_true_iff,UInt8.le_iff_toNat_le,UInt8.le_iff_toNat_le]
 show 48≤c.toNat∧c.toNat≤57↔_
 omega
theorem ztc {s:ByteArray} {k:Nat} (h:k < s.size) (hk:za1 s[k]=false):digs s.data.toList=false:=by
 unfold digs
 have:s.data.toList.all za1=false:=by
  rw [List.all_eq_false]
  exact ⟨s[k],by simp [ByteArray.getElem_eq_getElem_data],by rw [hk];simp⟩
 rw [this,Bool.and_false]
theorem zvx {s:ByteArray} {k:Nat} (h:k < s.size) (ha:(s.data.toList.take k).all za1=true) (hk:za1 s[k]=true):(s.data.toList.take (k+1)).all za1=true:=by
 rw [List.take_succ_eq_append_getElem (by simpa using h),List.all_append,ha]
 simpa [ByteArray.getElem_eq_getElem_data] using hk
theorem zr4 (s:ByteArray) (w:World) (hs:s.size≤maxLen):
 Calls Tryz.prog 189 #[.string s] w fun e w'=>e=.returned (.bool (digs s.data.toList))∧w'=w:=by
 unfold maxLen at hs
 go_enter Tryz.func189,Tryz.ntmps189
 go_wp2
 go_loop [6] (fun i=>∃ k:Nat,k≤s.size∧i=.int .i64 k∧(s.data.toList.take k).all za1=true) (fun i=>s.size - (intOf i).toNat)
 case atStart=>exact ⟨0,Nat.zero_le _,rfl,by simp⟩
 case round=>
  obtain ⟨k,hk,rfl,hall⟩:=hrel
  have HA:=Lib.hid hall
  clear hall
  by_cases hlt:k < s.size
  ·by_cases h1:(s[k].toNat:Int) < 48
   ·go_wp2
    go_ret
    refine ⟨?_,rfl⟩
    rw [ztc hlt (Bool.eq_false_iff.2 fun e=>by have:=(zca _).1 e;omega)]
    rfl
   ·by_cases h2:(57:Int) < s[k].toNat
    ·go_wp2
     go_ret
     refine ⟨?_,rfl⟩
     rw [ztc hlt (Bool.eq_false_iff.2 fun e=>by have:=(zca _).1 e;omega)]
     rfl
    ·go_wp2
     go_round
     case rel=>exact ⟨k+1,by omega,by go_num,zvx hlt HA.out ((zca _).2 ⟨by omega,by omega⟩)⟩
     case measure=>simp [intOf];omega
  ·go_wp2
   go_ret
   refine ⟨?_,rfl⟩
   have hk':k=s.data.toList.length:=by have:s.data.toList.length=s.size:=by simp
                                       omega
   have ha:=HA.out
   rw [hk',List.take_length] at ha
   unfold digs
   rw [ha,Bool.and_true,← ByteArray.toList_eq]
   rfl
theorem zr5 (s:ByteArray) (w:World):
 Calls Tryz.prog 192 #[.string s] w fun e w'=>e=.returned (.string ⟨(orN s.data.toList).toArray⟩)∧w'=w:=by
 by_cases h:s.toList.isEmpty=true
 ·go_enter Tryz.func192,Tryz.ntmps192
  go_wp2
  go_ret
  refine ⟨?_,rfl⟩
  unfold orN
  rw [← ByteArray.toList_eq,if_pos h]
  rfl
 ·have h':s.toList.isEmpty=false:=by simpa using h
  go_enter Tryz.func192,Tryz.ntmps192
  go_wp2
  go_ret
  refine ⟨?_,rfl⟩
  unfold orN
  rw [← ByteArray.toList_eq,if_neg h,ByteArray.toList_eq]
  rfl
theorem zip (q k:Int) (b:Bool) (n:Int) (t x:ByteArray) (L:Value) (k2:Int) (b2:Bool) (n2:Int) (t2 x2:ByteArray) (L2:Value) (w:World):
 Calls Tryz.prog 183 #[.int .i64 q,.agg #[.int .i64 k,.bool b,.int .i64 n,.string t,.string x,L],.agg #[.int .i64 k2,.bool b2,.int .i64 n2,.string t2,.string x2,L2]] w fun e w'=>e=.returned (.bool (k == q && k2 == q))∧Low w.heap.size w w':=by
 have h0:((w.alloc (.cells #[.int .i64 k,.bool b,.int .i64 n,.string t,.string x,L] 39)).alloc (.cells #[.int .i64 k2,.bool b2,.int .i64 n2,.string t2,.string x2,L2] 39)).cell? ⟨w.heap.size,0,none⟩=some (.int .i64 k):=zab (zaw _ (zah _ _ rfl)) _ rfl
 have h1:((w.alloc (.cells #[.int .i64 k,.bool b,.int .i64 n,.string t,.string x,L] 39)).alloc (.cells #[.int .i64 k2,.bool b2,.int .i64 n2,.string t2,.string x2,L2] 39)).cell? ⟨w.heap.size+1,0,none⟩=some (.int .i64 k2):=zab (zah _ _ (by simp)) _ rfl
 by_cases h:k=q
 ·subst h
  go_enter Tryz.func183,Tryz.ntmps183
  go_wp2_with fail
  go_ret
  exact ⟨by simp,low2 _ _ _⟩
 ·have e:(k == q)=false:=by simpa using h
  go_enter Tryz.func183,Tryz.ntmps183
  go_wp2_with fail
  go_ret
  exact ⟨by rw [e];rfl,low2 _ _ _⟩
def zk6 (k:Int):Nat:=
 if k=0 then 145 else if k=1 then 146 else if k=2 then 147 else if k=3 then 150 else if k=4 then 151 else if k=5 then 155 else
 if k=6 then 148 else if k=7 then 149 else if k=8 then 152 else if k=9 then 153 else if k=10 then 154 else 188
theorem zap (k:Int) (b:Bool) (n:Int) (t x:ByteArray) (L:Value) (T:Nat) (hT:T=zk6 k) (w:World):
 Calls Tryz.prog 107 #[.agg #[.int .i64 k,.bool b,.int .i64 n,.string t,.string x,L]] w fun e w'=>e=.returned (.iface T (.agg #[]))∧Low w.heap.size w w':=by
 have h0:(w.alloc (.cells #[.int .i64 k,.bool b,.int .i64 n,.string t,.string x,L] 39)).cell? ⟨w.heap.size,0,none⟩=some (.int .i64 k):=zab (zah _ _ rfl) _ rfl
 subst hT
 by_cases h:0≤k∧k≤10
 ·obtain ⟨h1,h2⟩:=h
  obtain ⟨j,rfl⟩:∃ j:Nat,k=j:=⟨k.toNat,by omega⟩
  have hj:j≤10:=by omega
  clear h1 h2
  match j,hj,h0 with
  | 0,_,h0 | 1,_,h0 | 2,_,h0 | 3,_,h0 | 4,_,h0 | 5,_,h0 | 6,_,h0 | 7,_,h0 | 8,_,h0 | 9,_,h0 | 10,_,h0=>
    go_enter Tryz.func107,Tryz.ntmps107
    go_wp2_with fail
    go_ret
    exact ⟨rfl,low1 _ _⟩
 ·have e0:k≠0:=by omega
  have e1:k≠1:=by omega
  have e2:k≠2:=by omega
  have e3:k≠3:=by omega
  have e4:k≠4:=by omega
  have e5:k≠5:=by omega
  have e6:k≠6:=by omega
  have e7:k≠7:=by omega
  have e8:k≠8:=by omega
  have e9:k≠9:=by omega
  have e10:k≠10:=by omega
  have hv:zk6 k=188:=by simp [zk6,e0,e1,e2,e3,e4,e5,e6,e7,e8,e9,e10]
  rw [hv]
  clear h hv
  go_enter Tryz.func107,Tryz.ntmps107
  go_wp2_with fail
  go_ret
  exact ⟨rfl,low1 _ _⟩
def zcj (c:UInt8):Bool:=(decide (97≤c.toNat) && decide (c.toNat≤122)) || (decide (65≤c.toNat) && decide (c.toNat≤90)) || decide (c.toNat=95)
def zec (c:UInt8):Bool:=decide (48≤c.toNat) && decide (c.toNat≤57)
def zfn (c:UInt8):Bool:=decide (32 < c.toNat) && decide (c.toNat≠60) && decide (c.toNat≠62)
def zb1 (s:ByteArray):Bool:=decide (0 < s.size∧s.size≤1048576∧∀ j (h:j < s.size),zfn s[j]=true)
def zc7 (j:Nat) (c:UInt8):Bool:=zcj c || (decide (j≠0) && zec c)
def zcu (s:ByteArray):Bool:=decide (0 < s.size∧s.size≤64∧∀ j (h:j < s.size),zc7 j s[j]=true)
theorem zb2 (s:ByteArray):s.toList.isEmpty=true↔s.size=0:=by
 rw [ByteArray.toList_eq,List.isEmpty_iff_length_eq_zero]
 simp
theorem zed {s:ByteArray} {p:Nat→UInt8→Bool} {k:Nat} (h:k < s.size) (ha:∀ j (h:j < s.size),j < k→p j s[j]=true) (hk:p k s[k]=true):∀ j (h:j < s.size),j < k+1→p j s[j]=true:=by
 intro j hj hlt
 by_cases e:j=k
 ·subst e
  exact hk
 ·exact ha j hj (by omega)
theorem zdk {c:UInt8} {b:Bool} (h:b=true↔((97:Int)≤c.toNat∧(c.toNat:Int)≤122)∨((65:Int)≤c.toNat∧(c.toNat:Int)≤90)∨(c.toNat:Int)=95):b=zcj c:=by
 rw [Bool.eq_iff_iff,h]
 simp only [zcj,Bool.or_eq_true,Bool.and_eq_true,decide_eq_true_eq]
 omega
theorem zia (c:UInt8) (r:Bool) (hr:r=zcj c) (w:World):Calls Tryz.prog 155 #[.int .u8 c.toNat] w fun e w'=>e=.returned (.bool r)∧w=w':=by
 by_cases a1:(97:Int)≤c.toNat
 ·by_cases a2:(c.toNat:Int)≤122
  ·obtain rfl:r=true:=by rw [hr];exact (zdk (by simp [a1,a2])).symm
   clear hr
   go_enter Tryz.func155,Tryz.ntmps155
   go_wp2_with fail
   go_ret
   exact ⟨rfl,rfl⟩
  ·obtain rfl:r=false:=by rw [hr];exact (zdk (by simp;omega)).symm
   clear hr
   have a3:(65:Int)≤c.toNat:=by omega
   have a4:¬ (c.toNat:Int)≤90:=by omega
   have a5:¬ (c.toNat:Int)=95:=by omega
   go_enter Tryz.func155,Tryz.ntmps155
   go_wp2_with fail
   go_ret
   exact ⟨by simp [a5] <;> rfl,rfl⟩
 ·by_cases a3:(65:Int)≤c.toNat
  ·by_cases a4:(c.toNat:Int)≤90
   ·obtain rfl:r=true:=by rw [hr];exact (zdk (by simp [a3,a4])).symm
    clear hr
    go_enter Tryz.func155,Tryz.ntmps155
    go_wp2_with fail
    go_ret
    exact ⟨rfl,rfl⟩
   ·have hv:r=((c.toNat:Int) == 95):=by rw [hr];exact (zdk (by simp;omega)).symm
    clear hr
    go_enter Tryz.func155,Tryz.ntmps155
    go_wp2_with fail
    go_ret
    exact ⟨rfl,rfl⟩
  ·have a5:¬ (c.toNat:Int)=95:=by omega
   obtain rfl:r=false:=by rw [hr];exact (zdk (by simp;omega)).symm
   clear hr
   go_enter Tryz.func155,Tryz.ntmps155
   go_wp2_with fail
   go_ret
   exact ⟨by simp [a5] <;> rfl,rfl⟩
theorem znk (c:UInt8) (r:Bool) (hr:r=zec c) (w:World):Calls Tryz.prog 156 #[.int .u8 c.toNat] w fun e w'=>e=.returned (.bool r)∧w=w':=by
 by_cases a1:(48:Int)≤c.toNat
 ·have hv:r=decide ((c.toNat:Int)≤57):=by rw [hr,Bool.eq_iff_iff];simp [zec];omega
  clear hr
  go_enter Tryz.func156,Tryz.ntmps156
  go_wp2_with fail
  go_ret
  exact ⟨by rw [hv];rfl,rfl⟩
 ·have hv:r=false:=by rw [hr,Bool.eq_false_iff];simp [zec];omega
  clear hr
  subst hv
  go_enter Tryz.func156,Tryz.ntmps156
  go_wp2_with fail
  go_ret
  exact ⟨rfl,rfl⟩
theorem zhl {s:ByteArray} {k:Nat} (h:k < s.size) (hk:zfn s[k]=false):zb1 s=false:=by
 unfold zb1
 rw [decide_eq_false_iff_not]
 rintro ⟨_,_,ha⟩
 rw [ha k h] at hk
 exact absurd hk (by simp)
theorem zpj (s:ByteArray) (w:World) (hs:s.size≤maxLen):
 Calls Tryz.prog 109 #[.string s] w fun e w'=>e=.returned (.bool (zb1 s))∧w=w':=by
 unfold maxLen at hs
 by_cases h0:s.toList.isEmpty=true
 ·have hv:zb1 s=false:=by
   unfold zb1
   rw [decide_eq_false_iff_not]
   have:=(zb2 s).1 h0
   omega
  rw [hv]
  go_enter Tryz.func109,Tryz.ntmps109
  go_wp2_with fail
  go_ret
  exact ⟨rfl,rfl⟩
 ·have h0':s.toList.isEmpty=false:=by simpa using h0
  have hpos:0 < s.size:=by have:=mt (zb2 s).2 h0;omega
  by_cases hbig:(1048576:Int) < s.size
  ·have hv:zb1 s=false:=by
    unfold zb1
    rw [decide_eq_false_iff_not]
    omega
   rw [hv]
   go_enter Tryz.func109,Tryz.ntmps109
   go_wp2_with fail
   go_ret
   exact ⟨rfl,rfl⟩
  ·go_enter Tryz.func109,Tryz.ntmps109
   go_wp2_with fail
   go_loop [13] (fun i=>∃ k:Nat,k≤s.size∧i=.int .i64 k∧∀ j (h:j < s.size),j < k→zfn s[j]=true) (fun i=>s.size - (intOf i).toNat)
   case atStart=>exact ⟨0,Nat.zero_le _,rfl,fun j _ h=>absurd h (by omega)⟩
   case round=>
    obtain ⟨k,hk,rfl,hall⟩:=hrel
    have HA:=Lib.hid hall
    clear hall
    by_cases hlt:k < s.size
    ·by_cases h1:(s[k].toNat:Int)≤32
     ·go_wp2_with fail
      go_ret
      exact ⟨by rw [zhl hlt (by simp [zfn];omega)];rfl,rfl⟩
     ·by_cases h2:(s[k].toNat:Int)=60
      ·go_wp2_with fail
       go_ret
       exact ⟨by rw [zhl hlt (by simp [zfn];omega)];rfl,rfl⟩
      ·by_cases h3:(s[k].toNat:Int)=62
       ·go_wp2_with fail
        go_ret
        exact ⟨by rw [zhl hlt (by simp [zfn];omega)];rfl,rfl⟩
       ·go_wp2_with fail
        go_round
        case rel=>exact ⟨k+1,by omega,by go_num,zed (p:=fun _=>zfn) hlt HA.out (by simp [zfn];omega)⟩
        case measure=>simp [intOf];omega
    ·go_wp2_with fail
     go_ret
     have hv:zb1 s=true:=by
      unfold zb1
      rw [decide_eq_true_eq]
      exact ⟨hpos,by omega,fun j hj=>HA.out j hj (by omega)⟩
     exact ⟨by rw [hv];rfl,rfl⟩
theorem zfd {s:ByteArray} {k:Nat} (h:k < s.size) (hk:zc7 k s[k]=false):zcu s=false:=by
 unfold zcu
 rw [decide_eq_false_iff_not]
 rintro ⟨_,_,ha⟩
 rw [ha k h] at hk
 exact absurd hk (by simp)
theorem zvy (s:ByteArray) (w:World) (hs:s.size≤maxLen):
 Calls Tryz.prog 110 #[.string s] w fun e w'=>e=.returned (.bool (zcu s))∧w=w':=by
 unfold maxLen at hs
 by_cases h0:s.toList.isEmpty=true
 ·have hv:zcu s=false:=by
   unfold zcu
   rw [decide_eq_false_iff_not]
   have:=(zb2 s).1 h0
   omega
  rw [hv]
  go_enter Tryz.func110,Tryz.ntmps110
  go_wp2_with fail
  go_ret
  exact ⟨rfl,rfl⟩
 ·have h0':s.toList.isEmpty=false:=by simpa using h0
  have hpos:0 < s.size:=by have:=mt (zb2 s).2 h0;omega
  by_cases hbig:(64:Int) < s.size
  ·have hv:zcu s=false:=by
    unfold zcu
    rw [decide_eq_false_iff_not]
    omega
   rw [hv]
   go_enter Tryz.func110,Tryz.ntmps110
   go_wp2_with fail
   go_ret
   exact ⟨rfl,rfl⟩
  ·go_enter Tryz.func110,Tryz.ntmps110
   go_wp2_with fail
   go_loop [13] (fun i=>∃ k:Nat,k≤s.size∧i=.int .i64 k∧∀ j (h:j < s.size),j < k→zc7 j s[j]=true) (fun i=>s.size - (intOf i).toNat)
   case atStart=>exact ⟨0,Nat.zero_le _,rfl,fun j _ h=>absurd h (by omega)⟩
   case round=>
    obtain ⟨k,hk,rfl,hall⟩:=hrel
    have HA:=Lib.hid hall
    clear hall
    by_cases hlt:k < s.size
    ·by_cases h1:zcj s[k]=true
     ·have H1:=Lib.hid h1
      clear h1
      go_wp2_with (go_at_call 155;(with_reducible refine (zia s[k] true H1.out.symm _).mono ?_);rintro e w' ⟨rfl,rfl⟩)
      go_round
      case rel=>exact ⟨k+1,by omega,by go_num,zed (p:=zc7) hlt HA.out (by simp [zc7,H1.out])⟩
      case measure=>simp [intOf];omega
     ·have H1:Hid (zcj s[k]=false):=Lib.hid (by simpa using h1)
      clear h1
      by_cases h2:k=0
      ·subst h2
       go_wp2_with (go_at_call 155;(with_reducible refine (zia s[0] false H1.out.symm _).mono ?_);rintro e w' ⟨rfl,rfl⟩)
       go_ret
       exact ⟨by rw [zfd hlt (by simp [zc7,H1.out])];rfl,rfl⟩
      ·have h2i:¬ (k:Int)=0:=by omega
       by_cases h3:zec s[k]=true
       ·have H3:=Lib.hid h3
        clear h3
        go_wp2_with (first
         |(go_at_call 155;(with_reducible refine (zia s[k] false H1.out.symm _).mono ?_);rintro e w' ⟨rfl,rfl⟩)
         |(go_at_call 156;(with_reducible refine (znk s[k] true H3.out.symm _).mono ?_);rintro e w' ⟨rfl,rfl⟩))
        go_round
        case rel=>exact ⟨k+1,by omega,by go_num,zed (p:=zc7) hlt HA.out (by simp [zc7,H3.out,h2])⟩
        case measure=>simp [intOf];omega
       ·have H3:Hid (zec s[k]=false):=Lib.hid (by simpa using h3)
        clear h3
        go_wp2_with (first
         |(go_at_call 155;(with_reducible refine (zia s[k] false H1.out.symm _).mono ?_);rintro e w' ⟨rfl,rfl⟩)
         |(go_at_call 156;(with_reducible refine (znk s[k] false H3.out.symm _).mono ?_);rintro e w' ⟨rfl,rfl⟩))
        go_ret
        exact ⟨by rw [zfd hlt (by simp [zc7,H1.out,H3.out])];rfl,rfl⟩
    ·go_wp2_with fail
     go_ret
     have hv:zcu s=true:=by
      unfold zcu
      rw [decide_eq_true_eq]
      exact ⟨hpos,by omega,fun j hj=>HA.out j hj (by omega)⟩
     exact ⟨by rw [hv];rfl,rfl⟩
def zbm (b:Bool) (n:Int) (t x:ByteArray) (len:Nat):Bool:=!b && decide (n=0) && decide (t.size=0) && decide (x.size=0) && decide (len=0)
theorem zck (k:Int) (b:Bool) (n:Int) (t x:ByteArray) (p:Option Addr) (len cap:Nat) (w:World):
 Calls Tryz.prog 112 #[.agg #[.int .i64 k,.bool b,.int .i64 n,.string t,.string x,.slice p len cap]] w fun e w'=>e=.returned (.bool (zbm b n t x len))∧Low w.heap.size w w':=by
 have h1:(w.alloc (.cells #[.int .i64 k,.bool b,.int .i64 n,.string t,.string x,.slice p len cap] 39)).cell? ⟨w.heap.size,1,none⟩=some (.bool b):=zab (zah _ _ rfl) _ rfl
 have h2:(w.alloc (.cells #[.int .i64 k,.bool b,.int .i64 n,.string t,.string x,.slice p len cap] 39)).cell? ⟨w.heap.size,2,none⟩=some (.int .i64 n):=zab (zah _ _ rfl) _ rfl
 have h3:(w.alloc (.cells #[.int .i64 k,.bool b,.int .i64 n,.string t,.string x,.slice p len cap] 39)).cell? ⟨w.heap.size,3,none⟩=some (.string t):=zab (zah _ _ rfl) _ rfl
 have h4:(w.alloc (.cells #[.int .i64 k,.bool b,.int .i64 n,.string t,.string x,.slice p len cap] 39)).cell? ⟨w.heap.size,4,none⟩=some (.string x):=zab (zah _ _ rfl) _ rfl
 have h5:(w.alloc (.cells #[.int .i64 k,.bool b,.int .i64 n,.string t,.string x,.slice p len cap] 39)).cell? ⟨w.heap.size,5,none⟩=some (.slice p len cap):=zab (zah _ _ rfl) _ rfl
 cases b with
 | true=>
   go_enter Tryz.func112,Tryz.ntmps112
   go_wp2_with fail
   go_ret
   exact ⟨rfl,low1 _ _⟩
 | false=>
   by_cases e2:n=0
   ·subst e2
    by_cases e3:t.toList.isEmpty=true
    ·have s3:=(zb2 t).1 e3
     by_cases e4:x.toList.isEmpty=true
     ·have s4:=(zb2 x).1 e4
      have hv:zbm false 0 t x len=((len:Int) == 0):=by
       unfold zbm
       rw [s3,s4,Bool.eq_iff_iff]
       simp
      rw [hv]
      clear hv s3 s4
      go_enter Tryz.func112,Tryz.ntmps112
      go_wp2_with fail
      go_ret
      exact ⟨rfl,low1 _ _⟩
     ·have s4:¬ x.size=0:=mt (zb2 x).2 e4
      have e4':x.toList.isEmpty=false:=by simpa using e4
      have hv:zbm false 0 t x len=false:=by simp [zbm,s4]
      rw [hv]
      clear hv s3 s4 e4
      go_enter Tryz.func112,Tryz.ntmps112
      go_wp2_with fail
      go_ret
      exact ⟨rfl,low1 _ _⟩
    ·have s3:¬ t.size=0:=mt (zb2 t).2 e3
     have e3':t.toList.isEmpty=false:=by simpa using e3
     have hv:zbm false 0 t x len=false:=by simp [zbm,s3]
     rw [hv]
     clear hv s3 e3
     go_enter Tryz.func112,Tryz.ntmps112
     go_wp2_with fail
     go_ret
     exact ⟨rfl,low1 _ _⟩
   ·have hv:zbm false n t x len=false:=by simp [zbm,e2]
    rw [hv]
    clear hv
    go_enter Tryz.func112,Tryz.ntmps112
    go_wp2_with fail
    go_ret
    exact ⟨rfl,low1 _ _⟩
theorem zas:(Tryz.prog.info? 39).map (·.size)=some 6:=by kernel_rfl
def Six (w:World) (g:Nat) (k:Int) (b:Bool) (n:Int) (t x:ByteArray) (p:Option Addr) (len cap:Nat):Prop:=
 w.heap[g]?=some (.cells #[.int .i64 k,.bool b,.int .i64 n,.string t,.string x,.slice p len cap] 39)
section
variable {w w':World} {g e:Nat} {k:Int} {b:Bool} {n:Int} {t x:ByteArray} {p:Option Addr} {len cap:Nat}
theorem Six.below (h:Six w g k b n t x p len cap) (q:Below w.heap.size w w'):Six w' g k b n t x p len cap:=(q.block g (zac h)).trans h
theorem Six.only (h:Six w g k b n t x p len cap) (q:Only e w w') (d:g≠e):Six w' g k b n t x p len cap:=(q.block g (zac h) d).trans h
theorem Six.alloc (h:Six w g k b n t x p len cap) (o:Obj):Six (w.alloc o) g k b n t x p len cap:=zaw _ h
theorem Six.drewN (h:Six w g k b n t x p len cap) (m:Nat):Six (w.drewN m) g k b n t x p len cap:=h
theorem Six.lt (h:Six w g k b n t x p len cap):g < w.heap.size:=zac h
theorem zaf (w:World) (e:w.heap.size=g):Six (w.alloc (.cells #[.int .i64 k,.bool b,.int .i64 n,.string t,.string x,.slice p len cap] 39)) g k b n t x p len cap:=zah _ _ e
theorem Six.c0 (h:Six w g k b n t x p len cap):w.cell? ⟨g,0,none⟩=some (.int .i64 k):=zab h _ rfl
theorem Six.c1 (h:Six w g k b n t x p len cap):w.cell? ⟨g,1,none⟩=some (.bool b):=zab h _ rfl
theorem Six.c2 (h:Six w g k b n t x p len cap):w.cell? ⟨g,2,none⟩=some (.int .i64 n):=zab h _ rfl
theorem Six.c3 (h:Six w g k b n t x p len cap):w.cell? ⟨g,3,none⟩=some (.string t):=zab h _ rfl
theorem Six.c4 (h:Six w g k b n t x p len cap):w.cell? ⟨g,4,none⟩=some (.string x):=zab h _ rfl
theorem Six.c5 (h:Six w g k b n t x p len cap):w.cell? ⟨g,5,none⟩=some (.slice p len cap):=zab h _ rfl
end
section
variable {w:World} {g:Nat} {k:Int} {b:Bool} {n:Int} {t x:ByteArray} {p:Option Addr} {len cap:Nat}
theorem Six.free (h:Six w g k b n t x p len cap) (i:Nat):w.frozen? ⟨g,i,none⟩=false:=za9 h _
theorem Six.set1 (h:Six w g k b n t x p len cap) (v:Bool):Six (w.setCell ⟨g,1,none⟩ (.bool v)) g k v n t x p len cap:=zaz h 1 (.bool v)
theorem Six.set2 (h:Six w g k b n t x p len cap) (v:Int):Six (w.setCell ⟨g,2,none⟩ (.int .i64 v)) g k b v t x p len cap:=zaz h 2 (.int .i64 v)
theorem Six.set3 (h:Six w g k b n t x p len cap) (v:ByteArray):Six (w.setCell ⟨g,3,none⟩ (.string v)) g k b n v x p len cap:=zaz h 3 (.string v)
theorem Six.set4 (h:Six w g k b n t x p len cap) (v:ByteArray):Six (w.setCell ⟨g,4,none⟩ (.string v)) g k b n t v p len cap:=zaz h 4 (.string v)
theorem Six.set5 (h:Six w g k b n t x p len cap) (q:Option Addr) (l c:Nat):Six (w.setCell ⟨g,5,none⟩ (.slice q l c)) g k b n t x q l c:=zaz h 5 (.slice q l c)
end
theorem zaa {ops:Array Oper} {rest:List Oper} {o:Oper} {a:Act} {w:World} {Q:Exit→Act→World→Prop} {k:Int} {b:Bool} {n:Int} {t x:ByteArray} {p:Option Addr} {len cap:Nat} (y:Operand) (g:Nat) (hg:Six w g k b n t x p len cap)
 (hgd:o.guard=none) (ho:o.op=.load 39 y) (hx:a.eval y=.pointer (some ⟨g,0,none⟩))
 (h:wpList Tryz.prog ops Q rest (a.put o.dst (.agg #[.int .i64 k,.bool b,.int .i64 n,.string t,.string x,.slice p len cap])) w):wpList Tryz.prog ops Q (o::rest) a w:=
 wpList_load_row hgd 39 y ho g hx 39 _ (0,0) _ hg Tryz.underlying39 rfl zas h
theorem zat {ops:Array Oper} {rest:List Oper} {o:Oper} {a:Act} {w:World} {Q:Exit→Act→World→Prop} {k:Int} {b:Bool} {n:Int} {t x:ByteArray} {p:Option Addr} {len cap:Nat}
 {k':Int} {b':Bool} {n':Int} {t' x':ByteArray} {p':Option Addr} {len' cap':Nat} (y z:Operand) (g:Nat) (hg:Six w g k b n t x p len cap)
 (hgd:o.guard=none) (ho:o.op=.store 39 y z) (hx:a.eval y=.pointer (some ⟨g,0,none⟩)) (hy:a.eval z=.agg #[.int .i64 k',.bool b',.int .i64 n',.string t',.string x',.slice p' len' cap'])
 (h:∀ w',Only g w w'→Six w' g k' b' n' t' x' p' len' cap'→wpList Tryz.prog ops Q rest (a.put o.dst undef) w'):wpList Tryz.prog ops Q (o::rest) a w:=
 wpList_plain hgd fun _ hK=>by
  unfold Oper.wp execOp
  simp only [ho,hx,hy,Instr.storeAt,Instr.sureAddr,Sem.run_bind,Sem.run_pure,Result.andThen_ok,run_storeVar_row (P:=Tryz.prog) w g 39 39 _ #[.int .i64 k',.bool b',.int .i64 n',.string t',.string x',.slice p' len' cap'] hg zas rfl (by simp [Value.oneCell'])]
  exact hK _ _ (h _ (Only.setRow w _) (za6 hg))
theorem zaj {ops:Array Oper} {rest:List Oper} {o:Oper} {a:Act} {w:World} {Q:Exit→Act→World→Prop} {k:Int} {b:Bool} {n:Int} {t x:ByteArray} {p:Option Addr} {len cap:Nat} (y:Operand) (g:Nat) (hg:Six w g k b n t x p len cap)
 (hw:Region.wanted o (yielded ops a.tmps)=true) (ho:o.op=.load 39 y) (hx:a.eval y=.pointer (some ⟨g,0,none⟩))
 (h:wpList Tryz.prog ops Q rest (a.put o.dst (.agg #[.int .i64 k,.bool b,.int .i64 n,.string t,.string x,.slice p len cap])) w):wpList Tryz.prog ops Q (o::rest) a w:=by
 unfold wpList
 rw [if_pos hw]
 refine .inl ?_
 unfold Oper.wp execOp
 simp only [ho,hx,Instr.loadAt,Instr.sureAddr,Sem.run_bind,Sem.run_pure,Result.andThen_ok,run_loadVar_row (P:=Tryz.prog) w g 39 39 _ (0,0) _ hg Tryz.underlying39 rfl zas]
 exact h
end Go.Proofs.YtanbgdhmfjgihaaGreatDoor
