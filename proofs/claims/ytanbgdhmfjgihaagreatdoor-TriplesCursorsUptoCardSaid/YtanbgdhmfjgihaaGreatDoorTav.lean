/- Texts of one kind, one behind the other: each says ahead of itself what it shows. -/
import Derived.Test.YtanbgdhmfjgihaaGreatDoorTat
import Derived.Test.YtanbgdhmfjgihaaGreatDoorTau
import Derived.Laws.StructEq
import Derived.Test.YtanbgdhmfjgihaaGreatDoorTar
import Derived.Test.YtanbgdhmfjgihaaGreatDoorTaa
import Derived.Test.YtanbgdhmfjgihaaGreatDoorTas
import Derived.Test.YtanbgdhmfjgihaaGreatDoorTah
import Derived.WalkKit
import Derived.OwnWalk
import Derived.Maps.AppendAt
import Derived.Deep.LoopGhost
import Derived.Deep.MidRow
namespace Go.Proofs.YtanbgdhmfjgihaaGreatDoor
open Go.RowKit
set_option maxHeartbeats 12800000
set_option maxRecDepth 20000
theorem cmpIs (u v:V6) (a b:Val) (q q2:List Val) (W:World) (hG:Gd W) (hT:Tab W) (hu:Is W u a q) (hv:Is W v b q2):
 Calls Tryz.prog 74 #[.agg #[.int .i64 u.k,.bool u.b,.int .i64 u.n,.string u.t,.string u.x,.slice u.p u.len u.cap],.agg #[.int .i64 v.k,.bool v.b,.int .i64 v.n,.string v.t,.string v.x,.slice v.p v.len v.cap]] W fun e w'=>e=.returned (.int .i64 (zan 1 a b))∧Low W.heap.size W w':=by
 obtain ⟨k,b',n,t,x,p,len,cap⟩:=u
 obtain ⟨k2,b2,n2,t2,x2,p2,len2,cap2⟩:=v
 obtain ⟨e1,l1,f1,d1⟩:=hu
 obtain ⟨e2,l2,f2,d2⟩:=hv
 simp only at e1 l1 f1 d1 e2 l2 f2 d2
 subst l1 l2
 exact zmx _ _ W k b' n t x q p cap k2 b2 n2 t2 x2 q2 p2 cap2 e1 e2 hG hT f1 f2 d1 d2
theorem zw7 (l:List Val) (g o cap m:Nat) (u:V6) (q:List Val) (w:World) (hG:Gd w) (hT:Tab w) (hl:zar w g o l) (hr:Rise l) (hm:m < l.length) (hn:l.length < 1073741824) (hu:Is w u l[m] q):
 Calls Tryz.prog 78 #[.slice (some ⟨g,o,none⟩) l.length cap,.agg #[.int .i64 u.k,.bool u.b,.int .i64 u.n,.string u.t,.string u.x,.slice u.p u.len u.cap],.func (.func 74) #[] #[]] w fun e w'=>e=.returned (.tuple #[.int .i64 m,.bool true])∧Low w.heap.size w w':=by
 obtain ⟨W0,hW0⟩:∃ W0,W0=w.alloc (.cells #[.int .i64 u.k,.bool u.b,.int .i64 u.n,.string u.t,.string u.x,.slice u.p u.len u.cap] 39):=⟨_,rfl⟩
 have S0:Six W0 w.heap.size u.k u.b u.n u.t u.x u.p u.len u.cap:=by rw [hW0];exact zaf _ rfl
 have b0:Low w.heap.size w W0:=by rw [hW0];exact low1 _ _
 have HW:=Lib.hid hW0
 have HL:=Lib.hid hl
 have HR:=Lib.hid hr
 have HU:=Lib.hid hu
 have HG:=Lib.hid hG
 have HT:=Lib.hid hT
 have RU0:Hid (∀ W,Low W0.heap.size W0 W→W.rangeAt w.heap.size 0 [.int .i64 u.k,.bool u.b,.int .i64 u.n,.string u.t,.string u.x,.slice u.p u.len u.cap]):=Lib.hid fun W h=>zcy (S0.low h).c0 (S0.low h).c1 (S0.low h).c2 (S0.low h).c3 (S0.low h).c4 (S0.low h).c5
 have hm2:(m:Int) < l.length:=by omega
 clear hW0 hl hr hu S0 hG hT
 go_enter Tryz.func78,Tryz.ntmps78
 go_wp2_with fail
 rw [← HW.out]
 go_loopg [9,10] l.length (fun gg s9 s10 wr=>∃ lo hi:Nat,s9=.int .i64 lo∧s10=.int .i64 hi∧lo≤m∧m≤hi∧hi≤l.length∧hi - lo≤gg∧Hid (Low W0.heap.size W0 wr))
 case atStart=>exact ⟨0,l.length,rfl,rfl,Nat.zero_le _,by omega,Nat.le_refl _,by omega,Lib.hid (Low.refl _ _)⟩
 case round=>
  obtain ⟨lo,hi,rfl,rfl,hlo,hhi,hin,hg,hb⟩:=hrel
  by_cases hlt:lo < hi
  ·have hx:(lo+hi) / 2 < l.length:=by omega
   have hb0:Low w.heap.size w wr:=b0.trans (hb.out.mono b0.size)
   obtain ⟨v,q2,i2,r2⟩:=isOf (zar.at_ l o (zar.below l HL.out hb0.is) ((lo+hi) / 2) hx)
   have RV:Hid (∀ W,Low wr.heap.size wr W→W.rangeAt g (o+(lo+hi) / 2*6) [.int .i64 v.k,.bool v.b,.int .i64 v.n,.string v.t,.string v.x,.slice v.p v.len v.cap]):=Lib.hid fun W h=>zae r2 h.is
   have RU:Hid (∀ W,Low wr.heap.size wr W→W.rangeAt w.heap.size 0 [.int .i64 u.k,.bool u.b,.int .i64 u.n,.string u.t,.string u.x,.slice u.p u.len u.cap]):=Lib.hid fun W h=>RU0.out W (zad hb.out h hb.out.size)
   obtain ⟨c,hc⟩:∃ c,c=zan 1 l[(lo+hi) / 2] l[m]:=⟨_,rfl⟩
   have HC:Hid (∀ W,Low wr.heap.size wr W→Calls Tryz.prog 74 #[.agg #[.int .i64 v.k,.bool v.b,.int .i64 v.n,.string v.t,.string v.x,.slice v.p v.len v.cap],.agg #[.int .i64 u.k,.bool u.b,.int .i64 u.n,.string u.t,.string u.x,.slice u.p u.len u.cap]] W fun e w'=>e=.returned (.int .i64 c)∧Low W.heap.size W w'):=Lib.hid fun W h=>by
    have hw:=zad hb0 h hb0.size
    rw [hc]
    exact cmpIs v u _ _ q2 q W (HG.out.below hw.is) (HT.out.below hw.is) (i2.below h.is) (HU.out.below hw.is)
   have HZ:Hid (c < 0↔(lo+hi) / 2 < m):=Lib.hid (by rw [hc];exact HR.out.lt _ m hx hm)
   have hx3:(((lo+hi) / 2:Nat):Int) < l.length:=by omega
   have hlt3:(lo:Int) < hi:=by omega
   have hs1:(lo:Int)+hi < 9223372036854775808:=by omega
   clear i2 r2 hc
   go_upto_region 5 with fail
   refine wp_region_held_drew (S:=fun W=>Low wr.heap.size wr W) (by kernel_rfl) (Low.refl _ _).drew (fun hHeld=>?_)
   refine tg (i:=0) (.func (.func 74) #[] #[]) rfl hHeld ?_
   refine tg (i:=1) (.slice (some ⟨g,o,none⟩) l.length cap) rfl hHeld ?_
   refine tg (i:=2) (.int .i64 (((lo:Int)+hi) / 2)) rfl hHeld ?_
   refine tk (i:=3) (v:=.pointer (some ⟨g,o+(lo+hi) / 2*6,none⟩)) rfl (Or.inl ⟨by rfl,fun W _=>by
    have t1:(0:Int)≤((lo:Int)+hi) / 2:=by omega
    have t2:((lo:Int)+hi) / 2 < l.length:=by omega
    have t3:(((lo:Int)+hi) / 2).toNat=(lo+hi) / 2:=by omega
    go_simp⟩) hHeld ?_
   try simp only [putS]
   refine tk (i:=4) rfl (yieldsIf_load_mid (by rfl) 39 (.tmp 27) rfl (g) (o+(lo+hi) / 2*6) rfl [.int .i64 v.k,.bool v.b,.int .i64 v.n,.string v.t,.string v.x,.slice v.p v.len v.cap] _ (fun w h=>RV.out _ h) Tryz.underlying39 rfl zas) hHeld ?_
   refine tk (i:=5) rfl (yieldsIf_load_mid (by rfl) 39 (.tmp 4) rfl (w.heap.size) (0) rfl [.int .i64 u.k,.bool u.b,.int .i64 u.n,.string u.t,.string u.x,.slice u.p u.len u.cap] _ (fun w h=>RU.out _ h) Tryz.underlying39 rfl zas) hHeld ?_
   refine tr 6 rfl (fun K hK=>?_)
   rw [if_pos (by rfl)]
   go_simp
   refine (HC.out _ hHeld).mono ?_
   rintro e0 w3 ⟨rfl,hb3⟩
   have hH2:=zad hHeld hb3 hHeld.size
   clear hb3 hHeld
   refine hK.out _ _ hH2 (fun hH2=>?_)
   clear hK K
   try simp only [putS]
   refine tg (i:=7) (.bool (decide (c < 0))) rfl hH2 ?_
   refine wpAnyH_done (by kernel_rfl) ?_ _
   have hbN:=zad hb.out hH2 hb.out.size
   have HB:=Lib.hid hbN
   by_cases hz:c < 0
   ·have hz2:=HZ.out.1 hz
    rw [decide_eq_true hz]
    clear hH2 hbN hb0 RV RU HC HZ
    go_wp2_with fail
    go_roundg (hi - ((lo+hi) / 2+1))
    case measure=>omega
    case rel=>exact ⟨(lo+hi) / 2+1,hi,by rw [show (((lo+hi) / 2+1:Nat):Int)=((lo:Int)+(hi:Int)) / 2+1 by omega],rfl,by omega,hhi,hin,Nat.le_refl _,HB⟩
   ·have hz2:¬ (lo+hi) / 2 < m:=fun h=>hz (HZ.out.2 h)
    rw [decide_eq_false hz]
    clear hH2 hbN hb0 RV RU HC HZ
    go_wp2_with fail
    go_roundg ((lo+hi) / 2 - lo)
    case measure=>omega
    case rel=>exact ⟨lo,(lo+hi) / 2,rfl,by rw [show (((lo+hi) / 2:Nat):Int)=((lo:Int)+(hi:Int)) / 2 by omega],hlo,by omega,by omega,Nat.le_refl _,HB⟩
  ·obtain rfl:lo=m:=by omega
   obtain rfl:hi=lo:=by omega
   have hb0:Low w.heap.size w wr:=b0.trans (hb.out.mono b0.size)
   obtain ⟨v,q2,i2,r2⟩:=isOf (zar.at_ l o (zar.below l HL.out hb0.is) hi hm)
   have RV:Hid (∀ W,Low wr.heap.size wr W→W.rangeAt g (o+hi*6) [.int .i64 v.k,.bool v.b,.int .i64 v.n,.string v.t,.string v.x,.slice v.p v.len v.cap]):=Lib.hid fun W h=>zae r2 h.is
   have RU:Hid (∀ W,Low wr.heap.size wr W→W.rangeAt w.heap.size 0 [.int .i64 u.k,.bool u.b,.int .i64 u.n,.string u.t,.string u.x,.slice u.p u.len u.cap]):=Lib.hid fun W h=>RU0.out W (zad hb.out h hb.out.size)
   have HC:Hid (∀ W,Low wr.heap.size wr W→Calls Tryz.prog 74 #[.agg #[.int .i64 v.k,.bool v.b,.int .i64 v.n,.string v.t,.string v.x,.slice v.p v.len v.cap],.agg #[.int .i64 u.k,.bool u.b,.int .i64 u.n,.string u.t,.string u.x,.slice u.p u.len u.cap]] W fun e w'=>e=.returned (.int .i64 0)∧Low W.heap.size W w'):=Lib.hid fun W h=>by
    have hw:=zad hb0 h hb0.size
    have:=cmpIs v u _ _ q2 q W (HG.out.below hw.is) (HT.out.below hw.is) (i2.below h.is) (HU.out.below hw.is)
    rwa [zb5] at this
   have HB:=Lib.hid hb0
   clear i2 r2 hb0 hb
   go_upto_region 8 with fail
   refine wp_region_held_drew (S:=fun W=>Low wr.heap.size wr W) (by kernel_rfl) (Low.refl _ _).drew (fun hHeld=>?_)
   refine tg (i:=0) (.int .i64 hi) rfl hHeld ?_
   refine tg (i:=1) (.int .i64 hi) rfl hHeld ?_
   refine tg (i:=2) (.int .i64 l.length) rfl hHeld ?_
   refine tg (i:=3) (.bool true) rfl hHeld ?_
   refine tg (i:=4) (.bool true) rfl hHeld ?_
   refine tg (i:=5) (.func (.func 74) #[] #[]) rfl hHeld ?_
   refine tg (i:=6) (.slice (some ⟨g,o,none⟩) l.length cap) rfl hHeld ?_
   refine tg (i:=7) (.int .i64 hi) rfl hHeld ?_
   refine tg (i:=8) (.pointer (some ⟨g,o+hi*6,none⟩)) rfl hHeld ?_
   refine tk (i:=9) rfl (yieldsIf_load_mid (by rfl) 39 (.tmp 43) rfl (g) (o+hi*6) rfl [.int .i64 v.k,.bool v.b,.int .i64 v.n,.string v.t,.string v.x,.slice v.p v.len v.cap] _ (fun w h=>RV.out _ h) Tryz.underlying39 rfl zas) hHeld ?_
   refine tk (i:=10) rfl (yieldsIf_load_mid (by rfl) 39 (.tmp 4) rfl (w.heap.size) (0) rfl [.int .i64 u.k,.bool u.b,.int .i64 u.n,.string u.t,.string u.x,.slice u.p u.len u.cap] _ (fun w h=>RU.out _ h) Tryz.underlying39 rfl zas) hHeld ?_
   refine tr 11 rfl (fun K hK=>?_)
   rw [if_pos (by rfl)]
   go_simp
   refine (HC.out _ hHeld).mono ?_
   rintro e0 w3 ⟨rfl,hb3⟩
   have hH2:=zad hHeld hb3 hHeld.size
   clear hb3 hHeld
   refine hK.out _ _ hH2 (fun hH2=>?_)
   clear hK K
   try simp only [putS]
   refine tg (i:=12) (.bool true) rfl hH2 ?_
   refine tg (i:=13) (.bool true) rfl hH2 ?_
   refine tg (i:=14) (.int .i64 hi) rfl hH2 ?_
   refine tg (i:=15) (.bool true) rfl hH2 ?_
   refine wpAnyH_done (by kernel_rfl) ?_ _
   go_wp2_with fail
   go_ret2
   exact ⟨rfl,zad HB.out hH2 HB.out.size⟩
deriving instance DecidableEq for VR
theorem VR.len3 (x:VR):x.enc.length=3:=rfl
theorem zu6 (a b c x y z:Int) (w:World):(Op.equalIn 10000 81 (.agg #[.int .i64 a,.int .i64 b,.int .i64 c]) (.agg #[.int .i64 x,.int .i64 y,.int .i64 z])).run Tryz.prog w=.ok (a == x && b == y && c == z) w:=by
 have s3:∀ w,(sizeOf 3).run Tryz.prog w=.ok 1 w:=fun w=>by kernel_rfl
 have p0:∀ u v t w,(part 3 #[.int .i64 u,.int .i64 v,.int .i64 t] 0).run Tryz.prog w=.ok (.int .i64 u) w:=fun u v t w=>by kernel_rfl
 have p1:∀ u v t w,(part 3 #[.int .i64 u,.int .i64 v,.int .i64 t] 1).run Tryz.prog w=.ok (.int .i64 v) w:=fun u v t w=>by kernel_rfl
 have p2:∀ u v t w,(part 3 #[.int .i64 u,.int .i64 v,.int .i64 t] 2).run Tryz.prog w=.ok (.int .i64 t) w:=fun u v t w=>by kernel_rfl
 have e0:∀ u v w,(Op.equalIn 9999 3 (.int .i64 u) (.int .i64 v)).run Tryz.prog w=.ok (u == v) w:=fun u v w=>by
  rw [run_equalIn_int w 9998 3 .i64 .i64 u v Tryz.underlying3]
 rw [Op.equalIn]
 by_cases h1:a=x
 ·by_cases h2:b=y
  ·by_cases h3:c=z
   ·simp [run_underlying Tryz.underlying81,Std.Legacy.Range.forIn_eq_forIn_range',Std.Legacy.Range.size,List.range',s3,p0,p1,p2,e0,Result.andThen,h1,h2,h3]
   ·simp [run_underlying Tryz.underlying81,Std.Legacy.Range.forIn_eq_forIn_range',Std.Legacy.Range.size,List.range',s3,p0,p1,p2,e0,Result.andThen,h1,h2,h3]
  ·simp [run_underlying Tryz.underlying81,Std.Legacy.Range.forIn_eq_forIn_range',Std.Legacy.Range.size,List.range',s3,p0,p1,e0,Result.andThen,h1,h2]
 ·simp [run_underlying Tryz.underlying81,Std.Legacy.Range.forIn_eq_forIn_range',Std.Legacy.Range.size,List.range',s3,p0,e0,Result.andThen,h1]
theorem zu7:Tryz.prog.eqGuardType Tryz.prog.depth 81=false:=by kernel_rfl
theorem zw8 (x y:Operand) (xs ys:Array Value) (w:World):(eqGuard .eql 81 x y (.agg xs) (.agg ys)).run Tryz.prog w=.ok () w:=run_eqGuard_agg w .eql 81 x y xs ys zu7
theorem zw9 (x y:Operand) (xs ys:Array Value) (w:World):(eqGuard .neq 81 x y (.agg xs) (.agg ys)).run Tryz.prog w=.ok () w:=run_eqGuard_agg w .neq 81 x y xs ys zu7
def VR.same (r s:VR):Bool:=r.a == s.a && r.b == s.b && r.c == s.c
theorem VR.same_eq (r s:VR):r.same s=true↔r=s:=by
 obtain ⟨a,b,c⟩:=r
 obtain ⟨x,y,z⟩:=s
 unfold VR.same
 simp [and_assoc]
theorem zo2 {g:Nat} {x y z:World} (h:Only g x y) (k:Low y.heap.size y z):Only g x z:=h.trans (Only.of_low k)
theorem zm8 {ops:Array Oper} {rest:List Oper} {o:Oper} {a:Act} {w:World} {Q:Exit→Act→World→Prop} (x:Operand) (g off:Nat) (e:VR) (h6:w.rangeAt g off e.enc)
 (hgd:o.guard=none) (ho:o.op=.load 81 x) (hx:a.eval x=.pointer (some ⟨g,off,none⟩))
 (h:wpList Tryz.prog ops Q rest (a.put o.dst (.agg e.enc.toArray)) w):wpList Tryz.prog ops Q (o::rest) a w:=
 wpList_load_mid hgd 81 x ho g off hx e.enc _ h6 Tryz.underlying81 rfl zln h
theorem zld {ops:Array Oper} {rest:List Oper} {o:Oper} {a:Act} {w:World} {Q:Exit→Act→World→Prop} (x y:Operand) (g off:Nat) (e:VR) (hth:w.there g off 3)
 (hgd:o.guard=none) (ho:o.op=.store 81 x y) (hx:a.eval x=.pointer (some ⟨g,off,none⟩)) (hy:a.eval y=.agg e.enc.toArray)
 (h:wpList Tryz.prog ops Q rest (a.put o.dst undef) (w.setCells g off e.enc)):wpList Tryz.prog ops Q (o::rest) a w:=
 wpList_store_mid hgd 81 x y ho g off e.enc.toArray hx hy hth zln (all_oneCell_toArray e.one) h
theorem zero81 (w:World):(zeroValue 81).run Tryz.prog w=.ok (.agg #[.int .i64 0,.int .i64 0,.int .i64 0]) w:=Tryz.zeroValue81 w
theorem zxa (blk off cap:Nat) (d:Array VR) (w:World) (hE:zcr VR.enc 3 w blk off d) (hblk:blk < w.heap.size) (hsz:d.size < 1099511627776) (hcap:d.size≤cap):
 Calls Tryz.prog 82 #[.slice (some ⟨blk,off,none⟩) d.size cap] w fun e w'=>∃ (dk:Array VR),e=.returned (.slice (some ⟨blk,off,none⟩) dk.size cap)∧dk.toList=Go.Lib.compactUpTo d d.size∧zcr VR.enc 3 w' blk off dk∧Only blk w w':=by
 have all:(∀ j,j < d.size→Go.Lib.keeps d j=true)→d.toList=Go.Lib.compactUpTo d d.size:=fun h=>by
  rw [Go.Lib.compactUpTo_all d d.size h,Go.Lib.range_map_get]
 have ALL:=Lib.hid all
 have HE:=Lib.hid hE
 clear all hE
 by_cases h2:d.size < 2
 ·go_enter Tryz.func82,Tryz.ntmps82
  go_wp2_with fail
  go_ret
  exact ⟨d,rfl,ALL.out fun j hj=>Go.Lib.keeps_lt_one _ j (by omega),HE.out,Only.refl _ _⟩
 ·go_enter Tryz.func82,Tryz.ntmps82
  go_wp2_with fail
  go_loopg [3] d.size (fun gg s5 wr=>∃ i:Nat,s5=.int .i64 ((i:Int)+1)∧i+1≤d.size∧d.size - (i+1)≤gg∧Low w.heap.size w wr∧Hid (∀ j,j < i+1→Go.Lib.keeps d j=true))
  case atStart=>exact ⟨0,rfl,by omega,by omega,Low.refl _ _,Lib.hid (Go.Lib.keeps_lt_one _)⟩
  case round=>
   obtain ⟨i,rfl,hi,hgg,bw,hall⟩:=hrel
   by_cases hlt:i+1 < d.size
   ·have E:=HE.out.low hblk bw
    obtain ⟨ea,hea⟩:∃ x,x=d[i+1]!:=⟨_,rfl⟩
    obtain ⟨eb,heb⟩:∃ x,x=d[i]!:=⟨_,rfl⟩
    have ra:=(E (i+1) hlt).1
    have rb:=(E i (by omega)).1
    rw [← hea] at ra
    rw [← heb] at rb
    have RA:Hid (∀ W,Low wr.heap.size wr W→W.rangeAt blk (off+(i+1)*3) ea.enc):=Lib.hid fun W h=>zae ra h.is
    have RB:Hid (∀ W,Low wr.heap.size wr W→W.rangeAt blk (off+i*3) eb.enc):=Lib.hid fun W h=>zae rb h.is
    obtain ⟨r,hr⟩:∃ r,r=ea.same eb:=⟨_,rfl⟩
    have HQ:Hid (∀ W,(Op.equalIn 10000 81 (.agg ea.enc.toArray) (.agg eb.enc.toArray)).run Tryz.prog W=.ok r W):=Lib.hid fun W=>by rw [hr];exact zu6 _ _ _ _ _ _ W
    have KR:Hid (r=true↔d[i+1]! =d[i]!):=Lib.hid (by rw [← hea,← heb,hr];exact VR.same_eq ea eb)
    clear E ra rb hea heb hr
    have hlti:(i:Int)+1 < d.size:=by omega
    have t1:((i:Int)+1).toNat=i+1:=by omega
    have t2:¬ (i:Int)+1 < 0:=by omega
    have t3:IntKind.i64.wrap (i:Int)=i:=IntWalk.i64_in _ (by omega)
    have t4:(i:Int) < d.size:=by omega
    go_upto_region 6 with fail
    refine wp_region_held_drew (S:=fun W=>Low wr.heap.size wr W) (by kernel_rfl) (Low.refl _ _).drew (fun hHeld=>?_)
    refine tg (i:=0) (.slice (some ⟨blk,off,none⟩) d.size cap) rfl hHeld ?_
    refine tg (i:=1) (.int .i64 ((i:Int)+1)) rfl hHeld ?_
    refine tg (i:=2) (.pointer (some ⟨blk,off+(i+1)*3,none⟩)) rfl hHeld ?_
    refine tk (i:=3) rfl (yieldsIf_load_mid (by rfl) 81 (.tmp 18) rfl blk (off+(i+1)*3) rfl ea.enc _ (fun w h=>RA.out w h) Tryz.underlying81 rfl zln) hHeld ?_
    refine tg (i:=4) (.slice (some ⟨blk,off,none⟩) d.size cap) rfl hHeld ?_
    refine tg (i:=5) (.int .i64 ((i:Int)+1)) rfl hHeld ?_
    refine tg (i:=6) (.int .i64 i) rfl hHeld ?_
    refine tg (i:=7) (.pointer (some ⟨blk,off+i*3,none⟩)) rfl hHeld ?_
    refine tk (i:=8) rfl (yieldsIf_load_mid (by rfl) 81 (.tmp 23) rfl blk (off+i*3) rfl eb.enc _ (fun w h=>RB.out w h) Tryz.underlying81 rfl zln) hHeld ?_
    refine tk (i:=9) (v:=.bool r) rfl (Or.inl ⟨by rfl,fun W _=>by have g81:=zw8;have q81:=HQ.out W;go_simp⟩) hHeld ?_
    refine wpAnyH_done (by kernel_rfl) ?_ _
    replace bw:=bw.trans (hHeld.mono bw.size)
    cases r with
    | false=>
       go_wp2_with fail
       go_roundg (d.size - (i+1+1))
       case measure=>omega
       case rel=>
        refine ⟨i+1,by go_num,by omega,Nat.le_refl _,bw,Lib.hid fun j hj=>?_⟩
        by_cases e:j=i+1
        ·subst e
         exact Go.Lib.keeps_pos (fun h=>absurd (KR.out.2 h) (by decide))
        ·exact hall.out j (by omega)
    | true=>
       have hst:=Go.Lib.CompInv.start (d:=d) (k0:=i+1) hall.out (Go.Lib.keeps_neg (by omega) (KR.out.1 rfl))
       have HST:=Lib.hid hst
       clear hst KR
       have hcap3:(i:Int)+1≤cap:=by omega
       have hle3:(i:Int)+1≤d.size:=by omega
       have E3:=HE.out.low hblk bw
       have bo:Only blk w wr.drew:=Only.of_low bw
       generalize wr.drew=w3 at*
       go_wp2_with fail
       go_loopg [3,5] d.size (fun gg s5 s7 wr=>∃ (kk c:Nat) (dk:Array VR),s5=.int .i64 kk∧s7=.int .i64 ((c:Int)+1)∧i+1+(c+1)≤d.size∧d.size - (i+1+(c+1))≤gg∧Only blk w wr∧dk.size=d.size∧Hid (zcr VR.enc 3 wr blk off dk)∧Hid (Go.Lib.CompInv d (i+1+(c+1)) kk dk))
       case atStart=>exact ⟨i+1,0,d,by go_num,rfl,by omega,by omega,bo,rfl,Lib.hid E3,HST⟩
       case round=>
        clear E3 bo bw hall
        obtain ⟨kk,c,dk,rfl,rfl,hle,hgg2,bo,hds,hE,hI⟩:=hrel
        have hkk:=hI.out.lt
        by_cases hlt2:i+1+(c+1) < d.size
        ·obtain ⟨ec,hec⟩:∃ x,x=dk[i+1+(c+1)]!:=⟨_,rfl⟩
         obtain ⟨ed,hed⟩:∃ x,x=dk[i+1+c]!:=⟨_,rfl⟩
         have ra:=(hE.out (i+1+(c+1)) (by omega)).1
         have rb:=(hE.out (i+1+c) (by omega)).1
         rw [← hec,show off+(i+1+(c+1))*3=off+(i+1)*3+(c+1)*3 by omega] at ra
         rw [← hed,show off+(i+1+c)*3=off+(i+1)*3+c*3 by omega] at rb
         have RA:Hid (∀ W,Low wr.heap.size wr W→W.rangeAt blk (off+(i+1)*3+(c+1)*3) ec.enc):=Lib.hid fun W h=>zae ra h.is
         have RB:Hid (∀ W,Low wr.heap.size wr W→W.rangeAt blk (off+(i+1)*3+c*3) ed.enc):=Lib.hid fun W h=>zae rb h.is
         obtain ⟨r,hr⟩:∃ r,r=ec.same ed:=⟨_,rfl⟩
         have HQ:Hid (∀ W,(Op.equalIn 10000 81 (.agg ec.enc.toArray) (.agg ed.enc.toArray)).run Tryz.prog W=.ok r W):=Lib.hid fun W=>by rw [hr];exact zu6 _ _ _ _ _ _ W
         have hv1:=hI.out.high (i+1+(c+1)) (by omega)
         have hv2:=hI.out.high (i+1+c) (by omega)
         rw [← hec] at hv1
         rw [← hed] at hv2
         have KR:Hid (r=true↔d[i+1+(c+1)]! =d[i+1+c]!):=Lib.hid (by rw [← hv1,← hv2,hr];exact VR.same_eq ec ed)
         have HV1:=Lib.hid hv1
         have hblk2:blk < wr.heap.size:=Nat.lt_of_lt_of_le hblk bo.size
         clear ra rb hec hed hr hv1 hv2
         have hlti2:(c:Int)+1 < (d.size - (i+1):Nat):=by omega
         have t5:((c:Int)+1).toNat=c+1:=by omega
         have t6:¬ (c:Int)+1 < 0:=by omega
         have t7:IntKind.i64.wrap (c:Int)=c:=IntWalk.i64_in _ (by omega)
         have t8:(c:Int) < (d.size - (i+1):Nat):=by omega
         go_upto_region 11 with fail
         refine wp_region_held_drew (S:=fun W=>Low wr.heap.size wr W) (by kernel_rfl) (Low.refl _ _).drew (fun hHeld=>?_)
         refine tg (i:=0) (.slice (some ⟨blk,off+(i+1)*3,none⟩) (d.size - (i+1)) (cap - (i+1))) rfl hHeld ?_
         refine tg (i:=1) (.int .i64 ((c:Int)+1)) rfl hHeld ?_
         refine tg (i:=2) (.pointer (some ⟨blk,off+(i+1)*3+(c+1)*3,none⟩)) rfl hHeld ?_
         refine tk (i:=3) rfl (yieldsIf_load_mid (by rfl) 81 (.tmp 37) rfl blk (off+(i+1)*3+(c+1)*3) rfl ec.enc _ (fun w h=>RA.out w h) Tryz.underlying81 rfl zln) hHeld ?_
         refine tg (i:=4) (.slice (some ⟨blk,off+(i+1)*3,none⟩) (d.size - (i+1)) (cap - (i+1))) rfl hHeld ?_
         refine tg (i:=5) (.int .i64 ((c:Int)+1)) rfl hHeld ?_
         refine tg (i:=6) (.int .i64 c) rfl hHeld ?_
         refine tg (i:=7) (.pointer (some ⟨blk,off+(i+1)*3+c*3,none⟩)) rfl hHeld ?_
         refine tk (i:=8) rfl (yieldsIf_load_mid (by rfl) 81 (.tmp 42) rfl blk (off+(i+1)*3+c*3) rfl ed.enc _ (fun w h=>RB.out w h) Tryz.underlying81 rfl zln) hHeld ?_
         refine tk (i:=9) (v:=.bool (!r)) rfl (Or.inl ⟨by rfl,fun W _=>by have g81:=zw9;have q81:=HQ.out W;go_simp⟩) hHeld ?_
         refine wpAnyH_done (by kernel_rfl) ?_ _
         cases r with
         | true=>
           go_wp2_with fail
           go_roundg (d.size - (i+1+(c+1+1)))
           case measure=>omega
           case rel=>exact ⟨kk,c+1,dk,rfl,by go_num,by omega,Nat.le_refl _,zo2 bo hHeld,hds,Lib.hid (hE.out.low hblk2 hHeld),Lib.hid (hI.out.skip (Go.Lib.keeps_neg (by omega) (KR.out.1 (by first | rfl | trivial))))⟩
         | false=>
           have E3:=hE.out.low hblk2 hHeld
           have rc:=RA.out _ hHeld
           have hth:=(E3 kk (by omega)).2
           have E4:=E3.set VR.len3 kk (by omega) ec
           have bo2:=(zo2 bo hHeld).trans (zba blk ec.enc (off+kk*3) wr.drew)
           have I4:=hI.out.keep hlt2 (Go.Lib.keeps_pos (fun h=>absurd (KR.out.2 h) (by decide)))
           rw [← HV1.out] at I4
           have hkk3:(kk:Int) < d.size:=by omega
           have HE4:=Lib.hid E4
           have HI4:=Lib.hid I4
           clear E4 I4 E3 hE hI bo HV1 KR RB HQ
           generalize wr.drew=w3 at*
           go_wp2_with (first
            |((with_reducible refine zm8 (.tmp 49) blk (off+(i+1)*3+(c+1)*3) ec rc ?_ ?_ ?_ ?_);rfl;rfl;rfl)
            |((with_reducible refine zld (.tmp 51) (.tmp 50) blk (off+kk*3) ec hth ?_ ?_ ?_ ?_ ?_);rfl;rfl;rfl;rfl;clear hth rc;generalize w3.setCells blk (off+kk*3) ec.enc=w4 at *))
           go_roundg (d.size - (i+1+(c+1+1)))
           case measure=>omega
           case rel=>exact ⟨kk+1,c+1,dk.setIfInBounds kk ec,by go_num,by go_num,by omega,Nat.le_refl _,bo2,by simpa using hds,HE4,HI4⟩
        ·have hend:i+1+(c+1)=d.size:=by omega
         have hnl:¬ (c:Int)+1 < (d.size - (i+1):Nat):=by omega
         have hth:=hE.out.there (by decide) kk (by omega)
         rw [hds] at hth
         have hcl:∀ ty,(Builtin.clear_ #[71] ty #[.slice (some ⟨blk,off+kk*3,none⟩) (d.size - kk) (cap - kk)]).run Tryz.prog wr=.ok (.tuple #[]) (wr.setCells blk (off+kk*3) (Builtin.zeroCells #[.int .i64 0,.int .i64 0,.int .i64 0] (d.size - kk)).toList):=fun ty=>
          zhc Tryz.prog wr 71 81 ty _ Tryz.underlying71 zero81 (by
           intro v hv
           simp only [Builtin.zeroCells,Array.toList_map,List.mem_map,Array.toList_range,List.mem_range] at hv
           obtain ⟨q,_,rfl⟩:=hv
           have hq:q % 3 < 3:=Nat.mod_lt _ (by decide)
           show (#[Value.int .i64 0,.int .i64 0,.int .i64 0][q % 3]!).oneCell'=true
           generalize q % 3=z at hq
           match z,hq with
           | 0,_ | 1,_ | 2,_=>rfl) blk (off+kk*3) (cap - kk) (by omega) hth
         have E4:=hE.out.tail VR.len3 kk (by omega) (Builtin.zeroCells #[.int .i64 0,.int .i64 0,.int .i64 0] (d.size - kk)).toList
         have bo2:=bo.trans (zba blk (Builtin.zeroCells #[.int .i64 0,.int .i64 0,.int .i64 0] (d.size - kk)).toList (off+kk*3) wr)
         have hsz2:(dk.take kk).size=kk:=by simp;omega
         have hres:(dk.take kk).toList=Go.Lib.compactUpTo d d.size:=by
          have hI':=hI.out
          rw [hend] at hI'
          refine List.ext_getElem (by simp [hI'.len];omega) fun j h1 h2=>?_
          have hj:j < kk:=by rw [← hI'.len];exact h2
          have:=hI'.low j hj
          rw [List.getElem?_eq_getElem h2] at this
          rw [Option.some.inj this,Array.getElem_toList,getElem!_pos dk j (by omega)]
          simp
         have HF:=Lib.hid (And.intro hres E4)
         have hkc:kk≤cap:=by omega
         have hkd:kk≤d.size:=by omega
         have hkc3:(kk:Int)≤cap:=by omega
         have hkd3:(kk:Int)≤d.size:=by omega
         clear hres E4 hE hI hth bo
         generalize (Builtin.zeroCells #[.int .i64 0,.int .i64 0,.int .i64 0] (d.size - kk)).toList=zs at*
         go_wp2_with fail
         go_ret
         exact ⟨dk.take kk,by rw [hsz2];rfl,HF.out.1,HF.out.2,bo2⟩
   ·have hend:i+1=d.size:=by omega
    have hn:¬ (i:Int)+1 < d.size:=by omega
    go_wp2_with fail
    go_ret
    exact ⟨d,rfl,ALL.out fun j hj=>hall.out j (by omega),HE.out.low hblk bw,Only.of_low bw⟩
def zig (w:World) (q:List Val) (e:Ending) (w':World):Prop:=∃ V xs,e=.returned V∧w'.ownsRow w.heap.size 39 6 V q.length xs∧za5 w' (fun g=>w.heap.size≤g∧g < w'.heap.size∧V.ownBlock≠some g) xs q∧Below w.heap.size w w'
structure Acc (w:World) (l:List Val) (A:Value) (wr:World):Prop where
 own:∃ xs,wr.ownsRow w.heap.size 39 6 A l.length xs∧za5 wr (fun g=>w.heap.size≤g∧g < wr.heap.size∧A.ownBlock≠some g) xs l
 bel:Below w.heap.size w wr
theorem zbf {w w':World} {base:Nat} {e:TypeId} {size:Nat} {v:Value} {n:Nat} {xs:List Value} (h:w.ownsRow base e size v n xs) (b:Below w.heap.size w w'):w'.ownsRow base e size v n xs:=by
 refine ⟨h.1,?_⟩
 rcases h.2 with h0 | ⟨g,cap,cur,e1,h1,h2,h3⟩
 ·exact .inl h0
 ·exact .inr ⟨g,cap,cur,e1,h1,(b.block g (zac h2)).trans h2,h3⟩
theorem zm9:(Tryz.prog.info? 39).map (fun i=>(i.zero,i.size,i.bytes))=some (some (.agg #[.int .i64 0,.bool false,.int .i64 0,.string ⟨#[]⟩,.string ⟨#[]⟩,.slice none 0 0]),6,80):=by kernel_rfl
theorem zdf (w:World) (a b c d e f:Value) (t:TypeId):∀ j u,[a,b,c,d,e,f][j]?=some u→(w.alloc (.cells #[a,b,c,d,e,f] t)).cell? ((⟨w.heap.size,0,none⟩:Addr).add j)=some u:=by
 intro j u hj
 rw [Addr.add_mid,Nat.zero_add]
 exact zab (zah w _ rfl) j (by simpa using hj)
theorem Acc.next {w wr wf w1:World} {l:List Val} {A A2:Value} {xs:List Value} {k:Int} {b:Bool} {n:Int} {t x:ByteArray} {q:List Val} {V:Value} {e:Nat} {o:Obj} (he:e=wr.heap.size)
 (hx:wr.ownsRow w.heap.size 39 6 A l.length xs) (hc:za5 wr (fun g=>w.heap.size≤g∧g < wr.heap.size∧A.ownBlock≠some g) xs l) (hbel:Below w.heap.size w wr)
 (bf:Below wr.heap.size wr wf) (hf:Fine n t x q.length) (hq:zdb wf (fun g=>e < g∧g < wf.heap.size) V q)
 (hown:w1.ownsRow w.heap.size 39 6 A2 (l.length+1) (xs++[.int .i64 k,.bool b,.int .i64 n,.string t,.string x,V])) (hgrow:(wf.alloc o).grownBy w1 A.ownBlock) (hloc:A2.ownBlock=A.ownBlock∨A2.ownBlock=some (wf.heap.size+1)):
 Acc w (l++[.mk k b n t x q]) A2 w1:=by
 have hA:∀ g,A.ownBlock=some g→g < wr.heap.size:=fun g hg=>(hx.lt g hg).2
 have s1:(wf.alloc o).heap.size=wf.heap.size+1:=by simp
 have s2:wr.heap.size≤wf.heap.size:=bf.size
 have s3:(wf.alloc o).heap.size≤w1.heap.size:=hgrow.size
 have s0:w.heap.size≤wr.heap.size:=hbel.size
 have hn2:∀ g,g < wf.heap.size→A.ownBlock≠some g→A2.ownBlock≠some g:=fun g hg hne h=>by
  rcases hloc with h2 | h2
  ·exact hne (h2 ▸ h)
  ·rw [h2] at h
   have:=Option.some.inj h
   omega
 have keep:∀ g,g < wf.heap.size→A.ownBlock≠some g→w1.heap[g]?=wf.heap[g]?:=fun g hg hne=>by
  rw [hgrow.block g (by omega) (fun h=>hne h.symm)]
  exact Below.heap_alloc _ _ _ hg
 refine ⟨⟨_,by rw [List.length_append];exact hown,?_⟩,(hbel.trans (bf.mono s0) |>.alloc (by omega) o).grown hgrow (by omega) (fun g hg=>(hx.lt g hg).1)⟩
 refine za5.append l _ (hc.stays (fun g hg=>⟨⟨hg.1,by omega,hn2 g (by omega) hg.2.2⟩,?_⟩) l) (za5.one hf (hq.stays (fun g hg=>?_) q))
 ·rw [keep g (by omega) hg.2.2]
  exact bf.block g hg.2.1
 ·have hne:A.ownBlock≠some g:=fun h=>by have:=hA g h;omega
  exact ⟨⟨by omega,by omega,hn2 g hg.2 hne⟩,keep g hg.2 hne⟩
theorem zdg {fn:Func} {p:Tmp} (h:fn.results=#[.cell p 39]) (tmps:Array Value) {w:World} {g:Nat} {k:Int} {b:Bool} {n:Int} {t x:ByteArray} {pp:Option Addr} {len cap:Nat}
 (hp:tmps.getD p undef=.pointer (some ⟨g,0,none⟩)) (hg:Six w g k b n t x pp len cap):(results fn tmps).run Tryz.prog w=.ok (.agg #[.int .i64 k,.bool b,.int .i64 n,.string t,.string x,.slice pp len cap]) w:=by
 have hp':tmps[p]?.getD undef=.pointer (some ⟨g,0,none⟩):=by simpa using hp
 have hl:=run_loadVar_row (P:=Tryz.prog) w g 39 39 _ (0,0) _ hg Tryz.underlying39 rfl zas
 simp [results,h,hp',asAddr,hl]
def zhd (w:World) (k:Int) (b:Bool) (n:Int) (t x:ByteArray) (q:List Val) (e:Ending) (w':World):Prop:=
 ∃ p c,e=.returned (.agg #[.int .i64 k,.bool b,.int .i64 n,.string t,.string x,.slice p q.length c])∧zdb w' (fun g=>w.heap.size < g∧g < w'.heap.size) (.slice p q.length c) q∧Below w.heap.size w w'
def zrf (v:Val):Prop:=∀ (W:World) (k:Int) (b:Bool) (n:Int) (t x:ByteArray) (q:List Val) (p:Option Addr) (cap:Nat),v=.mk k b n t x q→q.length≤2097152→Held W (.slice p q.length cap) q→
 Calls Tryz.prog 72 #[.slice p q.length cap] W (zig W q)
theorem zmf (k:Int) (b:Bool) (n:Int) (t x:ByteArray) (q:List Val) (p:Option Addr) (cap:Nat) (w:World) (hc:∀ W,Below w.heap.size w W→Calls Tryz.prog 72 #[.slice p q.length cap] W (zig W q)):
 Calls Tryz.prog 39 #[.agg #[.int .i64 k,.bool b,.int .i64 n,.string t,.string x,.slice p q.length cap]] w (zhd w k b n t x q):=by
 obtain ⟨W0,hW0⟩:∃ W0,W0=(w.alloc (.cells #[.int .i64 k,.bool b,.int .i64 n,.string t,.string x,.slice p q.length cap] 39)).alloc (.cells #[.int .i64 0,.bool false,.int .i64 0,.string ⟨#[]⟩,.string ⟨#[]⟩,.slice none 0 0] 39):=⟨_,rfl⟩
 have S1:Six W0 w.heap.size k b n t x p q.length cap:=by rw [hW0];exact (zaf _ rfl).alloc _
 have S2:Six W0 (w.heap.size+1) 0 false 0 ⟨#[]⟩ ⟨#[]⟩ none 0 0:=by rw [hW0];exact zaf _ (by simp)
 have b0:Below w.heap.size w W0:=by rw [hW0];exact (za0 _ _).alloc (by simp) _
 have z0:W0.heap.size=w.heap.size+2:=by rw [hW0];simp
 have c5:=S1.c5
 have H0:=Lib.hid hW0
 have HZ:=Lib.hid z0
 clear hW0 z0
 go_enter Tryz.func39,Tryz.ntmps39
 go_wp2_with (first
  |(go_at_call 72;rw [← H0.out];(with_reducible refine (hc _ b0).mono ?_);rintro e w2 ⟨V,ys,rfl,hv,hcs,hb2⟩
    have hq2:zdb w2 (fun g=>w.heap.size+1 < g∧g < w2.heap.size) V q:=zoz hv hcs (fun g hg=>⟨by have:=hg.1;have:=HZ.out;omega,hg.2.1⟩) (fun g hg=>⟨by have:=(hv.lt g hg).1;have:=HZ.out;omega,(hv.lt g hg).2⟩)
    obtain ⟨p2,c2,rfl⟩:=zdm hq2.held
    have T1:=S1.below hb2;have T2:=S2.below hb2;have b2:=zak b0 hb2 b0.size;have c5:=T1.c5;have f5:=T1.free 5
    have HQ:=Lib.hid hq2;clear hq2 hv hcs hb2 S1 S2 b0)
  |((with_reducible refine zaa (.tmp 1) w.heap.size (T1.set5 p2 q.length c2) ?_ ?_ ?_ ?_);rfl;rfl;rfl)
  |((with_reducible refine zat (k':=k) (b':=b) (n':=n) (t':=t) (x':=x) (p':=p2) (len':=q.length) (cap':=c2) (.tmp 2) (.tmp 7) (w.heap.size+1) (Six.only T2 (Only.refl w.heap.size _ |>.setCell 5 none _) (by omega)) ?_ ?_ ?_ ?_ ?_);rfl;rfl;rfl;rfl;intro w9 on9 S9))
 have on5:Only w.heap.size w2 (w2.setCell ⟨w.heap.size,5,none⟩ (.slice p2 q.length c2)):=(Only.refl w.heap.size w2).setCell 5 none _
 have s5:=on5.size
 have s9:=on9.size
 have b5:Below w.heap.size w (w2.setCell ⟨w.heap.size,5,none⟩ (.slice p2 q.length c2)):=zag b2 on5 (Nat.le_refl _) b2.size
 refine bodyPost_ret (zdg (p:=2) Tryz.results39 _ rfl S9) rfl ⟨p2,c2,rfl,?_,zag b5 on9 (by omega) b5.size⟩
 exact HQ.out.stays (P':=fun g=>w.heap.size < g∧g < w9.heap.size) (fun g hg=>⟨⟨by omega,by omega⟩,(on9.block g (by omega) (by omega)).trans (on5.block g (by omega) (by omega))⟩) q
theorem zu8 (l:List Val) (g off cap:Nat) (w:World) (hl:zar w g off l) (hn:l.length≤2097152) (each:∀ v∈l,zrf v):
 Calls Tryz.prog 72 #[.slice (some ⟨g,off,none⟩) l.length cap] w (zig w l):=by
 obtain ⟨n,hln⟩:∃ n,n=l.length:=⟨_,rfl⟩
 rw [← hln] at hn ⊢
 obtain ⟨i0,hi,hz0,hz1,hz2⟩:=info_parts zm9
 have HL:=Lib.hid hln
 have HH:=Lib.hid hl
 have HE:=Lib.hid each
 clear hl hln each
 go_enter Tryz.func72,Tryz.ntmps72
 go_wp2_with fail
 go_loopg [3,4] n (fun gg s3 s4 wr=>∃ j:Nat,j+gg=n∧s4=.int .i64 j∧Hid (Acc w (l.take j) s3 wr))
 case atStart=>exact ⟨0,by omega,rfl,Lib.hid ⟨⟨[],by simpa using World.ownsRow_nil w w.heap.size 39 6,by unfold za5;rfl⟩,Below.refl _ _⟩⟩
 case round=>
  obtain ⟨j,hjg,rfl,HA⟩:=hrel
  by_cases hlt:(j:Int) < n
  ·have hj1:j < l.length:=by have:=HL.out;omega
   obtain ⟨k,b,m,t,x,q,p,cp,o1⟩:=((zar.at_ l off HH.out j hj1).below _ HA.out.bel).opens
   have hcp:Calls Tryz.prog 39 #[.agg #[.int .i64 k,.bool b,.int .i64 m,.string t,.string x,.slice p q.length cp]] wr (zhd wr k b m t x q):=
    zmf k b m t x q p cp wr fun W h=>HE.out l[j] (List.getElem_mem hj1) W k b m t x q p cp o1.e o1.hf.hn (Held.below q o1.hl h)
   unfold zhd at hcp
   have HF:=Lib.hid o1.hf
   have HV:=Lib.hid o1.e
   have hjl:(l.take j).length=j:=by rw [List.length_take];omega
   have c0:=o1.c0
   have c1:=o1.c1
   have c2:=o1.c2
   have c3:=o1.c3
   have c4:=o1.c4
   have c5:=o1.c5
   clear o1
   go_wp2_with (first
    |((with_reducible refine zax (.tmp 14) g (off+j*6) k b m t x _ c0 c1 c2 c3 c4 c5 ?_ ?_ ?_ ?_);rfl;rfl;rfl)
    |(go_at_call 39;(with_reducible refine hcp.mono ?_);rintro e wf ⟨p5,k5,rfl,hq0,bf0⟩
      obtain ⟨⟨xs,hown,hcs⟩,hbel⟩:=HA.out
      have hownX:=zbf hown bf0
      have hbs:=hbel.size
      have hfs:=bf0.size
      have HX:=Lib.hid (And.intro hown (And.intro hcs (And.intro hbel (And.intro bf0 hq0))))
      clear hown hcs hbel bf0 hq0 HA c0 c1 c2 c3 c4 c5 hcp)
    |(at_builtin;refine wpList_append_own_at _ rfl _ _ 37 rfl w.heap.size 39 i0 (.agg #[.int .i64 0,.bool false,.int .i64 0,.string ⟨#[]⟩,.string ⟨#[]⟩,.slice none 0 0]) 6 80 Tryz.underlying37 hi hz0 hz1 hz2 rfl (by decide) _ _ _ rfl (hownX.alloc _) ⟨wf.heap.size,0,none⟩ 1 1 [.int .i64 k,.bool b,.int .i64 m,.string t,.string x,.slice p5 q.length k5] rfl rfl (zdf _ _ _ _ _ _ _ _) ?_ ?_ ?_ ?_ ?_))
   all_goals (try (first |(rw [hjl];unfold maxLen;omega) |(rw [hjl];omega) |(simp;omega) |(intro u hu;simp only [List.mem_cons,List.mem_nil_iff,or_false] at hu;rcases hu with rfl | rfl | rfl | rfl | rfl | rfl <;> rfl)))
   intro v' w1 hown' hgrow _ hloc
   have acc:=Acc.next (k:=k) (b:=b) (n:=m) (t:=t) (x:=x) (q:=q) rfl HX.out.1 HX.out.2.1 HX.out.2.2.1 HX.out.2.2.2.1 HF.out HX.out.2.2.2.2 (by rw [hjl];exact hown') hgrow hloc
   have e:l.take (j+1)=l.take j++[.mk k b m t x q]:=by rw [List.take_succ_eq_append_getElem hj1,HV.out]
   rw [← e] at acc
   have ACC:=Lib.hid acc
   clear acc hown' hgrow hloc hownX
   go_wp2_with fail
   go_roundg (gk - 1)
   case measure=>omega
   case rel=>exact ⟨j+1,by omega,by go_num,ACC⟩
  ·have e:l.take j=l:=by rw [List.take_of_length_le];have:=HL.out;omega
   have hA:=HA.out
   rw [e] at hA
   obtain ⟨⟨xs,hown,hcs⟩,hbel⟩:=hA
   have HX:=Lib.hid (And.intro hown (And.intro hcs hbel))
   clear hown hcs hbel HA
   go_wp2_with fail
   go_ret
   exact ⟨_,xs,rfl,HX.out.1,HX.out.2.1,HX.out.2.2⟩
theorem zs0 (q:List Val) (p:Option Addr) (cap:Nat) (w:World) (hl:Held w (.slice p q.length cap) q) (hn:q.length≤2097152) (each:∀ u∈q,zrf u):
 Calls Tryz.prog 72 #[.slice p q.length cap] w (zig w q):=by
 cases q with
 | nil=>
   go_enter Tryz.func72,Tryz.ntmps72
   go_wp2_with fail
   go_loopg [3,4] 0 (fun gg s3 s4 wr=>gg=0∧s4=.int .i64 0∧s3=.slice none 0 0∧wr=w)
   case atStart=>exact ⟨rfl,rfl,rfl,rfl⟩
   case round=>
    obtain ⟨_,rfl,rfl,rfl⟩:=hrel
    go_wp2_with fail
    go_ret
    exact ⟨_,[],rfl,World.ownsRow_nil _ _ 39 6,by unfold za5;rfl,Below.refl _ _⟩
 | cons v r=>
   obtain ⟨g,off,rfl,hh⟩:=hl.form
   exact zu8 (v::r) g off cap w hh hn each
mutual
theorem zrg:(v:Val)→zrf v
 | .mk k b n t x q=>fun W k1 b1 n1 t1 x1 q1 p cap e hn hl=>by
   cases e
   exact zs0 q p cap W hl hn (zo3 q)
theorem zo3:(q:List Val)→∀ u∈q,zrf u
 | [],_,h=>absurd h (by simp)
 | v::r,u,h=>by
   rcases List.mem_cons.1 h with h | h
   ·rw [h];exact zrg v
   ·exact zo3 r u h
end
theorem rcopyAt (k:Int) (b:Bool) (n:Int) (t x:ByteArray) (q:List Val) (p:Option Addr) (cap:Nat) (w:World) (hf:Fine n t x q.length) (hl:Held w (.slice p q.length cap) q):
 Calls Tryz.prog 39 #[.agg #[.int .i64 k,.bool b,.int .i64 n,.string t,.string x,.slice p q.length cap]] w (zhd w k b n t x q):=
 zmf k b n t x q p cap w fun W h=>zrg (.mk k b n t x q) W k b n t x q p cap rfl hf.hn (Held.below q hl h)
theorem zs1 {w w':World} {g:Nat} (h:w'.heap[g]?=w.heap[g]?) {o:Nat} {cs:List Value} (r:w.rangeAt g o cs):w'.rangeAt g o cs:=fun j v hv=>(World.cell?_of_block (a:=⟨g,o+j,none⟩) h).trans (r j v hv)
theorem zs2 {w w':World} {g:Nat} (h:w'.heap[g]?=w.heap[g]?) {o n:Nat} (r:w.there g o n):w'.there g o n:=fun j hj=>
 ⟨by rw [World.cell?_of_block (a:=⟨g,o+j,none⟩) h];exact (r j hj).1,by rw [World.frozen?_of_block (a:=⟨g,o+j,none⟩) h];exact (r j hj).2⟩
mutual
def OneT (w:World) (g off s e:Nat):Val→Prop
 | .mk k b n t x l=>∃ L,w.rangeAt g off [.int .i64 k,.bool b,.int .i64 n,.string t,.string x,L]∧w.there g off 6∧Fine n t x l.length∧zev w s e L l
def zev (w:World) (lo hi:Nat) (L:Value):List Val→Prop
 | []=>∃ p cap,L=.slice p 0 cap
 | v::r=>∃ g off cap s e,L=.slice (some ⟨g,off,none⟩) (r.length+1) cap∧lo≤g∧g < hi∧lo≤s∧s≤e∧e≤hi∧¬ (s≤g∧g < e)∧OneT w g off s e v∧zc3 w g (off+6) e hi r
def zc3 (w:World) (g off lo hi:Nat):List Val→Prop
 | []=>True
 | v::r=>∃ s e,lo≤s∧s≤e∧e≤hi∧¬ (s≤g∧g < e)∧OneT w g off s e v∧zc3 w g (off+6) e hi r
end
mutual
theorem OneT.held {w:World} {g off s e:Nat}:(v:Val)→OneT w g off s e v→zay w g off v
 | .mk k b n t x l,h=>by
   unfold OneT at h
   unfold zay
   obtain ⟨L,r,_,hf,hl⟩:=h
   exact ⟨r 0 _ rfl,r 1 _ rfl,r 2 _ rfl,r 3 _ rfl,r 4 _ rfl,hf,L,r 5 _ rfl,zev.held l hl⟩
theorem zev.held {w:World} {lo hi:Nat} {L:Value}:(l:List Val)→zev w lo hi L l→Held w L l
 | [],h=>by
   unfold zev at h
   unfold Held
   exact h
 | v::r,h=>by
   unfold zev at h
   unfold Held
   obtain ⟨g,off,cap,s,e,rfl,_,_,_,_,_,_,hv,hr⟩:=h
   exact ⟨g,off,cap,rfl,OneT.held v hv,zc3.held r hr⟩
theorem zc3.held {w:World} {g off lo hi:Nat}:(l:List Val)→zc3 w g off lo hi l→zar w g off l
 | [],_=>by unfold zar;trivial
 | v::r,h=>by
   unfold zc3 at h
   unfold zar
   obtain ⟨s,e,_,_,_,_,hv,hr⟩:=h
   exact ⟨OneT.held v hv,zc3.held r hr⟩
end
structure Keep (w w':World) (g off lo hi:Nat):Prop where
 rng:∀ o cs,off≤o→w.rangeAt g o cs→w'.rangeAt g o cs
 thr:∀ o n,off≤o→w.there g o n→w'.there g o n
 blk:∀ i,lo≤i→i < hi→i≠g→w'.heap[i]?=w.heap[i]?
theorem Keep.more {w w':World} {g off lo hi off2 lo2 hi2:Nat} (h:Keep w w' g off lo hi) (h1:off≤off2) (h2:lo≤lo2) (h3:hi2≤hi):Keep w w' g off2 lo2 hi2:=
 ⟨fun o cs ho=>h.rng o cs (by omega),fun o n ho=>h.thr o n (by omega),fun i a b c=>h.blk i (by omega) (by omega) c⟩
theorem Keep.heap {w w':World} {g off lo hi:Nat} (hg:w'.heap[g]?=w.heap[g]?) (h:∀ i,lo≤i→i < hi→w'.heap[i]?=w.heap[i]?):Keep w w' g off lo hi:=
 ⟨fun _ _ _ r=>zs1 hg r,fun _ _ _ r=>zs2 hg r,fun i a b _=>h i a b⟩
mutual
theorem OneT.keep {w w':World} {g off s e:Nat} (h:Keep w w' g off s e) (hn:¬ (s≤g∧g < e)):(v:Val)→OneT w g off s e v→OneT w' g off s e v
 | .mk k b n t x l,hv=>by
   unfold OneT at hv ⊢
   obtain ⟨L,r,th,hf,hl⟩:=hv
   exact ⟨L,h.rng _ _ (Nat.le_refl _) r,h.thr _ _ (Nat.le_refl _) th,hf,zev.stays (fun i a b=>h.blk i a b (fun q=>hn ⟨q ▸ a,q ▸ b⟩)) l hl⟩
theorem zev.stays {w w':World} {lo hi:Nat} {L:Value} (h:∀ i,lo≤i→i < hi→w'.heap[i]?=w.heap[i]?):(l:List Val)→zev w lo hi L l→zev w' lo hi L l
 | [],hl=>by
   unfold zev at hl ⊢
   exact hl
 | v::r,hl=>by
   unfold zev at hl ⊢
   obtain ⟨g,off,cap,s,e,rfl,h1,h2,h3,h4,h5,h6,hv,hr⟩:=hl
   have k:Keep w w' g off lo hi:=Keep.heap (h g h1 h2) h
   exact ⟨g,off,cap,s,e,rfl,h1,h2,h3,h4,h5,h6,OneT.keep (k.more (Nat.le_refl _) h3 h5) h6 v hv,zc3.keep (k.more (by omega) (by omega) (Nat.le_refl _)) r hr⟩
theorem zc3.keep {w w':World} {g off lo hi:Nat} (h:Keep w w' g off lo hi):(l:List Val)→zc3 w g off lo hi l→zc3 w' g off lo hi l
 | [],_=>by unfold zc3;trivial
 | v::r,hl=>by
   unfold zc3 at hl ⊢
   obtain ⟨s,e,h3,h4,h5,h6,hv,hr⟩:=hl
   exact ⟨s,e,h3,h4,h5,h6,OneT.keep (h.more (Nat.le_refl _) h3 h5) h6 v hv,zc3.keep (h.more (by omega) (by omega) (Nat.le_refl _)) r hr⟩
end
theorem zc3.high {w:World} {g:Nat}:(l:List Val)→(off lo hi hi2:Nat)→hi≤hi2→zc3 w g off lo hi l→zc3 w g off lo hi2 l
 | [],_,_,_,_,_,_=>by unfold zc3;trivial
 | v::r,off,lo,hi,hi2,h,hl=>by
   unfold zc3 at hl ⊢
   obtain ⟨s,e,h3,h4,h5,h6,hv,hr⟩:=hl
   exact ⟨s,e,h3,h4,by omega,h6,hv,zc3.high r _ _ _ _ h hr⟩
theorem zev.mk {w:World} {lo hi:Nat} {g off cap:Nat} {l:List Val} (h1:lo≤g) (h2:g < hi) (h:zc3 w g off lo hi l):zev w lo hi (.slice (some ⟨g,off,none⟩) l.length cap) l:=by
 cases l with
 | nil=>unfold zev;exact ⟨_,_,rfl⟩
 | cons v r=>
   unfold zc3 at h
   unfold zev
   obtain ⟨s,e,h3,h4,h5,h6,hv,hr⟩:=h
   exact ⟨g,off,cap,s,e,rfl,h1,h2,h3,h4,h5,h6,hv,hr⟩
def zcs (w:World) (own:Option Nat) (lo hi:Nat):List Value→List Val→Prop
 | xs,[]=>xs=[]
 | xs,.mk k b n t x q::r=>∃ L ys s e,xs=.int .i64 k::.bool b::.int .i64 n::.string t::.string x::L::ys∧Fine n t x q.length∧lo≤s∧s≤e∧e≤hi∧(∀ g,own=some g→¬ (s≤g∧g < e))∧zev w s e L q∧zcs w own e hi ys r
theorem zcs.stays {w w':World} {own:Option Nat} {hi:Nat}:(l:List Val)→(lo:Nat)→{xs:List Value}→(∀ i,lo≤i→i < hi→own≠some i→w'.heap[i]?=w.heap[i]?)→zcs w own lo hi xs l→zcs w' own lo hi xs l
 | [],_,_,_,h=>by unfold zcs at h ⊢;exact h
 | .mk k b n t x q::l,lo,_,hs,h=>by
   unfold zcs at h ⊢
   obtain ⟨L,ys,s,e,rfl,hf,g1,g2,g3,g4,hq,hr⟩:=h
   exact ⟨L,ys,s,e,rfl,hf,g1,g2,g3,g4,hq.stays (fun i a b=>hs i (by omega) (by omega) (fun o=>g4 i o ⟨a,b⟩)) q,zcs.stays l e (fun i a b=>hs i (by omega) b) hr⟩
theorem zcs.high {w:World} {own:Option Nat} {hi hi2:Nat} (h2:hi≤hi2):(l:List Val)→(lo:Nat)→{xs:List Value}→zcs w own lo hi xs l→zcs w own lo hi2 xs l
 | [],_,_,h=>by unfold zcs at h ⊢;exact h
 | .mk k b n t x q::l,lo,_,h=>by
   unfold zcs at h ⊢
   obtain ⟨L,ys,s,e,rfl,hf,g1,g2,g3,g4,hq,hr⟩:=h
   exact ⟨L,ys,s,e,rfl,hf,g1,g2,by omega,g4,hq,zcs.high h2 l e hr⟩
theorem zcs.rest {w:World} {g hi:Nat}:(l:List Val)→(off lo:Nat)→{xs:List Value}→zcs w (some g) lo hi xs l→w.rangeAt g off xs→w.there g off (l.length*6)→zc3 w g off lo hi l
 | [],_,_,_,_,_,_=>by unfold zc3;trivial
 | .mk k b n t x q::l,off,lo,_,h,hr,ht=>by
   unfold zcs at h
   obtain ⟨L,ys,s,e,rfl,hf,g1,g2,g3,g4,hq,hl⟩:=h
   unfold zc3
   refine ⟨s,e,g1,g2,g3,g4 g rfl,?_,zcs.rest l (off+6) e hl (fun j v hv=>?_) (fun j hj=>?_)⟩
   ·unfold OneT
    refine ⟨L,fun j v hv=>hr j v ?_,fun j hj=>ht j (by simp only [List.length_cons];omega),hf,hq⟩
    match j,hv with
    | 0,hv=>exact hv
    | 1,hv=>exact hv
    | 2,hv=>exact hv
    | 3,hv=>exact hv
    | 4,hv=>exact hv
    | 5,hv=>exact hv
    | j+6,hv=>simp at hv
   ·have:=hr (j+6) v hv
    rwa [show off+(j+6)=off+6+j by omega] at this
   ·have:=ht (j+6) (by simp only [List.length_cons];omega)
    rwa [show off+(j+6)=off+6+j by omega] at this
structure AccT (w:World) (l:List Val) (A:Value) (wr:World):Prop where
 own:∃ xs hi,wr.ownsRow w.heap.size 39 6 A l.length xs∧zcs wr A.ownBlock w.heap.size hi xs l∧w.heap.size≤hi∧hi≤wr.heap.size
 bel:Below w.heap.size w wr
end Go.Proofs.YtanbgdhmfjgihaaGreatDoor
