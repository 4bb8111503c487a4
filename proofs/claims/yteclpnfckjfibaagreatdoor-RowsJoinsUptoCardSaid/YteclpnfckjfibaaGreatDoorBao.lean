/- Texts of one kind, one behind the other: each says ahead of itself what it shows. -/
import Derived.Test.YteclpnfckjfibaaGreatDoorBac
import Derived.BigGuardPart
import Derived.Deep.DeepCutAuto
import Derived.WalkKit
import Derived.OwnWalk
import Derived.Deep.QuietTactic
import Derived.BigQuiet
import Derived.Laws.AppendOwnNone
/- DMa -/
namespace Go.Proofs.YteclpnfckjfibaaGreatDoor
open Go.RowKit
set_option maxHeartbeats 1600000 in
theorem zzq (s:ByteArray) (w:World) (hs:s.size≤maxLen):
 Calls Tryz.prog 155 #[.string s] w fun e w'=>e=.returned (.bool (zco s))∧w=w':=by
 unfold maxLen at hs
 by_cases h0:s.size=0
 ·have hv:zco s=false:=by
   unfold zco
   rw [decide_eq_false_iff_not]
   omega
  rw [hv]
  go_enter Tryz.func155,Tryz.ntmps155
  go_wp2_with fail
  go_ret
  exact ⟨rfl,rfl⟩
 ·by_cases hbig:(1048576:Int) < s.size
  ·have hv:zco s=false:=by
    unfold zco
    rw [decide_eq_false_iff_not]
    omega
   have h1:¬ (s.size:Int) < 1:=by omega
   rw [hv]
   go_enter Tryz.func155,Tryz.ntmps155
   go_wp2_with fail
   go_ret
   exact ⟨rfl,rfl⟩
  ·have h1:¬ (s.size:Int) < 1:=by omega
   go_enter Tryz.func155,Tryz.ntmps155
   go_wp2_with fail
   go_loop [3] (fun i=>∃ k:Nat,k≤s.size∧i=.int .i64 k∧∀ j (h:j < s.size),j < k→zga s[j]=true) (fun i=>s.size - (intOf i).toNat)
   case atStart=>exact ⟨0,Nat.zero_le _,rfl,fun j _ h=>absurd h (by omega)⟩
   case round=>
    obtain ⟨k,hk,rfl,hall⟩:=hrel
    have HA:=Lib.hid hall
    clear hall
    by_cases hlt:k < s.size
    ·by_cases h1:(s[k].toNat:Int)≤32
     ·go_wp2_with fail
      go_ret
      exact ⟨by rw [zhg hlt (by simp [zga];omega)];rfl,rfl⟩
     ·by_cases h2:(s[k].toNat:Int)=60
      ·go_wp2_with fail
       go_ret
       exact ⟨by rw [zhg hlt (by simp [zga];omega)];rfl,rfl⟩
      ·by_cases h3:(s[k].toNat:Int)=62
       ·go_wp2_with fail
        go_ret
        exact ⟨by rw [zhg hlt (by simp [zga];omega)];rfl,rfl⟩
       ·go_wp2_with fail
        go_round
        case rel=>exact ⟨k+1,by omega,by go_num,ze6 (p:=fun _=>zga) hlt HA.out (by simp [zga];omega)⟩
        case measure=>simp [intOf];omega
    ·go_wp2_with fail
     go_ret
     have hv:zco s=true:=by
      unfold zco
      rw [decide_eq_true_eq]
      exact ⟨by omega,by omega,fun j hj=>HA.out j hj (by omega)⟩
     exact ⟨by rw [hv];rfl,rfl⟩
set_option maxHeartbeats 3200000 in
theorem zvi (s:ByteArray) (w:World) (hs:s.size≤maxLen):
 Calls Tryz.prog 61 #[.string s] w fun e w'=>e=.returned (.bool (zca s))∧w=w':=by
 unfold maxLen at hs
 by_cases h0:s.size=0
 ·have hv:zca s=false:=by
   unfold zca
   rw [decide_eq_false_iff_not]
   omega
  rw [hv]
  go_enter Tryz.func61,Tryz.ntmps61
  go_wp2_with fail
  go_ret
  exact ⟨rfl,rfl⟩
 have hpos:0 < s.size:=by omega
 have hlow:¬ (s.size:Int) < 1:=by omega
 by_cases hbig:(64:Int) < s.size
 ·have hv:zca s=false:=by
   unfold zca
   rw [decide_eq_false_iff_not]
   omega
  rw [hv]
  go_enter Tryz.func61,Tryz.ntmps61
  go_wp2_with fail
  go_ret
  exact ⟨rfl,rfl⟩
 by_cases hd:(48:Int)≤s[0].toNat∧(s[0].toNat:Int)≤57
 ·have hv:zca s=false:=zfw hpos (by simp [zd1,zdb];omega)
  rw [hv]
  obtain ⟨d1,d2⟩:=hd
  go_enter Tryz.func61,Tryz.ntmps61
  go_wp2_with fail
  go_ret
  exact ⟨rfl,rfl⟩
 have HD:=Lib.hid hd
 have hdd:¬ (48:Int)≤s[0].toNat∨¬ (s[0].toNat:Int)≤57:=by omega
 clear hd
 rcases hdd with hdd | hdd
 all_goals
  go_enter Tryz.func61,Tryz.ntmps61
  go_wp2_with fail
  all_goals
   go_loop [3] (fun i=>∃ k:Nat,k≤s.size∧i=.int .i64 k∧∀ j (h:j < s.size),j < k→zd1 j s[j]=true) (fun i=>s.size - (intOf i).toNat)
   case atStart=>exact ⟨0,Nat.zero_le _,rfl,fun j _ h=>absurd h (by omega)⟩
   case round=>
    clear hdd
    obtain ⟨k,hk,rfl,hall⟩:=hrel
    have HA:=Lib.hid hall
    clear hall
    by_cases hlt:k < s.size
    ·by_cases a1:(97:Int)≤s[k].toNat
     ·by_cases a2:(s[k].toNat:Int)≤122
      ·go_wp2_with fail
       go_round
       case rel=>exact ⟨k+1,by omega,by go_num,ze6 (p:=zd1) hlt HA.out (by simp [zd1,zdb];omega)⟩
       case measure=>simp [intOf];omega
      ·have a3:(65:Int)≤s[k].toNat:=by omega
       have a4:¬ (s[k].toNat:Int)≤90:=by omega
       have a5:(48:Int)≤s[k].toNat:=by omega
       have a6:¬ (s[k].toNat:Int)≤57:=by omega
       have a7:¬ (s[k].toNat:Int)=95:=by omega
       have e7:((s[k].toNat:Int) == 95)=false:=by simpa using a7
       go_wp2_with fail
       go_ret
       exact ⟨by rw [zfw hlt (by simp [zd1,zdb,ze5];omega)];rfl,rfl⟩
     ·by_cases a3:(65:Int)≤s[k].toNat
      ·by_cases a4:(s[k].toNat:Int)≤90
       ·go_wp2_with fail
        go_round
        case rel=>exact ⟨k+1,by omega,by go_num,ze6 (p:=zd1) hlt HA.out (by simp [zd1,zdb];omega)⟩
        case measure=>simp [intOf];omega
       ·have a5:(48:Int)≤s[k].toNat:=by omega
        have a6:¬ (s[k].toNat:Int)≤57:=by omega
        by_cases a7:(s[k].toNat:Int)=95
        ·have e7:((s[k].toNat:Int) == 95)=true:=by simpa using a7
         go_wp2_with fail
         go_round
         case rel=>exact ⟨k+1,by omega,by go_num,ze6 (p:=zd1) hlt HA.out (by simp [zd1,zdb];omega)⟩
         case measure=>simp [intOf];omega
        ·have e7:((s[k].toNat:Int) == 95)=false:=by simpa using a7
         go_wp2_with fail
         go_ret
         exact ⟨by rw [zfw hlt (by simp [zd1,zdb,ze5];omega)];rfl,rfl⟩
      ·by_cases a5:(48:Int)≤s[k].toNat
       ·by_cases a6:(s[k].toNat:Int)≤57
        ·have hk0:k≠0:=by
          rintro rfl
          exact HD.out ⟨a5,a6⟩
         go_wp2_with fail
         go_round
         case rel=>exact ⟨k+1,by omega,by go_num,ze6 (p:=zd1) hlt HA.out (by simp [zd1,ze5,hk0];omega)⟩
         case measure=>simp [intOf];omega
        ·have a7:¬ (s[k].toNat:Int)=95:=by omega
         have e7:((s[k].toNat:Int) == 95)=false:=by simpa using a7
         go_wp2_with fail
         go_ret
         exact ⟨by rw [zfw hlt (by simp [zd1,zdb,ze5];omega)];rfl,rfl⟩
       ·have a7:¬ (s[k].toNat:Int)=95:=by omega
        have e7:((s[k].toNat:Int) == 95)=false:=by simpa using a7
        go_wp2_with fail
        go_ret
        exact ⟨by rw [zfw hlt (by simp [zd1,zdb,ze5];omega)];rfl,rfl⟩
    ·go_wp2_with fail
     go_ret
     have hv:zca s=true:=by
      unfold zca
      rw [decide_eq_true_eq]
      exact ⟨hpos,by omega,fun j hj=>HA.out j hj (by omega)⟩
     exact ⟨by rw [hv];rfl,rfl⟩
end Go.Proofs.YteclpnfckjfibaaGreatDoor

/- DDC1 -/
namespace Go.Proofs.YteclpnfckjfibaaGreatDoor
open Go.RowKit
end Go.Proofs.YteclpnfckjfibaaGreatDoor

/- DDC0 -/
namespace Go.Proofs.YteclpnfckjfibaaGreatDoor
open Go.RowKit
def Strs (w:World) (b off n:Nat) (S:Nat→ByteArray):Prop:=∀ i,i < n→w.cell? ⟨b,off+i,none⟩=some (.string (S i))
theorem Strs.below {w w':World} {b off n:Nat} {S:Nat→ByteArray} (h:Strs w b off n S) (k:Below w.heap.size w w'):Strs w' b off n S:=fun i hi=>
 (k.cell (p:=⟨b,off+i,none⟩) (World.block_lt_of_cell? w _ (h i hi))).trans (h i hi)
theorem chk_len {l:List UInt8} (h:chk l=true):l.length≤62:=by
 obtain ⟨n,a,b,hsp,ha,hb,la,lb,hw,_⟩:=zt6 l h
 unfold wr at hw
 simp only at hw
 split at hw
 ·cases hw
 ·rename_i hl
  have h1:(orN (Lib.trimLeftB a 48)).length≤40:=zm0 (by omega) (by omega)
  have h2:(orN (Lib.trimRightB b 48)).length≤20:=zm0 (by omega) (by omega)
  rw [← Option.some.inj hw]
  simp only [List.length_append,List.length_cons]
  split <;> simp <;> omega
structure Inv (w:World) (b off n cap:Nat) (S:Nat→ByteArray) (wr:World):Prop where
 cell:wr.cell? ⟨w.heap.size,0,none⟩=some (.slice (some ⟨b,off,none⟩) n cap)
 lt:w.heap.size < wr.heap.size
 bel:Low w.heap.size w wr
 g:Gd wr
 t:Tab wr
 s:Strs wr b off n S
end Go.Proofs.YteclpnfckjfibaaGreatDoor

/- DDU1 -/
namespace Go.Proofs.YteclpnfckjfibaaGreatDoor
open Go.RowKit
def vT:Nat→(Nat→Nat)→Nat
 | 0,_=>0
 | n+1,f=>vT n f+f n*10 ^ n
theorem vT_lt (f:Nat→Nat) (h:∀ j,f j≤9):∀ n,vT n f < 10 ^ n
 | 0=>by simp [vT]
 | n+1=>by
   have:=vT_lt f h n
   have h2:f n*10 ^ n≤9*10 ^ n:=Nat.mul_le_mul_right _ (h n)
   show vT n f+f n*10 ^ n < 10 ^ (n+1)
   rw [Nat.pow_succ];omega
theorem vT_eq (f g:Nat→Nat):∀ n,(∀ j,j < n→f j=g j)→vT n f=vT n g
 | 0,_=>rfl
 | n+1,h=>by
   show vT n f+f n*10 ^ n=vT n g+g n*10 ^ n
   rw [vT_eq f g n (fun j hj=>h j (by omega)),h n (by omega)]
theorem zzr (f:Nat→Nat) (n:Nat) (h:∀ j,n≤j→f j=0):∀ m,n≤m→vT m f=vT n f
 | 0,hm=>by rw [Nat.le_zero.1 hm]
 | m+1,hm=>by
   by_cases e:n=m+1
   ·rw [e]
   ·show vT m f+f m*10 ^ m=_
    rw [zzr f n h m (by omega),h m (by omega)];simp
def dig (ds:List Nat) (j:Nat):Nat:=ds.getD j 0
theorem zhj {ds:List Nat} {j:Nat} (h:ds.length≤j):dig ds j=0:=by simp [dig,List.getD,h]
def zdi (ds:List Nat):Nat:=vT ds.length (dig ds)
def zd7 (ds:List Nat):Prop:=∀ j,dig ds j≤9
theorem zgz (ds:List Nat) {m:Nat} (h:ds.length≤m):vT m (dig ds)=zdi ds:=zzr _ _ (fun _ hj=>zhj hj) m h
def Ints (w:World) (v:Value) (ds:List Nat):Prop:=
 (v=.slice none 0 0∧ds=[])∨∃ b off cap,v=.slice (some ⟨b,off,none⟩) ds.length cap∧(∀ i,i < ds.length→w.cell? ⟨b,off+i,none⟩=some (.int .i64 (dig ds i)))∧∃ cs,w.heap[b]?=some (.cells cs 3 (0,0))
theorem Ints.below {w w':World} {v:Value} {ds:List Nat} (h:Ints w v ds) (k:Below w.heap.size w w'):Ints w' v ds:=by
 rcases h with h | ⟨b,off,cap,e,hc,cs,hk⟩
 ·exact .inl h
 ·exact .inr ⟨b,off,cap,e,fun i hi=>(k.cell (p:=⟨b,off+i,none⟩) (World.block_lt_of_cell? w _ (hc i hi))).trans (hc i hi),cs,(k.block b (zaa hk)).trans hk⟩
theorem Ints.only {w w':World} {v:Value} {ds:List Nat} {g:Nat} {cs:Array Value} {t:TypeId} (h:Ints w v ds) (k:Only g w w') (hg:w.heap[g]?=some (.cells cs t (0,0))) (ht:t≠3):Ints w' v ds:=by
 rcases h with h | ⟨b,off,cap,e,hc,cs2,hk⟩
 ·exact .inl h
 ·have hne:b≠g:=fun x=>by
   rw [x,hg] at hk
   injection hk with hk
   injection hk with _ h2 _
   exact ht h2
  have hb:=(k.block b (zaa hk) hne)
  exact .inr ⟨b,off,cap,e,fun i hi=>(World.cell?_of_block (w:=w) (a:=⟨b,off+i,none⟩) hb).trans (hc i hi),cs2,hb.trans hk⟩
theorem zmf (c:Nat) (w:World) (hc:c < 256):Calls Tryz.prog 247 #[.int .u8 c] w fun e w'=>e=.returned (.bool (decide (48≤c∧c≤57)))∧w=w':=by
 by_cases h1:(48:Int)≤c
 ·by_cases h2:(c:Int)≤57
  ·have:decide (48≤c∧c≤57)=true:=by simp;omega
   rw [this]
   go_enter Tryz.func247,Tryz.ntmps247
   go_wp2
   go_ret
   exact ⟨rfl,rfl⟩
  ·have:decide (48≤c∧c≤57)=false:=by simp;omega
   rw [this]
   go_enter Tryz.func247,Tryz.ntmps247
   go_wp2
   go_ret
   exact ⟨by simp,rfl⟩
 ·have:decide (48≤c∧c≤57)=false:=by simp;omega
  rw [this]
  go_enter Tryz.func247,Tryz.ntmps247
  go_wp2
  go_ret
  exact ⟨by simp,rfl⟩
def dgI (ds:List Nat) (i:Int):Nat:=if i < 0 then 0 else dig ds i.toNat
theorem refAt (v:Value) (ds:List Nat) (i:Int) (w:World) (h:Ints w v ds):Calls Tryz.prog 248 #[v,.int .i64 i] w fun e w'=>e=.returned (.int .i64 (dgI ds i))∧w=w':=by
 unfold dgI
 by_cases h0:i < 0
 ·rw [if_pos h0]
  rcases h with ⟨rfl,rfl⟩ | ⟨b,off,cap,rfl,hc,hty⟩
  ·go_enter Tryz.func248,Tryz.ntmps248
   go_wp2
   go_ret
   exact ⟨rfl,rfl⟩
  ·clear hc
   go_enter Tryz.func248,Tryz.ntmps248
   go_wp2
   go_ret
   exact ⟨rfl,rfl⟩
 ·rw [if_neg h0]
  obtain ⟨k,rfl⟩:=Int.eq_ofNat_of_zero_le (Int.not_lt.1 h0)
  rw [show ((k:Int)).toNat=k by omega]
  rcases h with ⟨rfl,rfl⟩ | ⟨b,off,cap,rfl,hc,hty⟩
  ·rw [zhj (by simp)]
   have hk:(k:Int) ≥ 0:=by omega
   go_enter Tryz.func248,Tryz.ntmps248
   go_wp2
   go_ret
   exact ⟨rfl,rfl⟩
  ·by_cases hl:(ds.length:Int)≤k
   ·rw [zhj (by omega)]
    clear hc
    generalize ds.length=n at*
    go_enter Tryz.func248,Tryz.ntmps248
    go_wp2
    go_ret
    exact ⟨rfl,rfl⟩
   ·have c1:=hc k (by omega)
    clear hc
    generalize dig ds k=x at*
    generalize ds.length=n at*
    go_enter Tryz.func248,Tryz.ntmps248
    go_wp2
    go_ret
    exact ⟨rfl,rfl⟩
end Go.Proofs.YteclpnfckjfibaaGreatDoor

/- DDU2 -/
namespace Go.Proofs.YteclpnfckjfibaaGreatDoor
open Go.RowKit
theorem zs7 (ds:List Nat):zdi ds=0↔∀ j,j < ds.length→dig ds j=0:=by
 unfold zdi
 generalize dig ds=f
 generalize ds.length=n
 induction n with
 | zero=>simp [vT]
 | succ n ih=>
   show vT n f+f n*10 ^ n=0↔_
   have hp:0 < 10 ^ n:=Nat.pow_pos (show 0 < 10 by decide)
   constructor
   ·intro h j hj
    have h1:vT n f=0:=by omega
    have h2:f n*10 ^ n=0:=by omega
    rcases Nat.lt_or_ge j n with h3 | h3
    ·exact ih.1 h1 j h3
    ·obtain rfl:j=n:=by omega
     rcases Nat.mul_eq_zero.1 h2 with h4 | h4
     ·exact h4
     ·omega
   ·intro h
    rw [ih.2 (fun j hj=>h j (by omega)),h n (by omega)];simp
set_option maxHeartbeats 800000 in
theorem zvj (v:Value) (ds:List Nat) (w:World) (h:Ints w v ds) (hn:ds.length≤9223372036854775807) (d:Bool) (hd:d=decide (zdi ds=0)):Calls Tryz.prog 215 #[v] w fun e w'=>e=.returned (.bool d)∧w=w':=by
 rcases h with ⟨rfl,rfl⟩ | ⟨b,off,cap,rfl,hc,hty⟩
 ·obtain rfl:d=true:=by rw [hd];rfl
  clear hd
  go_enter Tryz.func215,Tryz.ntmps215
  go_wp2_with fail
  go_loopg [3] 0 (fun gg s3 wr=>gg=0∧s3=.int .i64 0∧wr=w)
  case atStart=>exact ⟨rfl,rfl,rfl⟩
  case round=>
   obtain ⟨_,rfl,rfl⟩:=hrel
   go_wp2
   go_ret
   exact ⟨rfl,rfl⟩
 ·have hz:=zs7 ds
  have HZ:=Lib.hid hz
  have HD:=Lib.hid hd
  clear hz hd
  go_enter Tryz.func215,Tryz.ntmps215
  go_wp2_with fail
  go_loopg [3] ds.length (fun gg s3 wr=>∃ i:Nat,i+gg=ds.length∧s3=.int .i64 i∧wr=w∧Aside (∀ j,j < i→dig ds j=0))
  case atStart=>exact ⟨0,by omega,rfl,rfl,fun j hj=>absurd hj (Nat.not_lt_zero j)⟩
  case round=>
   obtain ⟨i,hi,rfl,rfl,hall⟩:=hrel
   have HA:=Lib.hid hall.out
   clear hall
   by_cases hlt:(i:Int) < ds.length
   ·have c1:=hc i (by omega)
    by_cases hx:dig ds i=0
    ·rw [hx] at c1
     have hall2:∀ j,j < i+1→dig ds j=0:=fun j hj=>by
      rcases Nat.lt_or_ge j i with h3 | h3
      ·exact HA.out j h3
      ·rw [show j=i by omega];exact hx
     have HA2:=Lib.hid hall2
     clear hall2 HA hc hx
     generalize ds.length=n at*
     go_wp2_with fail
     go_roundg (gk - 1)
     case measure=>omega
     case rel=>exact ⟨i+1,by omega,by go_num,rfl,HA2.out⟩
    ·obtain rfl:d=false:=by
      rw [HD.out]
      have:=mt HZ.out.1 (fun h=>hx (h i (by omega)))
      simp [this]
     have hx1:¬ (dig ds i:Int)=0:=by omega
     clear hc HA hx HD HZ
     generalize dig ds i=x at*
     generalize ds.length=n at*
     go_wp2_with fail
     go_ret
     exact ⟨rfl,rfl⟩
   ·obtain rfl:d=true:=by
     rw [HD.out]
     have:=HZ.out.2 (fun j hj=>HA.out j (by omega))
     simp [this]
    clear hc HA HD HZ
    generalize ds.length=n at*
    go_wp2_with fail
    go_ret
    exact ⟨rfl,rfl⟩
end Go.Proofs.YteclpnfckjfibaaGreatDoor

/- DDU3 -/
namespace Go.Proofs.YteclpnfckjfibaaGreatDoor
open Go.RowKit
theorem dgI_nat (ds:List Nat) (k:Nat):dgI ds k=dig ds k:=by unfold dgI;rw [if_neg (by omega)];congr 1
theorem zru (v:Value) (ds:List Nat) (k:Nat) (x:Nat) (w:World) (h:Ints w v ds) (hx:Hid (x=dig ds k)):Calls Tryz.prog 248 #[v,.int .i64 k] w fun e w'=>e=.returned (.int .i64 x)∧w=w':=
 (refAt v ds k w h).mono fun _ _ ⟨h1,h2⟩=>⟨by rw [h1,dgI_nat,hx.out],h2⟩
theorem Ints.form {w:World} {v:Value} {ds:List Nat} (h:Ints w v ds):∃ p cap,v=.slice p ds.length cap:=by
 rcases h with ⟨rfl,rfl⟩ | ⟨b,off,cap,rfl,_,_⟩
 ·exact ⟨_,_,rfl⟩
 ·exact ⟨_,_,rfl⟩
end Go.Proofs.YteclpnfckjfibaaGreatDoor

/- DDU4 -/
namespace Go.Proofs.YteclpnfckjfibaaGreatDoor
open Go.RowKit
theorem info3:(Tryz.prog.info? 3).map (fun i=>(i.zero,i.size,i.bytes))=some (some (.int .i64 0),1,8):=by kernel_rfl
def zcj (ds:List Nat):List Value:=ds.map fun (d:Nat)=>Value.int .i64 (d:Int)
theorem zmg {ds:List Nat} {d j:Nat} (h:j < ds.length):dig (ds++[d]) j=dig ds j:=by
 simp [dig,List.getD,List.getElem?_append_left h]
theorem zmh (ds:List Nat) (d:Nat):dig (ds++[d]) ds.length=d:=by
 simp [dig,List.getD]
theorem zvk {ds:List Nat} {d:Nat} (h:zd7 ds) (hd:d≤9):zd7 (ds++[d]):=by
 intro j
 rcases Nat.lt_trichotomy j ds.length with k | k | k
 ·rw [zmg k];exact h j
 ·rw [k,zmh];exact hd
 ·rw [zhj (by simp;omega)];omega
theorem vT_app (ds:List Nat) (d:Nat):vT (ds.length+1) (dig (ds++[d]))=vT ds.length (dig ds)+d*10 ^ ds.length:=by
 show vT ds.length (dig (ds++[d]))+dig (ds++[d]) ds.length*10 ^ ds.length=_
 rw [vT_eq (dig (ds++[d])) (dig ds) ds.length (fun j hj=>zmg hj),zmh]
theorem zh4 {w:World} {base n:Nat} {v:Value} {ds:List Nat} (h:w.ownsRow base 3 1 v n (zcj ds)) (hn:n=ds.length):Ints w v ds:=by
 subst hn
 rcases h.2 with ⟨e,h0⟩ | ⟨g,cap,cur,e,_,hk,_⟩
 ·exact .inl ⟨e,List.length_eq_zero_iff.1 h0⟩
 ·refine .inr ⟨g,0,cap,e,fun i hi=>?_,cur,hk⟩
  subst e
  have:=h.cellAt i (by omega)
  rw [Nat.zero_add,this]
  unfold zcj dig
  rw [List.getElem?_map,List.getElem?_eq_getElem hi]
  simp [List.getD,hi]
structure Added (xs ys:List Nat) (i c:Nat) (zs:List Nat):Prop where
 len:zs.length=i
 small:zd7 zs
 car:c≤1
 val:vT i (dig zs)+c*10 ^ i=vT i (dig xs)+vT i (dig ys)
 done:xs.length < i→ys.length < i→c=0
theorem Added.all {xs ys zs:List Nat} {i:Nat} (h:Added xs ys i 0 zs) (hx:xs.length≤i) (hy:ys.length≤i):zdi zs=zdi xs+zdi ys:=by
 have v:=h.val
 rw [zgz xs hx,zgz ys hy] at v
 unfold zdi
 rw [h.len]
 unfold zdi at v
 omega
end Go.Proofs.YteclpnfckjfibaaGreatDoor

/- DDU5 -/
namespace Go.Proofs.YteclpnfckjfibaaGreatDoor
open Go.RowKit
theorem zzs (f:Nat→Nat) (n:Nat):∀ m,n≤m→vT m f < 10 ^ n→vT m f=vT n f
 | 0,h,_=>by rw [Nat.le_zero.1 h]
 | m+1,h,k=>by
   by_cases e:n=m+1
   ·rw [e]
   ·have h1:10 ^ n≤10 ^ m:=Nat.pow_le_pow_right (by omega) (by omega)
    have k':vT m f+f m*10 ^ m < 10 ^ n:=k
    have h2:f m=0:=by
     rcases Nat.eq_zero_or_pos (f m) with z | z
     ·exact z
     ·have:1*10 ^ m≤f m*10 ^ m:=Nat.mul_le_mul_right _ z
      omega
    have e2:vT (m+1) f=vT m f:=by show vT m f+f m*10 ^ m=_;rw [h2];simp
    rw [e2]
    exact zzs f n m (by omega) (by rw [e2] at k;exact k)
structure Taken (xs ys:List Nat) (i c:Nat) (zs:List Nat):Prop where
 len:zs.length=i
 small:zd7 zs
 car:c≤1
 val:vT i (dig zs)+vT i (dig ys)=vT i (dig xs)+c*10 ^ i
theorem Taken.all {xs ys zs:List Nat} {c:Nat} (h:Taken xs ys xs.length c zs) (hx:zd7 xs) (hy:zd7 ys) (hle:zdi ys≤zdi xs):zdi zs+zdi ys=zdi xs:=by
 have v:=h.val
 have lx:vT xs.length (dig xs) < 10 ^ xs.length:=vT_lt _ hx _
 have lz:vT xs.length (dig zs) < 10 ^ xs.length:=vT_lt _ h.small _
 have ez:zdi zs=vT xs.length (dig zs):=by unfold zdi;rw [h.len]
 have ex:zdi xs=vT xs.length (dig xs):=rfl
 have ey:zdi ys=vT xs.length (dig ys):=by
  have e:=zgz ys (m:=xs.length+ys.length) (by omega)
  rw [← e]
  exact zzs _ _ _ (by omega) (by rw [e];omega)
 have hc:=h.car
 have h0:c=0:=by
  rcases Nat.eq_zero_or_pos c with z | z
  ·exact z
  ·obtain rfl:c=1:=by omega
   rw [Nat.one_mul] at v
   omega
 subst h0
 rw [ez,ex,ey]
 omega
end Go.Proofs.YteclpnfckjfibaaGreatDoor

/- DDU6 -/
namespace Go.Proofs.YteclpnfckjfibaaGreatDoor
open Go.RowKit
def numR (neg:Bool) (v:Value) (sc:Nat):Value:=.agg #[.bool neg,v,.int .i64 sc]
theorem zx1 (a b:List Nat):zcj (a++b)=zcj a++zcj b:=by simp [zcj]
end Go.Proofs.YteclpnfckjfibaaGreatDoor

/- DDU7 -/
namespace Go.Proofs.YteclpnfckjfibaaGreatDoor
theorem zqu (x t:List UInt8) (h:x.all zbj=true):Lib.cut (x++t) [46]=(x++(Lib.cut t [46]).1,(Lib.cut t [46]).2.1,(Lib.cut t [46]).2.2):=by
 induction x with
 | nil=>rfl
 | cons c r ih=>
   rw [List.all_cons,Bool.and_eq_true] at h
   have hc:c≠46:=fun e=>by rw [e] at h;exact absurd h.1 (by decide)
   rw [List.cons_append,zmx c _ hc,ih h.2]
   rfl
def okP (r:List UInt8):Bool:=digs (Lib.cut r [46]).1 && (!(Lib.cut r [46]).2.2 || digs (Lib.cut r [46]).2.1)
theorem zvl (l:List UInt8):zd0 l=if okP (sgn l).2 then some ((sgn l).1,(Lib.cut (sgn l).2 [46]).1,(Lib.cut (sgn l).2 [46]).2.1) else none:=rfl
def Seen (t:List UInt8) (p:Int):Prop:=
 (p=-1∧t.all zbj=true)∨∃ x y,t=x++46::y∧p=x.length∧x.all zbj=true∧y.all zbj=true
theorem Seen.start:Seen [] (-1):=.inl ⟨rfl,rfl⟩
theorem Seen.digit {t:List UInt8} {p:Int} {c:UInt8} (h:Seen t p) (hc:zbj c=true):Seen (t++[c]) p:=by
 rcases h with ⟨e,h⟩ | ⟨x,y,e,hp,hx,hy⟩
 ·exact .inl ⟨e,by rw [List.all_append,h];simp [hc]⟩
 ·exact .inr ⟨x,y++[c],by rw [e];simp,hp,hx,by rw [List.all_append,hy];simp [hc]⟩
theorem Seen.point {t:List UInt8} {p:Int} (h:Seen t p) (hp:p < 0):Seen (t++[46]) t.length:=by
 rcases h with ⟨_,h⟩ | ⟨x,y,_,e,_⟩
 ·exact .inr ⟨t,[],rfl,rfl,h,rfl⟩
 ·omega
theorem zvm {x:List UInt8} {c:UInt8} (hc:zbj c=false) (t:List UInt8):digs (x++c::t)=false:=by
 unfold digs
 rw [List.all_append,List.all_cons,hc]
 simp
theorem Seen.bad {t u:List UInt8} {p:Int} {c:UInt8} (h:Seen t p) (hc:zbj c=false) (hp:c≠46∨0≤p):okP (t++c::u)=false:=by
 unfold okP
 rcases h with ⟨e,h⟩ | ⟨x,y,e,hp',hx,hy⟩
 ·have hn:c≠46:=by rcases hp with k | k
                   ·exact k
                   ·omega
  rw [zqu t _ h,zmx c u hn]
  simp only
  rw [zvm hc]
  rfl
 ·rw [e,show x++46::y++c::u=x++46::(y++c::u) by simp,zmy x _ hx]
  simp only
  rw [zvm hc]
  simp
theorem Seen.all {t:List UInt8} {p:Int} (h:Seen t p):okP t=decide (t.length≠0∧p≠0∧p≠(t.length:Int) - 1):=by
 unfold okP
 rcases h with ⟨e,h⟩ | ⟨x,y,e,hp',hx,hy⟩
 ·have:=zqu t [] h
  rw [List.append_nil,zt3,List.append_nil] at this
  rw [this,e]
  unfold digs
  cases t with
  | nil=>rfl
  | cons c r=>simp [h]
 ·rw [e,zmy x y hx,hp']
  simp only
  unfold digs
  rw [hx,hy]
  cases x with
  | nil=>simp
  | cons c r=>
    cases y with
    | nil=>simp
    | cons d q=>simp;omega
theorem Seen.parts {t:List UInt8} {p:Int} (h:Seen t p):(t.filter (· != 46))=(Lib.cut t [46]).1++(Lib.cut t [46]).2.1∧((Lib.cut t [46]).2.1.length:Int)=if p < 0 then 0 else (t.length:Int) - 1 - p:=by
 have keep:∀ l:List UInt8,l.all zbj=true→l.filter (· != 46)=l:=fun l hl=>by
  rw [List.filter_eq_self]
  intro c hc
  have:=List.all_eq_true.1 hl c hc
  simp only [bne_iff_ne,ne_eq]
  intro e;rw [e] at this;exact absurd this (by decide)
 rcases h with ⟨e,h⟩ | ⟨x,y,e,hp',hx,hy⟩
 ·have:=zqu t [] h
  rw [List.append_nil,zt3,List.append_nil] at this
  rw [this,e]
  simp [keep t h]
 ·rw [e,zmy x y hx,hp']
  simp only [List.filter_append,keep x hx]
  rw [List.filter_cons_of_neg (by simp),keep y hy]
  refine ⟨rfl,?_⟩
  rw [if_neg (by omega)]
  simp;omega
def revD (l:List UInt8):List Nat:=(l.map fun c=>c.toNat - 48).reverse
theorem zlb (c:UInt8) (l:List UInt8):revD (c::l)=revD l++[c.toNat - 48]:=by simp [revD]
theorem zg0 (l:List UInt8):(revD l).length=l.length:=by simp [revD]
theorem zvn (l:List UInt8):zdi (revD l)=valD l:=by
 induction l with
 | nil=>rfl
 | cons c r ih=>
   have e:=vT_app (revD r) (c.toNat - 48)
   rw [zlb]
   unfold zdi
   rw [show (revD r++[c.toNat - 48]).length=(revD r).length+1 by simp,e]
   show zdi (revD r)+_=_
   rw [ih,zg0]
   show _=(c.toNat - 48)*10 ^ r.length+valD r
   omega
theorem zlc (l:List UInt8) (h:l.all zbj=true):zd7 (revD l):=by
 induction l with
 | nil=>intro j;simp [revD,dig]
 | cons c r ih=>
   rw [List.all_cons,Bool.and_eq_true] at h
   rw [zlb]
   exact zvk (ih h.2) (by have:=(zda c).1 h.1;omega)
end Go.Proofs.YteclpnfckjfibaaGreatDoor

/- DDU8 -/
namespace Go.Proofs.YteclpnfckjfibaaGreatDoor
open Go.RowKit
theorem zvo:(Tryz.prog.info? 224).map (·.size)=some 3:=by kernel_rfl
def Rec (w:World) (g:Nat) (n:Bool) (v:Value) (sc:Int):Prop:=w.heap[g]?=some (.cells #[.bool n,v,.int .i64 sc] 224)
theorem Rec.lt {w:World} {g:Nat} {n:Bool} {v:Value} {sc:Int} (h:Rec w g n v sc):g < w.heap.size:=zaa h
theorem Rec.below {w w':World} {g:Nat} {n:Bool} {v:Value} {sc:Int} (h:Rec w g n v sc) (k:Below w.heap.size w w'):Rec w' g n v sc:=(k.block g (zaa h)).trans h
theorem Rec.only {w w':World} {g b:Nat} {n:Bool} {v:Value} {sc:Int} (h:Rec w g n v sc) (k:Only b w w') (e:g≠b):Rec w' g n v sc:=(k.block g (zaa h) e).trans h
theorem Rec.alloc {w:World} {g:Nat} {n:Bool} {v:Value} {sc:Int} (h:Rec w g n v sc) (o:Obj):Rec (w.alloc o) g n v sc:=zaq _ h
theorem Rec.c0 {w:World} {g:Nat} {n:Bool} {v:Value} {sc:Int} (h:Rec w g n v sc):w.cell? ⟨g,0,none⟩=some (.bool n):=zac h _ rfl
theorem Rec.c1 {w:World} {g:Nat} {n:Bool} {v:Value} {sc:Int} (h:Rec w g n v sc):w.cell? ⟨g,1,none⟩=some v:=zac h _ rfl
theorem Rec.c2 {w:World} {g:Nat} {n:Bool} {v:Value} {sc:Int} (h:Rec w g n v sc):w.cell? ⟨g,2,none⟩=some (.int .i64 sc):=zac h _ rfl
theorem Rec.set1 {w:World} {g:Nat} {n:Bool} {v:Value} {sc:Int} (h:Rec w g n v sc) (u:Value):Rec (w.setCell ⟨g,1,none⟩ u) g n u sc:=zcd h 1 _
theorem Rec.set2 {w:World} {g:Nat} {n:Bool} {v:Value} {sc:Int} (h:Rec w g n v sc) (z:Int):Rec (w.setCell ⟨g,2,none⟩ (.int .i64 z)) g n v z:=zcd h 2 _
theorem zew {ops:Array Oper} {rest:List Oper} {o:Oper} {a:Act} {w:World} {Q:Exit→Act→World→Prop} {n:Bool} {v:Value} {sc:Int} (x:Operand) (g:Nat) (hg:Rec w g n v sc)
 (hgd:o.guard=none) (ho:o.op=.load 224 x) (hx:a.eval x=.pointer (some ⟨g,0,none⟩))
 (h:wpList Tryz.prog ops Q rest (a.put o.dst (.agg #[.bool n,v,.int .i64 sc])) w):wpList Tryz.prog ops Q (o::rest) a w:=
 wpList_load_row hgd 224 x ho g hx 224 _ (0,0) _ hg Tryz.underlying224 rfl (by exact zvo) h
theorem zb1 {ops:Array Oper} {rest:List Oper} {o:Oper} {a:Act} {w:World} {Q:Exit→Act→World→Prop} {n m:Bool} {v u:Value} {sc sd:Int} (x y:Operand) (g:Nat) (hg:Rec w g n v sc) (h1:u.oneCell'=true)
 (hgd:o.guard=none) (ho:o.op=.store 224 x y) (hx:a.eval x=.pointer (some ⟨g,0,none⟩)) (hy:a.eval y=.agg #[.bool m,u,.int .i64 sd])
 (h:∀ w',Only g w w'→Rec w' g m u sd→wpList Tryz.prog ops Q rest (a.put o.dst undef) w'):wpList Tryz.prog ops Q (o::rest) a w:=
 wpList_plain hgd fun _ hK=>by
  unfold Oper.wp execOp
  simp only [ho,hx,hy,Instr.storeAt,Instr.sureAddr,Sem.run_bind,Sem.run_pure,Result.andThen_ok,run_storeVar_row (P:=Tryz.prog) w g 224 224 _ #[.bool m,u,.int .i64 sd] hg (by exact zvo) rfl (by simp [h1];exact ⟨rfl,rfl⟩)]
  exact hK _ _ (h _ (Only.setRow w _) (zdz hg))
theorem zd8 {fn:Func} {p q:Tmp} (h:fn.results=#[.cell p 224,.tmp q]) (tmps:Array Value) {w:World} {g:Nat} {n:Bool} {v:Value} {sc:Int} (x:Value)
 (hp:tmps.getD p undef=.pointer (some ⟨g,0,none⟩)) (hq:tmps.getD q undef=x) (hg:Rec w g n v sc):(results fn tmps).run Tryz.prog w=.ok (.tuple #[.agg #[.bool n,v,.int .i64 sc],x]) w:=by
 have hp':tmps[p]?.getD undef=.pointer (some ⟨g,0,none⟩):=by simpa using hp
 have hq':tmps[q]?.getD undef=x:=by simpa using hq
 have hl:=run_loadVar_row (P:=Tryz.prog) w g 224 224 _ (0,0) _ hg Tryz.underlying224 rfl (by exact zvo)
 simp [results,h,hp',hq',asAddr,hl]
end Go.Proofs.YteclpnfckjfibaaGreatDoor
