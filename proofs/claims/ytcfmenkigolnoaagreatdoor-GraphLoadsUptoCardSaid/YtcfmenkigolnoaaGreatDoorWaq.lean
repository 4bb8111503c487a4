/- Texts of one kind, one behind the other: each says ahead of itself what it shows. -/
import Derived.Test.YtcfmenkigolnoaaGreatDoorWab
import Derived.Test.YtcfmenkigolnoaaGreatDoorWaa
import Derived.Deep.RegionHeld3
import Derived.Deep.RegionWith
import Derived.Test.YtcfmenkigolnoaaGreatDoorWad
import Derived.Deep.WholeRow
import Derived.Laws.IdiomStrings
import Derived.Deep.DeepCutAuto
import Derived.Laws.StructEq
import Derived.WalkMore
import Derived.Deep.LoopGhost
import Derived.OwnWalk
import Derived.BigGuardPart
import Derived.WalkKit
import Derived.Deep.QuietTactic
import Derived.BigQuiet
import Derived.Laws.AppendOwnNone
/- DMa -/
namespace Go.Proofs.YtcfmenkigolnoaaGreatDoor
open Go.RowKit
set_option maxHeartbeats 1600000 in
theorem zwi (s:ByteArray) (w:World) (hs:s.size≤maxLen):
 Calls Tryz.prog 161 #[.string s] w fun e w'=>e=.returned (.bool (zck s))∧w=w':=by
 unfold maxLen at hs
 by_cases h0:s.size=0
 ·have hv:zck s=false:=by
   unfold zck
   rw [decide_eq_false_iff_not]
   omega
  rw [hv]
  go_enter Tryz.func161,Tryz.ntmps161
  go_wp2_with fail
  go_ret
  exact ⟨rfl,rfl⟩
 ·by_cases hbig:(1048576:Int) < s.size
  ·have hv:zck s=false:=by
    unfold zck
    rw [decide_eq_false_iff_not]
    omega
   have h1:¬ (s.size:Int) < 1:=by omega
   rw [hv]
   go_enter Tryz.func161,Tryz.ntmps161
   go_wp2_with fail
   go_ret
   exact ⟨rfl,rfl⟩
  ·have h1:¬ (s.size:Int) < 1:=by omega
   go_enter Tryz.func161,Tryz.ntmps161
   go_wp2_with fail
   go_loop [3] (fun i=>∃ k:Nat,k≤s.size∧i=.int .i64 k∧∀ j (h:j < s.size),j < k→zfl s[j]=true) (fun i=>s.size - (intOf i).toNat)
   case atStart=>exact ⟨0,Nat.zero_le _,rfl,fun j _ h=>absurd h (by omega)⟩
   case round=>
    obtain ⟨k,hk,rfl,hall⟩:=hrel
    have HA:=Lib.hid hall
    clear hall
    by_cases hlt:k < s.size
    ·by_cases h1:(s[k].toNat:Int)≤32
     ·go_wp2_with fail
      go_ret
      exact ⟨by rw [zf8 hlt (by simp [zfl];omega)];rfl,rfl⟩
     ·by_cases h2:(s[k].toNat:Int)=60
      ·go_wp2_with fail
       go_ret
       exact ⟨by rw [zf8 hlt (by simp [zfl];omega)];rfl,rfl⟩
      ·by_cases h3:(s[k].toNat:Int)=62
       ·go_wp2_with fail
        go_ret
        exact ⟨by rw [zf8 hlt (by simp [zfl];omega)];rfl,rfl⟩
       ·go_wp2_with fail
        go_round
        case rel=>exact ⟨k+1,by omega,by go_num,zeo (p:=fun _=>zfl) hlt HA.out (by simp [zfl];omega)⟩
        case measure=>simp [intOf];omega
    ·go_wp2_with fail
     go_ret
     have hv:zck s=true:=by
      unfold zck
      rw [decide_eq_true_eq]
      exact ⟨by omega,by omega,fun j hj=>HA.out j hj (by omega)⟩
     exact ⟨by rw [hv];rfl,rfl⟩
set_option maxHeartbeats 3200000 in
theorem refName (s:ByteArray) (w:World) (hs:s.size≤maxLen):
 Calls Tryz.prog 162 #[.string s] w fun e w'=>e=.returned (.bool (zc8 s))∧w=w':=by
 unfold maxLen at hs
 by_cases h0:s.size=0
 ·have hv:zc8 s=false:=by
   unfold zc8
   rw [decide_eq_false_iff_not]
   omega
  rw [hv]
  go_enter Tryz.func162,Tryz.ntmps162
  go_wp2_with fail
  go_ret
  exact ⟨rfl,rfl⟩
 have hpos:0 < s.size:=by omega
 have hlow:¬ (s.size:Int) < 1:=by omega
 by_cases hbig:(64:Int) < s.size
 ·have hv:zc8 s=false:=by
   unfold zc8
   rw [decide_eq_false_iff_not]
   omega
  rw [hv]
  go_enter Tryz.func162,Tryz.ntmps162
  go_wp2_with fail
  go_ret
  exact ⟨rfl,rfl⟩
 by_cases hd:(48:Int)≤s[0].toNat∧(s[0].toNat:Int)≤57
 ·have hv:zc8 s=false:=ze7 hpos (by simp [zdq,zcy];omega)
  rw [hv]
  obtain ⟨d1,d2⟩:=hd
  go_enter Tryz.func162,Tryz.ntmps162
  go_wp2_with fail
  go_ret
  exact ⟨rfl,rfl⟩
 have HD:=Lib.hid hd
 have hdd:¬ (48:Int)≤s[0].toNat∨¬ (s[0].toNat:Int)≤57:=by omega
 clear hd
 rcases hdd with hdd | hdd
 all_goals
  go_enter Tryz.func162,Tryz.ntmps162
  go_wp2_with fail
  all_goals
   go_loop [3] (fun i=>∃ k:Nat,k≤s.size∧i=.int .i64 k∧∀ j (h:j < s.size),j < k→zdq j s[j]=true) (fun i=>s.size - (intOf i).toNat)
   case atStart=>exact ⟨0,Nat.zero_le _,rfl,fun j _ h=>absurd h (by omega)⟩
   case round=>
    clear hdd
    obtain ⟨k,hk,rfl,hall⟩:=hrel
    have HA:=Lib.hid hall
    clear hall
    by_cases hlt:k < s.size
    ·by_cases a1:(97:Int)≤s[k].toNat
     ·by_cases a2:(s[k].toNat:Int)≤122
      ·go_wp2_with fail
       go_round
       case rel=>exact ⟨k+1,by omega,by go_num,zeo (p:=zdq) hlt HA.out (by simp [zdq,zcy];omega)⟩
       case measure=>simp [intOf];omega
      ·have a3:(65:Int)≤s[k].toNat:=by omega
       have a4:¬ (s[k].toNat:Int)≤90:=by omega
       have a5:(48:Int)≤s[k].toNat:=by omega
       have a6:¬ (s[k].toNat:Int)≤57:=by omega
       have a7:¬ (s[k].toNat:Int)=95:=by omega
       have e7:((s[k].toNat:Int) == 95)=false:=by simpa using a7
       go_wp2_with fail
       go_ret
       exact ⟨by rw [ze7 hlt (by simp [zdq,zcy,zen];omega)];rfl,rfl⟩
     ·by_cases a3:(65:Int)≤s[k].toNat
      ·by_cases a4:(s[k].toNat:Int)≤90
       ·go_wp2_with fail
        go_round
        case rel=>exact ⟨k+1,by omega,by go_num,zeo (p:=zdq) hlt HA.out (by simp [zdq,zcy];omega)⟩
        case measure=>simp [intOf];omega
       ·have a5:(48:Int)≤s[k].toNat:=by omega
        have a6:¬ (s[k].toNat:Int)≤57:=by omega
        by_cases a7:(s[k].toNat:Int)=95
        ·have e7:((s[k].toNat:Int) == 95)=true:=by simpa using a7
         go_wp2_with fail
         go_round
         case rel=>exact ⟨k+1,by omega,by go_num,zeo (p:=zdq) hlt HA.out (by simp [zdq,zcy];omega)⟩
         case measure=>simp [intOf];omega
        ·have e7:((s[k].toNat:Int) == 95)=false:=by simpa using a7
         go_wp2_with fail
         go_ret
         exact ⟨by rw [ze7 hlt (by simp [zdq,zcy,zen];omega)];rfl,rfl⟩
      ·by_cases a5:(48:Int)≤s[k].toNat
       ·by_cases a6:(s[k].toNat:Int)≤57
        ·have hk0:k≠0:=by
          rintro rfl
          exact HD.out ⟨a5,a6⟩
         go_wp2_with fail
         go_round
         case rel=>exact ⟨k+1,by omega,by go_num,zeo (p:=zdq) hlt HA.out (by simp [zdq,zen,hk0];omega)⟩
         case measure=>simp [intOf];omega
        ·have a7:¬ (s[k].toNat:Int)=95:=by omega
         have e7:((s[k].toNat:Int) == 95)=false:=by simpa using a7
         go_wp2_with fail
         go_ret
         exact ⟨by rw [ze7 hlt (by simp [zdq,zcy,zen];omega)];rfl,rfl⟩
       ·have a7:¬ (s[k].toNat:Int)=95:=by omega
        have e7:((s[k].toNat:Int) == 95)=false:=by simpa using a7
        go_wp2_with fail
        go_ret
        exact ⟨by rw [ze7 hlt (by simp [zdq,zcy,zen];omega)];rfl,rfl⟩
    ·go_wp2_with fail
     go_ret
     have hv:zc8 s=true:=by
      unfold zc8
      rw [decide_eq_true_eq]
      exact ⟨hpos,by omega,fun j hj=>HA.out j hj (by omega)⟩
     exact ⟨by rw [hv];rfl,rfl⟩
end Go.Proofs.YtcfmenkigolnoaaGreatDoor

/- A3 -/
namespace Go.Proofs.YtcfmenkigolnoaaGreatDoor
open Go.RowKit
def zth (b o:Nat) (v:Value) (w:World):Prop:=w.cell? ⟨b,o,none⟩=some v∧w.frozen? ⟨b,o,none⟩=false∧b < w.heap.size
theorem zth.below {b o:Nat} {v:Value} {w w':World} (h:zth b o v w) (k:Below w.heap.size w w'):zth b o v w':=
 ⟨(k.cell (p:=⟨b,o,none⟩) h.2.2).trans h.1,(k.frozen (p:=⟨b,o,none⟩) h.2.2).trans h.2.1,Nat.lt_of_lt_of_le h.2.2 k.size⟩
end Go.Proofs.YtcfmenkigolnoaaGreatDoor

/- A4 -/
namespace Go.Proofs.YtcfmenkigolnoaaGreatDoor
open Go.RowKit
end Go.Proofs.YtcfmenkigolnoaaGreatDoor

/- A5 -/
namespace Go.Proofs.YtcfmenkigolnoaaGreatDoor
open Go.RowKit
end Go.Proofs.YtcfmenkigolnoaaGreatDoor

/- D -/
namespace Go.Proofs.YtcfmenkigolnoaaGreatDoor
def valD:List UInt8→Nat
 | []=>0
 | c::r=>(c.toNat - 48)*10 ^ r.length+valD r
theorem zh4 (l r:List UInt8):valD (l++r)=valD l*10 ^ r.length+valD r:=by
 induction l with
 | nil=>simp [valD]
 | cons c l ih=>
   simp only [List.cons_append,valD,ih,List.length_append,Nat.pow_add,Nat.add_mul]
   rw [← Nat.mul_assoc];omega
theorem zpa {c:UInt8} (h:zbx c=true):48≤c.toNat∧c.toNat≤57:=by
 have:=(zcx c).1 h;omega
theorem zn8 (l:List UInt8) (h:l.all zbx=true):valD l < 10 ^ l.length:=by
 induction l with
 | nil=>simp [valD]
 | cons c l ih=>
   simp only [List.all_cons,Bool.and_eq_true] at h
   have:=zpa h.1
   have ih:=ih h.2
   have:(c.toNat - 48)*10 ^ l.length≤9*10 ^ l.length:=Nat.mul_le_mul_right _ (by omega)
   simp only [valD,List.length_cons,Nat.pow_succ]
   omega
theorem zfz:∀ (a b:List UInt8),a.all zbx=true→b.all zbx=true→a.length=b.length→valD a=valD b→a=b
 | [],[],_,_,_,_=>rfl
 | [],_::_,_,_,h,_=>by simp at h
 | _::_,[],_,_,h,_=>by simp at h
 | c::a,d::b,ha,hb,hl,hv=>by
   simp only [List.all_cons,Bool.and_eq_true] at ha hb
   have hl':a.length=b.length:=by simpa using hl
   have l1:=zn8 a ha.2
   have l2:=zn8 b hb.2
   have c1:=zpa ha.1
   have c2:=zpa hb.1
   simp only [valD] at hv
   rw [← hl'] at hv l2
   have key:c.toNat - 48=d.toNat - 48∧valD a=valD b:=by
    generalize c.toNat - 48=p at*
    generalize d.toNat - 48=q at*
    generalize 10 ^ a.length=B at*
    rcases Nat.lt_trichotomy p q with h | h | h
    ·have:(p+1)*B≤q*B:=Nat.mul_le_mul_right _ h
     rw [Nat.add_mul,Nat.one_mul] at this
     omega
    ·subst h;exact ⟨rfl,by omega⟩
    ·have:(q+1)*B≤p*B:=Nat.mul_le_mul_right _ h
     rw [Nat.add_mul,Nat.one_mul] at this
     omega
   have:c=d:=UInt8.toNat_inj.1 (by omega)
   rw [this,zfz a b ha.2 hb.2 hl' key.2]
def zti (N p:Nat):UInt8:=UInt8.ofNat (48+N / 10 ^ p % 10)
def zf0 (N lo:Nat):Nat→List UInt8
 | 0=>[]
 | n+1=>zti N (lo+n)::zf0 N lo n
theorem zh5 (N p:Nat):(zti N p).toNat=48+N / 10 ^ p % 10:=by
 unfold zti
 have:N / 10 ^ p % 10 < 10:=Nat.mod_lt _ (by omega)
 rw [UInt8.toNat_ofNat']
 omega
theorem ztj (N p:Nat):zbx (zti N p)=true:=by
 rw [zcx,zh5]
 have:N / 10 ^ p % 10 < 10:=Nat.mod_lt _ (by omega)
 omega
theorem zi8 (N lo n:Nat):(zf0 N lo n).length=n:=by
 induction n with
 | zero=>rfl
 | succ n ih=>simp [zf0,ih]
theorem zp9 (N lo n:Nat):(zf0 N lo n).all zbx=true:=by
 induction n with
 | zero=>rfl
 | succ n ih=>simp [zf0,ih,ztj]
theorem zqa (N lo n:Nat):valD (zf0 N lo n)=N / 10 ^ lo % 10 ^ n:=by
 induction n with
 | zero=>simp [zf0,valD,Nat.mod_one]
 | succ n ih=>
   simp only [zf0,valD,ih,zi8,zh5]
   rw [Nat.pow_add,← Nat.div_div_eq_div_mul,Nat.add_sub_cancel_left,Nat.pow_succ]
   generalize N / 10 ^ lo=M
   rw [Nat.mod_mul,Nat.mul_comm (M / 10 ^ n % 10)]
   omega
theorem rep_dig (k:Nat):(List.replicate k (48:UInt8)).all zbx=true:=by
 induction k with
 | zero=>rfl
 | succ k ih=>rw [List.replicate_succ,List.all_cons,ih];rfl
theorem zn9 (k:Nat):valD (List.replicate k (48:UInt8))=0:=by
 induction k with
 | zero=>rfl
 | succ k ih=>rw [List.replicate_succ];simp [valD,ih]
theorem zmv (k:Nat) (l:List UInt8):Lib.trimLeftB (List.replicate k 48++l) 48=Lib.trimLeftB l 48:=by
 unfold Lib.trimLeftB
 induction k with
 | zero=>simp
 | succ k ih=>rw [List.replicate_succ,List.cons_append,List.dropWhile_cons,if_pos (by simp)];exact ih
theorem zmw (k:Nat) (l:List UInt8):Lib.trimRightB (l++List.replicate k 48) 48=Lib.trimRightB l 48:=by
 have:=zmv k l.reverse
 unfold Lib.trimLeftB at this
 unfold Lib.trimRightB
 rw [List.reverse_append,List.reverse_replicate,this]
end Go.Proofs.YtcfmenkigolnoaaGreatDoor

/- D2 -/
namespace Go.Proofs.YtcfmenkigolnoaaGreatDoor
theorem ztk:Lib.cut [] [46]=([],[],false):=by simp [Lib.cut,Lib.index]
theorem cut_hit (r:List UInt8):Lib.cut (46::r) [46]=([],r,true):=by simp [Lib.cut,Lib.index]
theorem zjv (c:UInt8) (r:List UInt8) (h:c≠46):Lib.cut (c::r) [46]=(c::(Lib.cut r [46]).1,(Lib.cut r [46]).2.1,(Lib.cut r [46]).2.2):=by
 have hp:[46].isPrefixOf (c::r)=false:=by simp [List.isPrefixOf,beq_eq_false_iff_ne.2 (fun e:(46:UInt8)=c=>h e.symm)]
 have hge:=Lib.index_ge r [46]
 unfold Lib.cut
 rw [Lib.index,hp]
 by_cases h0:0≤Lib.index r [46]
 ·have e1:(Lib.index r [46] == -1)=false:=by simp;omega
  simp only [Bool.false_eq_true,if_false,e1]
  rw [if_pos h0,if_pos (by omega)]
  have e2:(Lib.index r [46]+1).toNat=(Lib.index r [46]).toNat+1:=by omega
  rw [e2]
  simp
 ·have e1:Lib.index r [46]=-1:=by omega
  rw [e1]
  simp
theorem zoa (d e:List UInt8) (h:d.all zbx=true):Lib.cut (d++46::e) [46]=(d,e,true):=by
 induction d with
 | nil=>exact cut_hit e
 | cons c d ih=>
   simp only [List.all_cons,Bool.and_eq_true] at h
   rw [List.cons_append,zjv _ _ (by rintro rfl;exact absurd h.1 (by decide)),ih h.2]
theorem zfd (l:List UInt8):∃ k,l=List.replicate k 48++Lib.trimLeftB l 48:=by
 unfold Lib.trimLeftB
 induction l with
 | nil=>exact ⟨0,rfl⟩
 | cons c l ih=>
   by_cases h:c=48
   ·obtain ⟨k,hk⟩:=ih
    refine ⟨k+1,?_⟩
    rw [List.dropWhile_cons,if_pos (by simp [h]),List.replicate_succ,List.cons_append,← hk,h]
   ·exact ⟨0,by rw [List.dropWhile_cons,if_neg (by simp [h])];rfl⟩
theorem zh6 (l:List UInt8):∃ k,l=Lib.trimRightB l 48++List.replicate k 48:=by
 obtain ⟨k,hk⟩:=zfd l.reverse
 refine ⟨k,?_⟩
 unfold Lib.trimLeftB at hk
 unfold Lib.trimRightB
 have:=congrArg List.reverse hk
 rw [List.reverse_reverse,List.reverse_append,List.reverse_replicate] at this
 exact this
theorem ztl {l:List UInt8} (h:l.all zbx=true):(Lib.trimLeftB l 48).all zbx=true:=by
 obtain ⟨k,hk⟩:=zfd l
 rw [hk,List.all_append,Bool.and_eq_true] at h
 exact h.2
theorem zi9 (l:List UInt8):valD (Lib.trimLeftB l 48)=valD l:=by
 obtain ⟨k,hk⟩:=zfd l
 have:=congrArg valD hk
 rw [zh4,zn9] at this
 omega
theorem zqb (l:List UInt8) {n:Nat} (h:l.length≤n):valD (Lib.trimRightB l 48)*10 ^ (n - (Lib.trimRightB l 48).length)=valD l*10 ^ (n - l.length):=by
 obtain ⟨k,hk⟩:=zh6 l
 generalize Lib.trimRightB l 48=t at*
 subst hk
 rw [zh4,zn9,List.length_append,List.length_replicate,Nat.add_zero,Nat.mul_assoc,← Nat.pow_add]
 simp only [List.length_append,List.length_replicate] at h
 congr 2
 omega
theorem ztm (l:List UInt8):∀ c r,Lib.trimLeftB l 48=c::r→c≠48:=by
 intro c r h e
 have:=List.head?_dropWhile_not (fun x:UInt8=>x == 48) l
 unfold Lib.trimLeftB at h
 rw [h,e] at this
 simp at this
theorem ztn {l:List UInt8} (hd:l.all zbx=true):Lib.trimLeftB l 48=[]↔valD l=0:=by
 constructor
 ·intro h;rw [← zi9,h];rfl
 ·intro h
  cases e:Lib.trimLeftB l 48 with
  | nil=>rfl
  | cons c r=>
    have hc:=ztm l c r e
    have hdd:=ztl hd
    rw [e,List.all_cons,Bool.and_eq_true] at hdd
    have:=zpa hdd.1
    have h2:=zi9 l
    rw [e,h] at h2
    simp only [valD] at h2
    have hne:c.toNat≠48:=fun h=>hc (UInt8.toNat_inj.1 h)
    have:0 < (c.toNat - 48)*10 ^ r.length:=Nat.mul_pos (by omega) (Nat.pow_pos (by omega))
    omega
theorem zto {l:List UInt8} (hd:l.all zbx=true):Lib.trimRightB l 48=[]↔valD l=0:=by
 constructor
 ·intro h
  have:=zqb l (Nat.le_refl _)
  rw [h] at this
  simpa [valD] using this.symm
 ·intro h
  obtain ⟨k,hk⟩:=zh6 l
  have:l=List.replicate l.length 48:=zfz _ _ hd (rep_dig _) (by simp) (by rw [h,zn9])
  rw [this]
  have e:=zmw l.length []
  rw [List.nil_append] at e
  rw [e];rfl
end Go.Proofs.YtcfmenkigolnoaaGreatDoor

/- R -/
namespace Go.Proofs.YtcfmenkigolnoaaGreatDoor
open Go.RowKit
end Go.Proofs.YtcfmenkigolnoaaGreatDoor

/- M2 -/
namespace Go.Proofs.YtcfmenkigolnoaaGreatDoor
theorem zpb (j:Nat):BASE ^ j=10 ^ (9*j):=by
 rw [Nat.pow_mul];rfl
theorem zpc (j:Nat):0 < BASE ^ j:=Nat.pow_pos (by decide)
theorem limb_N (f:Nat→Nat) (hf:zem f) (j:Nat):∀ n,j < n→n≤16→vN n f / BASE ^ j % BASE=f j:=by
 intro n
 induction n with
 | zero=>intro h;omega
 | succ n ih=>
   intro h hn
   by_cases e:j=n
   ·subst e
    have:=vN_lt f hf j (by omega)
    simp only [vN]
    rw [Nat.add_mul_div_right _ _ (zpc j),Nat.div_eq_of_lt this,Nat.zero_add,Nat.mod_eq_of_lt (hf j (by omega))]
   ·have hlt:j < n:=by omega
    rw [← ih hlt (by omega)]
    simp only [vN]
    obtain ⟨d,rfl⟩:∃ d,n=j+1+d:=⟨n - (j+1),by omega⟩
    have e:f (j+1+d)*BASE ^ (j+1+d)=(f (j+1+d)*BASE ^ d*BASE)*BASE ^ j:=by
     rw [Nat.pow_add,Nat.pow_succ]
     generalize BASE ^ d=x
     generalize BASE ^ j=y
     ac_rfl
    rw [e,Nat.add_mul_div_right _ _ (zpc j),Nat.add_mul_mod_self_right]
theorem zvs (f:Nat→Nat) (hf:zem f) (j:Nat) (hj:j < 16):f j=wval f / BASE ^ j % BASE:=(limb_N f hf j 16 hj (Nat.le_refl _)).symm
theorem vN_updv (f:Nat→Nat) (j v:Nat):∀ n,j < n→vN n (upd f j v)+f j*BASE ^ j=vN n f+v*BASE ^ j:=by
 intro n
 induction n with
 | zero=>intro h;omega
 | succ n ih=>
   intro h
   by_cases e:j=n
   ·subst e
    simp only [vN,zor,vN_upd _ _ _ _ (Nat.le_refl _)];omega
   ·have:=ih (by omega)
    simp only [vN,zfj f v (show n≠j by omega)];omega
theorem zvt (f:Nat→Nat) (j v:Nat) (hj:j < 16):wval (upd f j v)+f j*BASE ^ j=wval f+v*BASE ^ j:=vN_updv f j v 16 hj
theorem room (f:Nat→Nat) (hf:zem f) (M p:Nat) (hp:p < 144) (h:wval f=M*10 ^ (p+1)):f (p / 9)+9*10 ^ (p % 9) < BASE:=by
 rw [zvs f hf (p / 9) (by omega),zpb,h]
 have e:10 ^ (p+1)=10 ^ (p % 9+1)*10 ^ (9*(p / 9)):=by rw [← Nat.pow_add];congr 1;omega
 rw [e,← Nat.mul_assoc,Nat.mul_div_cancel _ (Nat.pow_pos (by omega))]
 obtain ⟨r,hr⟩:∃ r,r=p % 9:=⟨_,rfl⟩
 rw [← hr]
 have hr9:r≤8:=by omega
 have eb:BASE=10 ^ (r+1)*10 ^ (8 - r):=by rw [← Nat.pow_add,show r+1+(8 - r)=9 by omega];rfl
 rw [Nat.mul_comm M,eb,Nat.mul_mod_mul_left]
 have h1:M % 10 ^ (8 - r) < 10 ^ (8 - r):=Nat.mod_lt _ (Nat.pow_pos (by omega))
 have h2:10 ^ (r+1)*(M % 10 ^ (8 - r)+1)≤10 ^ (r+1)*10 ^ (8 - r):=Nat.mul_le_mul_left _ h1
 rw [Nat.mul_add,Nat.mul_one,Nat.pow_succ] at h2
 have h3:0 < 10 ^ r:=Nat.pow_pos (by omega)
 rw [Nat.pow_succ]
 omega
end Go.Proofs.YtcfmenkigolnoaaGreatDoor

/- B1 -/
namespace Go.Proofs.YtcfmenkigolnoaaGreatDoor
open Go.RowKit
theorem zob (A:ByteArray) (k:Nat) (h:k < A.size):A[k]=A.data.toList[k]'(by simpa using h):=by
 simp [ByteArray.getElem_eq_getElem_data]
end Go.Proofs.YtcfmenkigolnoaaGreatDoor

/- B2 -/
namespace Go.Proofs.YtcfmenkigolnoaaGreatDoor
open Go.RowKit
structure IsDigs (d:Array Value) (k N:Nat):Prop where
 size:d.size=144
 at_:∀ j,144 - k≤j→j < 144→d[j]?=some (.int .u8 ((zti N (143 - j)).toNat:Int))
end Go.Proofs.YtcfmenkigolnoaaGreatDoor

/- A1 -/
namespace Go.Proofs.YtcfmenkigolnoaaGreatDoor
open Go.RowKit
end Go.Proofs.YtcfmenkigolnoaaGreatDoor

/- A2 -/
namespace Go.Proofs.YtcfmenkigolnoaaGreatDoor
open Go.RowKit
end Go.Proofs.YtcfmenkigolnoaaGreatDoor

/- A6 -/
namespace Go.Proofs.YtcfmenkigolnoaaGreatDoor
open Go.RowKit
end Go.Proofs.YtcfmenkigolnoaaGreatDoor

/- D3 -/
namespace Go.Proofs.YtcfmenkigolnoaaGreatDoor
end Go.Proofs.YtcfmenkigolnoaaGreatDoor

/- A8 -/
namespace Go.Proofs.YtcfmenkigolnoaaGreatDoor
open Go.RowKit
theorem zuv.done {f g h:Nat→Nat} {c:Nat} (H:zuv f g h c 16) (hs:wval f+wval g < BASE ^ 16):wval h=wval f+wval g:=by
 have s:=H.sum
 have hc:c=0:=by
  by_cases e:c=0
  ·exact e
  ·have:1*BASE ^ 16≤c*BASE ^ 16:=Nat.mul_le_mul_right _ (by omega)
   unfold wval at hs;omega
 subst hc
 unfold wval at *;omega
theorem zgx.done {f g h:Nat→Nat} {c:Nat} (H:zgx f g h c 16) (hs:wval g≤wval f) (_hf:zem f):wval h+wval g=wval f:=by
 have s:=H.sum
 have hl:=vN_lt h H.words 16 (by omega)
 have hc:c=0:=by
  by_cases e:c=0
  ·exact e
  ·have:1*BASE ^ 16≤c*BASE ^ 16:=Nat.mul_le_mul_right _ (by omega)
   unfold wval at hs;omega
 subst hc
 unfold wval;omega
end Go.Proofs.YtcfmenkigolnoaaGreatDoor

/- M3 -/
namespace Go.Proofs.YtcfmenkigolnoaaGreatDoor
structure zpd (N m t R:Nat) (qs:List UInt8):Prop where
 len:qs.length=t
 dig:qs.all zbx=true
 eq:valD qs*m+R=N / 10 ^ (164 - t)
 lt:R < m
theorem zpd.zero {N m:Nat} (hN:N < 10 ^ 164) (hm:0 < m):zpd N m 0 0 []:=
 ⟨rfl,rfl,by rw [Nat.sub_zero,Nat.div_eq_of_lt hN];simp [valD],hm⟩
theorem zpd.done {N m R:Nat} {qs:List UInt8} (H:zpd N m 164 R qs):qs=zf0 (N / m) 0 164:=by
 have e:=H.eq
 rw [Nat.sub_self,Nat.pow_zero,Nat.div_one] at e
 have hq:N / m=valD qs:=by
  rw [← e]
  have:=H.lt
  rw [Nat.mul_comm,Nat.mul_add_div (by omega),Nat.div_eq_of_lt this,Nat.add_zero]
 have hl:=zn8 qs H.dig
 rw [H.len] at hl
 refine zfz _ _ H.dig (zp9 _ _ _) (by rw [H.len,zi8]) ?_
 rw [zqa,Nat.pow_zero,Nat.div_one,hq,Nat.mod_eq_of_lt hl]
theorem zos.done {f h:Nat→Nat} {d c:Nat} (H:zos f d h c 16) (hs:wval f*10+d < BASE ^ 16):wval h=wval f*10+d:=by
 have s:=H.sum
 have hc:c=0:=by
  by_cases e:c=0
  ·exact e
  ·have:1*BASE ^ 16≤c*BASE ^ 16:=Nat.mul_le_mul_right _ (by omega)
   unfold wval at hs;omega
 subst hc
 unfold wval at *;omega
end Go.Proofs.YtcfmenkigolnoaaGreatDoor

/- B3 -/
namespace Go.Proofs.YtcfmenkigolnoaaGreatDoor
open Go.RowKit
theorem Only.grown {b:Nat} {w w':World} (h:Only b w w'):w.grownBy w' (some b):=
 ⟨h.os,h.tape,h.output,h.size,fun k hk e=>h.block k hk (by rintro rfl;exact e rfl)⟩
theorem info5:(Tryz.prog.info? 5).map (fun i=>(i.zero,i.size,i.bytes))=some (some (.int .u8 0),1,1):=by kernel_rfl
def vals (l:List UInt8):List Value:=l.map fun b=>.int .u8 (b.toNat:Int)
end Go.Proofs.YtcfmenkigolnoaaGreatDoor

/- B4 -/
namespace Go.Proofs.YtcfmenkigolnoaaGreatDoor
open Go.RowKit
end Go.Proofs.YtcfmenkigolnoaaGreatDoor

/- B5 -/
namespace Go.Proofs.YtcfmenkigolnoaaGreatDoor
open Go.RowKit
end Go.Proofs.YtcfmenkigolnoaaGreatDoor

/- B6 -/
namespace Go.Proofs.YtcfmenkigolnoaaGreatDoor
open Go.RowKit
end Go.Proofs.YtcfmenkigolnoaaGreatDoor

/- D4 -/
namespace Go.Proofs.YtcfmenkigolnoaaGreatDoor
end Go.Proofs.YtcfmenkigolnoaaGreatDoor

/- M4 -/
namespace Go.Proofs.YtcfmenkigolnoaaGreatDoor
def Mid (f:Nat→Nat):Prop:=∀ j,j < 3∨11≤j→j < 16→f j=0
theorem zwj (f:Nat→Nat) (h:Mid f):vN 3 f=0:=by
 simp only [vN,h 0 (by omega) (by omega),h 1 (by omega) (by omega),h 2 (by omega) (by omega)]
 simp
theorem zwk (f:Nat→Nat) (h:Mid f):vN 11 f=wval f:=by
 have:=zuu f (fun _=>0) 11 16 (by omega) (fun j a b=>h j (by omega) b)
 have e:∀ n,vN n (fun _=>0)=0:=by intro n;induction n with
  | zero=>rfl
  | succ n ih=>simp [vN,ih]
 rw [e,e] at this
 unfold wval;omega
structure zh7 (f g p:Nat→Nat) (i:Nat):Prop where
 val:wval p*BASE ^ 6=vN i f*wval g
 words:zem p
 high:∀ j,i+5≤j→j < 16→p j=0
structure ztp (f g p:Nat→Nat) (i j cr:Nat):Prop where
 val:wval p*BASE ^ 6+cr*BASE ^ (i+j)=vN i f*wval g+f i*BASE ^ i*vN j g
 words:zem p
 high:∀ k,i+5≤k→k < 16→p k=0
 carry:cr < BASE
theorem ztq:wval (fun _=>0)=0:=by
 have e:∀ n,vN n (fun _=>0)=0:=by intro n;induction n with
  | zero=>rfl
  | succ n ih=>simp [vN,ih]
 exact e 16
theorem zh7.zero {f g:Nat→Nat} (hf:Mid f):zh7 f g (fun _=>0) 3:=
 ⟨by rw [zwj f hf,ztq,Nat.zero_mul,Nat.zero_mul],fun _ _=>by decide,fun _ _ _=>rfl⟩
theorem zh7.inner {f g p:Nat→Nat} {i:Nat} (H:zh7 f g p i) (hg:Mid g):ztp f g p i 3 0:=
 ⟨by rw [zwj g hg,H.val,Nat.zero_mul,Nat.mul_zero],H.words,H.high,by decide⟩
theorem ztp.outer {f g p:Nat→Nat} {i cr:Nat} (H:ztp f g p i 11 cr) (hg:Mid g) (hi:i < 11):zh7 f g (upd p (i+5) cr) (i+1):=by
 refine ⟨?_,H.words.upd H.carry,?_⟩
 ·have hu:=zvt p (i+5) cr (by omega)
  rw [H.high (i+5) (by omega) (by omega),Nat.zero_mul,Nat.add_zero] at hu
  have hv:=H.val
  rw [zwk g hg] at hv
  have e6:BASE ^ (i+11)=BASE ^ (i+5)*BASE ^ 6:=by rw [← Nat.pow_add]
  rw [hu,Nat.add_mul,Nat.mul_assoc,← e6,hv]
  simp only [vN,Nat.add_mul]
 ·intro k hk hk2
  rw [zfj _ _ (by omega)]
  exact H.high k (by omega) hk2
theorem zh7.done {f g p:Nat→Nat} (H:zh7 f g p 11) (hf:Mid f):wval p*10 ^ 54=wval f*wval g:=by
 have:=H.val
 rw [zwk f hf,zpb] at this
 exact this
end Go.Proofs.YtcfmenkigolnoaaGreatDoor

/- DDC1 -/
namespace Go.Proofs.YtcfmenkigolnoaaGreatDoor
open Go.RowKit
end Go.Proofs.YtcfmenkigolnoaaGreatDoor

/- DDC0 -/
namespace Go.Proofs.YtcfmenkigolnoaaGreatDoor
open Go.RowKit
def Strs (w:World) (b off n:Nat) (S:Nat→ByteArray):Prop:=∀ i,i < n→w.cell? ⟨b,off+i,none⟩=some (.string (S i))
theorem Strs.below {w w':World} {b off n:Nat} {S:Nat→ByteArray} (h:Strs w b off n S) (k:Below w.heap.size w w'):Strs w' b off n S:=fun i hi=>
 (k.cell (p:=⟨b,off+i,none⟩) (World.block_lt_of_cell? w _ (h i hi))).trans (h i hi)
end Go.Proofs.YtcfmenkigolnoaaGreatDoor

/- DDU1 -/
namespace Go.Proofs.YtcfmenkigolnoaaGreatDoor
open Go.RowKit
def vT:Nat→(Nat→Nat)→Nat
 | 0,_=>0
 | n+1,f=>vT n f+f n*10 ^ n
theorem vT_lt (f:Nat→Nat) (h:∀ j,f j≤9):∀ n,vT n f < 10 ^ n
 | 0=>by simp [vT]
 | n+1=>by
   have:=vT_lt f h n
   have h2:f n*10 ^ n≤9*10 ^ n:=Nat.mul_le_mul_right _ (h n)
   show vT n f+f n*10 ^ n < 10 ^ (n+1)
   rw [Nat.pow_succ];omega
theorem vT_eq (f g:Nat→Nat):∀ n,(∀ j,j < n→f j=g j)→vT n f=vT n g
 | 0,_=>rfl
 | n+1,h=>by
   show vT n f+f n*10 ^ n=vT n g+g n*10 ^ n
   rw [vT_eq f g n (fun j hj=>h j (by omega)),h n (by omega)]
theorem zwl (f:Nat→Nat) (n:Nat) (h:∀ j,n≤j→f j=0):∀ m,n≤m→vT m f=vT n f
 | 0,hm=>by rw [Nat.le_zero.1 hm]
 | m+1,hm=>by
   by_cases e:n=m+1
   ·rw [e]
   ·show vT m f+f m*10 ^ m=_
    rw [zwl f n h m (by omega),h m (by omega)];simp
def dig (ds:List Nat) (j:Nat):Nat:=ds.getD j 0
theorem zge {ds:List Nat} {j:Nat} (h:ds.length≤j):dig ds j=0:=by simp [dig,List.getD,h]
def zc5 (ds:List Nat):Nat:=vT ds.length (dig ds)
def zdv (ds:List Nat):Prop:=∀ j,dig ds j≤9
theorem zf1 (ds:List Nat) {m:Nat} (h:ds.length≤m):vT m (dig ds)=zc5 ds:=zwl _ _ (fun _ hj=>zge hj) m h
def Ints (w:World) (v:Value) (ds:List Nat):Prop:=
 (v=.slice none 0 0∧ds=[])∨∃ b off cap,v=.slice (some ⟨b,off,none⟩) ds.length cap∧(∀ i,i < ds.length→w.cell? ⟨b,off+i,none⟩=some (.int .i64 (dig ds i)))∧∃ cs,w.heap[b]?=some (.cells cs 3 (0,0))
theorem Ints.below {w w':World} {v:Value} {ds:List Nat} (h:Ints w v ds) (k:Below w.heap.size w w'):Ints w' v ds:=by
 rcases h with h | ⟨b,off,cap,e,hc,cs,hk⟩
 ·exact .inl h
 ·exact .inr ⟨b,off,cap,e,fun i hi=>(k.cell (p:=⟨b,off+i,none⟩) (World.block_lt_of_cell? w _ (hc i hi))).trans (hc i hi),cs,(k.block b (zaa hk)).trans hk⟩
theorem Ints.only {w w':World} {v:Value} {ds:List Nat} {g:Nat} {cs:Array Value} {t:TypeId} (h:Ints w v ds) (k:Only g w w') (hg:w.heap[g]?=some (.cells cs t (0,0))) (ht:t≠3):Ints w' v ds:=by
 rcases h with h | ⟨b,off,cap,e,hc,cs2,hk⟩
 ·exact .inl h
 ·have hne:b≠g:=fun x=>by
   rw [x,hg] at hk
   injection hk with hk
   injection hk with _ h2 _
   exact ht h2
  have hb:=(k.block b (zaa hk) hne)
  exact .inr ⟨b,off,cap,e,fun i hi=>(World.cell?_of_block (w:=w) (a:=⟨b,off+i,none⟩) hb).trans (hc i hi),cs2,hb.trans hk⟩
theorem zja (c:Nat) (w:World) (hc:c < 256):Calls Tryz.prog 190 #[.int .u8 c] w fun e w'=>e=.returned (.bool (decide (48≤c∧c≤57)))∧w=w':=by
 by_cases h1:(48:Int)≤c
 ·by_cases h2:(c:Int)≤57
  ·have:decide (48≤c∧c≤57)=true:=by simp;omega
   rw [this]
   go_enter Tryz.func190,Tryz.ntmps190
   go_wp2
   go_ret
   exact ⟨rfl,rfl⟩
  ·have:decide (48≤c∧c≤57)=false:=by simp;omega
   rw [this]
   go_enter Tryz.func190,Tryz.ntmps190
   go_wp2
   go_ret
   exact ⟨by simp,rfl⟩
 ·have:decide (48≤c∧c≤57)=false:=by simp;omega
  rw [this]
  go_enter Tryz.func190,Tryz.ntmps190
  go_wp2
  go_ret
  exact ⟨by simp,rfl⟩
def dgI (ds:List Nat) (i:Int):Nat:=if i < 0 then 0 else dig ds i.toNat
theorem refAt (v:Value) (ds:List Nat) (i:Int) (w:World) (h:Ints w v ds):Calls Tryz.prog 191 #[v,.int .i64 i] w fun e w'=>e=.returned (.int .i64 (dgI ds i))∧w=w':=by
 unfold dgI
 by_cases h0:i < 0
 ·rw [if_pos h0]
  rcases h with ⟨rfl,rfl⟩ | ⟨b,off,cap,rfl,hc,hty⟩
  ·go_enter Tryz.func191,Tryz.ntmps191
   go_wp2
   go_ret
   exact ⟨rfl,rfl⟩
  ·clear hc
   go_enter Tryz.func191,Tryz.ntmps191
   go_wp2
   go_ret
   exact ⟨rfl,rfl⟩
 ·rw [if_neg h0]
  obtain ⟨k,rfl⟩:=Int.eq_ofNat_of_zero_le (Int.not_lt.1 h0)
  rw [show ((k:Int)).toNat=k by omega]
  rcases h with ⟨rfl,rfl⟩ | ⟨b,off,cap,rfl,hc,hty⟩
  ·rw [zge (by simp)]
   have hk:(k:Int) ≥ 0:=by omega
   go_enter Tryz.func191,Tryz.ntmps191
   go_wp2
   go_ret
   exact ⟨rfl,rfl⟩
  ·by_cases hl:(ds.length:Int)≤k
   ·rw [zge (by omega)]
    clear hc
    generalize ds.length=n at*
    go_enter Tryz.func191,Tryz.ntmps191
    go_wp2
    go_ret
    exact ⟨rfl,rfl⟩
   ·have c1:=hc k (by omega)
    clear hc
    generalize dig ds k=x at*
    generalize ds.length=n at*
    go_enter Tryz.func191,Tryz.ntmps191
    go_wp2
    go_ret
    exact ⟨rfl,rfl⟩
end Go.Proofs.YtcfmenkigolnoaaGreatDoor

/- DDU2 -/
namespace Go.Proofs.YtcfmenkigolnoaaGreatDoor
open Go.RowKit
theorem zqc (ds:List Nat):zc5 ds=0↔∀ j,j < ds.length→dig ds j=0:=by
 unfold zc5
 generalize dig ds=f
 generalize ds.length=n
 induction n with
 | zero=>simp [vT]
 | succ n ih=>
   show vT n f+f n*10 ^ n=0↔_
   have hp:0 < 10 ^ n:=Nat.pow_pos (show 0 < 10 by decide)
   constructor
   ·intro h j hj
    have h1:vT n f=0:=by omega
    have h2:f n*10 ^ n=0:=by omega
    rcases Nat.lt_or_ge j n with h3 | h3
    ·exact ih.1 h1 j h3
    ·obtain rfl:j=n:=by omega
     rcases Nat.mul_eq_zero.1 h2 with h4 | h4
     ·exact h4
     ·omega
   ·intro h
    rw [ih.2 (fun j hj=>h j (by omega)),h n (by omega)];simp
set_option maxHeartbeats 800000 in
theorem ztr (v:Value) (ds:List Nat) (w:World) (h:Ints w v ds) (hn:ds.length≤9223372036854775807) (d:Bool) (hd:d=decide (zc5 ds=0)):Calls Tryz.prog 192 #[v] w fun e w'=>e=.returned (.bool d)∧w=w':=by
 rcases h with ⟨rfl,rfl⟩ | ⟨b,off,cap,rfl,hc,hty⟩
 ·obtain rfl:d=true:=by rw [hd];rfl
  clear hd
  go_enter Tryz.func192,Tryz.ntmps192
  go_wp2_with fail
  go_loopg [3] 0 (fun gg s3 wr=>gg=0∧s3=.int .i64 0∧wr=w)
  case atStart=>exact ⟨rfl,rfl,rfl⟩
  case round=>
   obtain ⟨_,rfl,rfl⟩:=hrel
   go_wp2
   go_ret
   exact ⟨rfl,rfl⟩
 ·have hz:=zqc ds
  have HZ:=Lib.hid hz
  have HD:=Lib.hid hd
  clear hz hd
  go_enter Tryz.func192,Tryz.ntmps192
  go_wp2_with fail
  go_loopg [3] ds.length (fun gg s3 wr=>∃ i:Nat,i+gg=ds.length∧s3=.int .i64 i∧wr=w∧Aside (∀ j,j < i→dig ds j=0))
  case atStart=>exact ⟨0,by omega,rfl,rfl,fun j hj=>absurd hj (Nat.not_lt_zero j)⟩
  case round=>
   obtain ⟨i,hi,rfl,rfl,hall⟩:=hrel
   have HA:=Lib.hid hall.out
   clear hall
   by_cases hlt:(i:Int) < ds.length
   ·have c1:=hc i (by omega)
    by_cases hx:dig ds i=0
    ·rw [hx] at c1
     have hall2:∀ j,j < i+1→dig ds j=0:=fun j hj=>by
      rcases Nat.lt_or_ge j i with h3 | h3
      ·exact HA.out j h3
      ·rw [show j=i by omega];exact hx
     have HA2:=Lib.hid hall2
     clear hall2 HA hc hx
     generalize ds.length=n at*
     go_wp2_with fail
     go_roundg (gk - 1)
     case measure=>omega
     case rel=>exact ⟨i+1,by omega,by go_num,rfl,HA2.out⟩
    ·obtain rfl:d=false:=by
      rw [HD.out]
      have:=mt HZ.out.1 (fun h=>hx (h i (by omega)))
      simp [this]
     have hx1:¬ (dig ds i:Int)=0:=by omega
     clear hc HA hx HD HZ
     generalize dig ds i=x at*
     generalize ds.length=n at*
     go_wp2_with fail
     go_ret
     exact ⟨rfl,rfl⟩
   ·obtain rfl:d=true:=by
     rw [HD.out]
     have:=HZ.out.2 (fun j hj=>HA.out j (by omega))
     simp [this]
    clear hc HA HD HZ
    generalize ds.length=n at*
    go_wp2_with fail
    go_ret
    exact ⟨rfl,rfl⟩
end Go.Proofs.YtcfmenkigolnoaaGreatDoor

/- DDU3 -/
namespace Go.Proofs.YtcfmenkigolnoaaGreatDoor
open Go.RowKit
theorem dgI_nat (ds:List Nat) (k:Nat):dgI ds k=dig ds k:=by unfold dgI;rw [if_neg (by omega)];congr 1
theorem zpe (v:Value) (ds:List Nat) (k:Nat) (x:Nat) (w:World) (h:Ints w v ds) (hx:Hid (x=dig ds k)):Calls Tryz.prog 191 #[v,.int .i64 k] w fun e w'=>e=.returned (.int .i64 x)∧w=w':=
 (refAt v ds k w h).mono fun _ _ ⟨h1,h2⟩=>⟨by rw [h1,dgI_nat,hx.out],h2⟩
theorem Ints.form {w:World} {v:Value} {ds:List Nat} (h:Ints w v ds):∃ p cap,v=.slice p ds.length cap:=by
 rcases h with ⟨rfl,rfl⟩ | ⟨b,off,cap,rfl,_,_⟩
 ·exact ⟨_,_,rfl⟩
 ·exact ⟨_,_,rfl⟩
end Go.Proofs.YtcfmenkigolnoaaGreatDoor

/- DDU4 -/
namespace Go.Proofs.YtcfmenkigolnoaaGreatDoor
open Go.RowKit
theorem info3:(Tryz.prog.info? 3).map (fun i=>(i.zero,i.size,i.bytes))=some (some (.int .i64 0),1,8):=by kernel_rfl
def zce (ds:List Nat):List Value:=ds.map fun (d:Nat)=>Value.int .i64 (d:Int)
theorem zjb {ds:List Nat} {d j:Nat} (h:j < ds.length):dig (ds++[d]) j=dig ds j:=by
 simp [dig,List.getD,List.getElem?_append_left h]
theorem zjc (ds:List Nat) (d:Nat):dig (ds++[d]) ds.length=d:=by
 simp [dig,List.getD]
theorem zts {ds:List Nat} {d:Nat} (h:zdv ds) (hd:d≤9):zdv (ds++[d]):=by
 intro j
 rcases Nat.lt_trichotomy j ds.length with k | k | k
 ·rw [zjb k];exact h j
 ·rw [k,zjc];exact hd
 ·rw [zge (by simp;omega)];omega
theorem vT_app (ds:List Nat) (d:Nat):vT (ds.length+1) (dig (ds++[d]))=vT ds.length (dig ds)+d*10 ^ ds.length:=by
 show vT ds.length (dig (ds++[d]))+dig (ds++[d]) ds.length*10 ^ ds.length=_
 rw [vT_eq (dig (ds++[d])) (dig ds) ds.length (fun j hj=>zjb hj),zjc]
theorem zgr {w:World} {base n:Nat} {v:Value} {ds:List Nat} (h:w.ownsRow base 3 1 v n (zce ds)) (hn:n=ds.length):Ints w v ds:=by
 subst hn
 rcases h.2 with ⟨e,h0⟩ | ⟨g,cap,cur,e,_,hk,_⟩
 ·exact .inl ⟨e,List.length_eq_zero_iff.1 h0⟩
 ·refine .inr ⟨g,0,cap,e,fun i hi=>?_,cur,hk⟩
  subst e
  have:=h.cellAt i (by omega)
  rw [Nat.zero_add,this]
  unfold zce dig
  rw [List.getElem?_map,List.getElem?_eq_getElem hi]
  simp [List.getD,hi]
structure Added (xs ys:List Nat) (i c:Nat) (zs:List Nat):Prop where
 len:zs.length=i
 small:zdv zs
 car:c≤1
 val:vT i (dig zs)+c*10 ^ i=vT i (dig xs)+vT i (dig ys)
 done:xs.length < i→ys.length < i→c=0
theorem Added.all {xs ys zs:List Nat} {i:Nat} (h:Added xs ys i 0 zs) (hx:xs.length≤i) (hy:ys.length≤i):zc5 zs=zc5 xs+zc5 ys:=by
 have v:=h.val
 rw [zf1 xs hx,zf1 ys hy] at v
 unfold zc5
 rw [h.len]
 unfold zc5 at v
 omega
end Go.Proofs.YtcfmenkigolnoaaGreatDoor

/- DDU5 -/
namespace Go.Proofs.YtcfmenkigolnoaaGreatDoor
open Go.RowKit
theorem zwm (f:Nat→Nat) (n:Nat):∀ m,n≤m→vT m f < 10 ^ n→vT m f=vT n f
 | 0,h,_=>by rw [Nat.le_zero.1 h]
 | m+1,h,k=>by
   by_cases e:n=m+1
   ·rw [e]
   ·have h1:10 ^ n≤10 ^ m:=Nat.pow_le_pow_right (by omega) (by omega)
    have k':vT m f+f m*10 ^ m < 10 ^ n:=k
    have h2:f m=0:=by
     rcases Nat.eq_zero_or_pos (f m) with z | z
     ·exact z
     ·have:1*10 ^ m≤f m*10 ^ m:=Nat.mul_le_mul_right _ z
      omega
    have e2:vT (m+1) f=vT m f:=by show vT m f+f m*10 ^ m=_;rw [h2];simp
    rw [e2]
    exact zwm f n m (by omega) (by rw [e2] at k;exact k)
structure Taken (xs ys:List Nat) (i c:Nat) (zs:List Nat):Prop where
 len:zs.length=i
 small:zdv zs
 car:c≤1
 val:vT i (dig zs)+vT i (dig ys)=vT i (dig xs)+c*10 ^ i
theorem Taken.all {xs ys zs:List Nat} {c:Nat} (h:Taken xs ys xs.length c zs) (hx:zdv xs) (_hy:zdv ys) (hle:zc5 ys≤zc5 xs):zc5 zs+zc5 ys=zc5 xs:=by
 have v:=h.val
 have lx:vT xs.length (dig xs) < 10 ^ xs.length:=vT_lt _ hx _
 have lz:vT xs.length (dig zs) < 10 ^ xs.length:=vT_lt _ h.small _
 have ez:zc5 zs=vT xs.length (dig zs):=by unfold zc5;rw [h.len]
 have ex:zc5 xs=vT xs.length (dig xs):=rfl
 have ey:zc5 ys=vT xs.length (dig ys):=by
  have e:=zf1 ys (m:=xs.length+ys.length) (by omega)
  rw [← e]
  exact zwm _ _ _ (by omega) (by rw [e];omega)
 have hc:=h.car
 have h0:c=0:=by
  rcases Nat.eq_zero_or_pos c with z | z
  ·exact z
  ·obtain rfl:c=1:=by omega
   rw [Nat.one_mul] at v
   omega
 subst h0
 rw [ez,ex,ey]
 omega
end Go.Proofs.YtcfmenkigolnoaaGreatDoor

/- DDU6 -/
namespace Go.Proofs.YtcfmenkigolnoaaGreatDoor
open Go.RowKit
def numR (neg:Bool) (v:Value) (sc:Nat):Value:=.agg #[.bool neg,v,.int .i64 sc]
theorem zvu (a b:List Nat):zce (a++b)=zce a++zce b:=by simp [zce]
end Go.Proofs.YtcfmenkigolnoaaGreatDoor

/- DDU7 -/
namespace Go.Proofs.YtcfmenkigolnoaaGreatDoor
theorem zoc (x t:List UInt8) (h:x.all zbx=true):Lib.cut (x++t) [46]=(x++(Lib.cut t [46]).1,(Lib.cut t [46]).2.1,(Lib.cut t [46]).2.2):=by
 induction x with
 | nil=>rfl
 | cons c r ih=>
   rw [List.all_cons,Bool.and_eq_true] at h
   have hc:c≠46:=fun e=>by rw [e] at h;exact absurd h.1 (by decide)
   rw [List.cons_append,zjv c _ hc,ih h.2]
   rfl
def okP (r:List UInt8):Bool:=digs (Lib.cut r [46]).1 && (!(Lib.cut r [46]).2.2 || digs (Lib.cut r [46]).2.1)
theorem ztt (l:List UInt8):zfk l=if okP (sgn l).2 then some ((sgn l).1,(Lib.cut (sgn l).2 [46]).1,(Lib.cut (sgn l).2 [46]).2.1) else none:=rfl
def Seen (t:List UInt8) (p:Int):Prop:=
 (p=-1∧t.all zbx=true)∨∃ x y,t=x++46::y∧p=x.length∧x.all zbx=true∧y.all zbx=true
theorem Seen.start:Seen [] (-1):=.inl ⟨rfl,rfl⟩
theorem Seen.digit {t:List UInt8} {p:Int} {c:UInt8} (h:Seen t p) (hc:zbx c=true):Seen (t++[c]) p:=by
 rcases h with ⟨e,h⟩ | ⟨x,y,e,hp,hx,hy⟩
 ·exact .inl ⟨e,by rw [List.all_append,h];simp [hc]⟩
 ·exact .inr ⟨x,y++[c],by rw [e];simp,hp,hx,by rw [List.all_append,hy];simp [hc]⟩
theorem Seen.point {t:List UInt8} {p:Int} (h:Seen t p) (hp:p < 0):Seen (t++[46]) t.length:=by
 rcases h with ⟨_,h⟩ | ⟨x,y,_,e,_⟩
 ·exact .inr ⟨t,[],rfl,rfl,h,rfl⟩
 ·omega
theorem ztu {x:List UInt8} {c:UInt8} (hc:zbx c=false) (t:List UInt8):digs (x++c::t)=false:=by
 unfold digs
 rw [List.all_append,List.all_cons,hc]
 simp
theorem Seen.bad {t u:List UInt8} {p:Int} {c:UInt8} (h:Seen t p) (hc:zbx c=false) (hp:c≠46∨0≤p):okP (t++c::u)=false:=by
 unfold okP
 rcases h with ⟨e,h⟩ | ⟨x,y,e,hp',hx,hy⟩
 ·have hn:c≠46:=by rcases hp with k | k
                   ·exact k
                   ·omega
  rw [zoc t _ h,zjv c u hn]
  simp only
  rw [ztu hc]
  rfl
 ·rw [e,show x++46::y++c::u=x++46::(y++c::u) by simp,zoa x _ hx]
  simp only
  rw [ztu hc]
  simp
theorem Seen.all {t:List UInt8} {p:Int} (h:Seen t p):okP t=decide (t.length≠0∧p≠0∧p≠(t.length:Int) - 1):=by
 unfold okP
 rcases h with ⟨e,h⟩ | ⟨x,y,e,hp',hx,hy⟩
 ·have:=zoc t [] h
  rw [List.append_nil,ztk,List.append_nil] at this
  rw [this,e]
  unfold digs
  cases t with
  | nil=>rfl
  | cons c r=>simp [h]
 ·rw [e,zoa x y hx,hp']
  simp only
  unfold digs
  rw [hx,hy]
  cases x with
  | nil=>simp
  | cons c r=>
    cases y with
    | nil=>simp
    | cons d q=>simp;omega
theorem Seen.parts {t:List UInt8} {p:Int} (h:Seen t p):(t.filter (· != 46))=(Lib.cut t [46]).1++(Lib.cut t [46]).2.1∧((Lib.cut t [46]).2.1.length:Int)=if p < 0 then 0 else (t.length:Int) - 1 - p:=by
 have keep:∀ l:List UInt8,l.all zbx=true→l.filter (· != 46)=l:=fun l hl=>by
  rw [List.filter_eq_self]
  intro c hc
  have:=List.all_eq_true.1 hl c hc
  simp only [bne_iff_ne,ne_eq]
  intro e;rw [e] at this;exact absurd this (by decide)
 rcases h with ⟨e,h⟩ | ⟨x,y,e,hp',hx,hy⟩
 ·have:=zoc t [] h
  rw [List.append_nil,ztk,List.append_nil] at this
  rw [this,e]
  simp [keep t h]
 ·rw [e,zoa x y hx,hp']
  simp only [List.filter_append,keep x hx]
  rw [List.filter_cons_of_neg (by simp),keep y hy]
  refine ⟨rfl,?_⟩
  rw [if_neg (by omega)]
  simp;omega
def revD (l:List UInt8):List Nat:=(l.map fun c=>c.toNat - 48).reverse
theorem zh8 (c:UInt8) (l:List UInt8):revD (c::l)=revD l++[c.toNat - 48]:=by simp [revD]
theorem zf2 (l:List UInt8):(revD l).length=l.length:=by simp [revD]
theorem ztv (l:List UInt8):zc5 (revD l)=valD l:=by
 induction l with
 | nil=>rfl
 | cons c r ih=>
   have e:=vT_app (revD r) (c.toNat - 48)
   rw [zh8]
   unfold zc5
   rw [show (revD r++[c.toNat - 48]).length=(revD r).length+1 by simp,e]
   show zc5 (revD r)+_=_
   rw [ih,zf2]
   show _=(c.toNat - 48)*10 ^ r.length+valD r
   omega
theorem zh9 (l:List UInt8) (h:l.all zbx=true):zdv (revD l):=by
 induction l with
 | nil=>intro j;simp [revD,dig]
 | cons c r ih=>
   rw [List.all_cons,Bool.and_eq_true] at h
   rw [zh8]
   exact zts (ih h.2) (by have:=(zcx c).1 h.1;omega)
end Go.Proofs.YtcfmenkigolnoaaGreatDoor

/- DDU8 -/
namespace Go.Proofs.YtcfmenkigolnoaaGreatDoor
open Go.RowKit
theorem ztw:(Tryz.prog.info? 210).map (·.size)=some 3:=by kernel_rfl
def Rec (w:World) (g:Nat) (n:Bool) (v:Value) (sc:Int):Prop:=w.heap[g]?=some (.cells #[.bool n,v,.int .i64 sc] 210)
theorem Rec.lt {w:World} {g:Nat} {n:Bool} {v:Value} {sc:Int} (h:Rec w g n v sc):g < w.heap.size:=zaa h
theorem Rec.below {w w':World} {g:Nat} {n:Bool} {v:Value} {sc:Int} (h:Rec w g n v sc) (k:Below w.heap.size w w'):Rec w' g n v sc:=(k.block g (zaa h)).trans h
theorem Rec.only {w w':World} {g b:Nat} {n:Bool} {v:Value} {sc:Int} (h:Rec w g n v sc) (k:Only b w w') (e:g≠b):Rec w' g n v sc:=(k.block g (zaa h) e).trans h
theorem Rec.alloc {w:World} {g:Nat} {n:Bool} {v:Value} {sc:Int} (h:Rec w g n v sc) (o:Obj):Rec (w.alloc o) g n v sc:=zar _ h
theorem Rec.c1 {w:World} {g:Nat} {n:Bool} {v:Value} {sc:Int} (h:Rec w g n v sc):w.cell? ⟨g,1,none⟩=some v:=zac h _ rfl
theorem Rec.c2 {w:World} {g:Nat} {n:Bool} {v:Value} {sc:Int} (h:Rec w g n v sc):w.cell? ⟨g,2,none⟩=some (.int .i64 sc):=zac h _ rfl
theorem Rec.set1 {w:World} {g:Nat} {n:Bool} {v:Value} {sc:Int} (h:Rec w g n v sc) (u:Value):Rec (w.setCell ⟨g,1,none⟩ u) g n u sc:=za6 h 1 _
theorem Rec.set2 {w:World} {g:Nat} {n:Bool} {v:Value} {sc:Int} (h:Rec w g n v sc) (z:Int):Rec (w.setCell ⟨g,2,none⟩ (.int .i64 z)) g n v z:=za6 h 2 _
theorem zeg {ops:Array Oper} {rest:List Oper} {o:Oper} {a:Act} {w:World} {Q:Exit→Act→World→Prop} {n:Bool} {v:Value} {sc:Int} (x:Operand) (g:Nat) (hg:Rec w g n v sc)
 (hgd:o.guard=none) (ho:o.op=.load 210 x) (hx:a.eval x=.pointer (some ⟨g,0,none⟩))
 (h:wpList Tryz.prog ops Q rest (a.put o.dst (.agg #[.bool n,v,.int .i64 sc])) w):wpList Tryz.prog ops Q (o::rest) a w:=
 wpList_load_row hgd 210 x ho g hx 210 _ (0,0) _ hg Tryz.underlying210 rfl (by exact ztw) h
theorem zbn {ops:Array Oper} {rest:List Oper} {o:Oper} {a:Act} {w:World} {Q:Exit→Act→World→Prop} {n m:Bool} {v u:Value} {sc sd:Int} (x y:Operand) (g:Nat) (hg:Rec w g n v sc) (h1:u.oneCell'=true)
 (hgd:o.guard=none) (ho:o.op=.store 210 x y) (hx:a.eval x=.pointer (some ⟨g,0,none⟩)) (hy:a.eval y=.agg #[.bool m,u,.int .i64 sd])
 (h:∀ w',Only g w w'→Rec w' g m u sd→wpList Tryz.prog ops Q rest (a.put o.dst undef) w'):wpList Tryz.prog ops Q (o::rest) a w:=
 wpList_plain hgd fun _ hK=>by
  unfold Oper.wp execOp
  simp only [ho,hx,hy,Instr.storeAt,Instr.sureAddr,Sem.run_bind,Sem.run_pure,Result.andThen_ok,run_storeVar_row (P:=Tryz.prog) w g 210 210 _ #[.bool m,u,.int .i64 sd] hg (by exact ztw) rfl (by simp [h1];exact ⟨rfl,rfl⟩)]
  exact hK _ _ (h _ (Only.setRow w _) (zc7 hg))
theorem zdw {fn:Func} {p q:Tmp} (h:fn.results=#[.cell p 210,.tmp q]) (tmps:Array Value) {w:World} {g:Nat} {n:Bool} {v:Value} {sc:Int} (x:Value)
 (hp:tmps.getD p undef=.pointer (some ⟨g,0,none⟩)) (hq:tmps.getD q undef=x) (hg:Rec w g n v sc):(results fn tmps).run Tryz.prog w=.ok (.tuple #[.agg #[.bool n,v,.int .i64 sc],x]) w:=by
 have hp':tmps[p]?.getD undef=.pointer (some ⟨g,0,none⟩):=by simpa using hp
 have hq':tmps[q]?.getD undef=x:=by simpa using hq
 have hl:=run_loadVar_row (P:=Tryz.prog) w g 210 210 _ (0,0) _ hg Tryz.underlying210 rfl (by exact ztw)
 simp [results,h,hp',hq',asAddr,hl]
end Go.Proofs.YtcfmenkigolnoaaGreatDoor
