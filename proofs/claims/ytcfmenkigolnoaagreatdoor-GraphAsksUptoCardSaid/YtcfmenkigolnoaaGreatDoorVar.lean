/- Texts of one kind, one behind the other: each says ahead of itself what it shows. -/
import Derived.Test.YtcfmenkigolnoaaGreatDoorVaq
import Derived.WalkKit
import Derived.OwnWalk
import Derived.Deep.QuietTactic
import Derived.BigQuiet
import Derived.Laws.AppendOwnNone
import Derived.BigGuardPart
import Derived.StillTailTactics
import Derived.Deep.RegionLaw
import Derived.Deep.AppendLies
import Derived.IntWalk
import Derived.Deep.DeepCutAuto
/- DDU1 -/
namespace Go.Proofs.YtcfmenkigolnoaaGreatDoor
open Go.RowKit
def vT:Nat→(Nat→Nat)→Nat
 | 0,_=>0
 | n+1,f=>vT n f+f n*10 ^ n
theorem vT_lt (f:Nat→Nat) (h:∀ j,f j≤9):∀ n,vT n f < 10 ^ n
 | 0=>by simp [vT]
 | n+1=>by
   have:=vT_lt f h n
   have h2:f n*10 ^ n≤9*10 ^ n:=Nat.mul_le_mul_right _ (h n)
   show vT n f+f n*10 ^ n < 10 ^ (n+1)
   rw [Nat.pow_succ];omega
theorem vT_eq (f g:Nat→Nat):∀ n,(∀ j,j < n→f j=g j)→vT n f=vT n g
 | 0,_=>rfl
 | n+1,h=>by
   show vT n f+f n*10 ^ n=vT n g+g n*10 ^ n
   rw [vT_eq f g n (fun j hj=>h j (by omega)),h n (by omega)]
theorem zy4 (f:Nat→Nat) (n:Nat) (h:∀ j,n≤j→f j=0):∀ m,n≤m→vT m f=vT n f
 | 0,hm=>by rw [Nat.le_zero.1 hm]
 | m+1,hm=>by
   by_cases e:n=m+1
   ·rw [e]
   ·show vT m f+f m*10 ^ m=_
    rw [zy4 f n h m (by omega),h m (by omega)];simp
def dig (ds:List Nat) (j:Nat):Nat:=ds.getD j 0
theorem zg8 {ds:List Nat} {j:Nat} (h:ds.length≤j):dig ds j=0:=by simp [dig,List.getD,h]
def zdg (ds:List Nat):Nat:=vT ds.length (dig ds)
def zd7 (ds:List Nat):Prop:=∀ j,dig ds j≤9
theorem zgt (ds:List Nat) {m:Nat} (h:ds.length≤m):vT m (dig ds)=zdg ds:=zy4 _ _ (fun _ hj=>zg8 hj) m h
def Ints (w:World) (v:Value) (ds:List Nat):Prop:=
 (v=.slice none 0 0∧ds=[])∨∃ b off cap,v=.slice (some ⟨b,off,none⟩) ds.length cap∧(∀ i,i < ds.length→w.cell? ⟨b,off+i,none⟩=some (.int .i64 (dig ds i)))∧∃ cs,w.heap[b]?=some (.cells cs 3 (0,0))
theorem Ints.below {w w':World} {v:Value} {ds:List Nat} (h:Ints w v ds) (k:Below w.heap.size w w'):Ints w' v ds:=by
 rcases h with h | ⟨b,off,cap,e,hc,cs,hk⟩
 ·exact .inl h
 ·exact .inr ⟨b,off,cap,e,fun i hi=>(k.cell (p:=⟨b,off+i,none⟩) (World.block_lt_of_cell? w _ (hc i hi))).trans (hc i hi),cs,(k.block b (zaa hk)).trans hk⟩
theorem Ints.only {w w':World} {v:Value} {ds:List Nat} {g:Nat} {cs:Array Value} {t:TypeId} (h:Ints w v ds) (k:Only g w w') (hg:w.heap[g]?=some (.cells cs t (0,0))) (ht:t≠3):Ints w' v ds:=by
 rcases h with h | ⟨b,off,cap,e,hc,cs2,hk⟩
 ·exact .inl h
 ·have hne:b≠g:=fun x=>by
   rw [x,hg] at hk
   injection hk with hk
   injection hk with _ h2 _
   exact ht h2
  have hb:=(k.block b (zaa hk) hne)
  exact .inr ⟨b,off,cap,e,fun i hi=>(World.cell?_of_block (w:=w) (a:=⟨b,off+i,none⟩) hb).trans (hc i hi),cs2,hb.trans hk⟩
theorem zkg (c:Nat) (w:World) (hc:c < 256):Calls Tryz.prog 190 #[.int .u8 c] w fun e w'=>e=.returned (.bool (decide (48≤c∧c≤57)))∧w=w':=by
 by_cases h1:(48:Int)≤c
 ·by_cases h2:(c:Int)≤57
  ·have:decide (48≤c∧c≤57)=true:=by simp;omega
   rw [this]
   go_enter Tryz.func190,Tryz.ntmps190
   go_wp2
   go_ret
   exact ⟨rfl,rfl⟩
  ·have:decide (48≤c∧c≤57)=false:=by simp;omega
   rw [this]
   go_enter Tryz.func190,Tryz.ntmps190
   go_wp2
   go_ret
   exact ⟨by simp,rfl⟩
 ·have:decide (48≤c∧c≤57)=false:=by simp;omega
  rw [this]
  go_enter Tryz.func190,Tryz.ntmps190
  go_wp2
  go_ret
  exact ⟨by simp,rfl⟩
def dgI (ds:List Nat) (i:Int):Nat:=if i < 0 then 0 else dig ds i.toNat
theorem refAt (v:Value) (ds:List Nat) (i:Int) (w:World) (h:Ints w v ds):Calls Tryz.prog 191 #[v,.int .i64 i] w fun e w'=>e=.returned (.int .i64 (dgI ds i))∧w=w':=by
 unfold dgI
 by_cases h0:i < 0
 ·rw [if_pos h0]
  rcases h with ⟨rfl,rfl⟩ | ⟨b,off,cap,rfl,hc,hty⟩
  ·go_enter Tryz.func191,Tryz.ntmps191
   go_wp2
   go_ret
   exact ⟨rfl,rfl⟩
  ·clear hc
   go_enter Tryz.func191,Tryz.ntmps191
   go_wp2
   go_ret
   exact ⟨rfl,rfl⟩
 ·rw [if_neg h0]
  obtain ⟨k,rfl⟩:=Int.eq_ofNat_of_zero_le (Int.not_lt.1 h0)
  rw [show ((k:Int)).toNat=k by omega]
  rcases h with ⟨rfl,rfl⟩ | ⟨b,off,cap,rfl,hc,hty⟩
  ·rw [zg8 (by simp)]
   have hk:(k:Int) ≥ 0:=by omega
   go_enter Tryz.func191,Tryz.ntmps191
   go_wp2
   go_ret
   exact ⟨rfl,rfl⟩
  ·by_cases hl:(ds.length:Int)≤k
   ·rw [zg8 (by omega)]
    clear hc
    generalize ds.length=n at*
    go_enter Tryz.func191,Tryz.ntmps191
    go_wp2
    go_ret
    exact ⟨rfl,rfl⟩
   ·have c1:=hc k (by omega)
    clear hc
    generalize dig ds k=x at*
    generalize ds.length=n at*
    go_enter Tryz.func191,Tryz.ntmps191
    go_wp2
    go_ret
    exact ⟨rfl,rfl⟩
end Go.Proofs.YtcfmenkigolnoaaGreatDoor

/- DDU2 -/
namespace Go.Proofs.YtcfmenkigolnoaaGreatDoor
open Go.RowKit
theorem zr4 (ds:List Nat):zdg ds=0↔∀ j,j < ds.length→dig ds j=0:=by
 unfold zdg
 generalize dig ds=f
 generalize ds.length=n
 induction n with
 | zero=>simp [vT]
 | succ n ih=>
   show vT n f+f n*10 ^ n=0↔_
   have hp:0 < 10 ^ n:=Nat.pow_pos (show 0 < 10 by decide)
   constructor
   ·intro h j hj
    have h1:vT n f=0:=by omega
    have h2:f n*10 ^ n=0:=by omega
    rcases Nat.lt_or_ge j n with h3 | h3
    ·exact ih.1 h1 j h3
    ·obtain rfl:j=n:=by omega
     rcases Nat.mul_eq_zero.1 h2 with h4 | h4
     ·exact h4
     ·omega
   ·intro h
    rw [ih.2 (fun j hj=>h j (by omega)),h n (by omega)];simp
set_option maxHeartbeats 800000 in
theorem zvp (v:Value) (ds:List Nat) (w:World) (h:Ints w v ds) (hn:ds.length≤9223372036854775807) (d:Bool) (hd:d=decide (zdg ds=0)):Calls Tryz.prog 192 #[v] w fun e w'=>e=.returned (.bool d)∧w=w':=by
 rcases h with ⟨rfl,rfl⟩ | ⟨b,off,cap,rfl,hc,hty⟩
 ·obtain rfl:d=true:=by rw [hd];rfl
  clear hd
  go_enter Tryz.func192,Tryz.ntmps192
  go_wp2_with fail
  go_loopg [3] 0 (fun gg s3 wr=>gg=0∧s3=.int .i64 0∧wr=w)
  case atStart=>exact ⟨rfl,rfl,rfl⟩
  case round=>
   obtain ⟨_,rfl,rfl⟩:=hrel
   go_wp2
   go_ret
   exact ⟨rfl,rfl⟩
 ·have hz:=zr4 ds
  have HZ:=Lib.hid hz
  have HD:=Lib.hid hd
  clear hz hd
  go_enter Tryz.func192,Tryz.ntmps192
  go_wp2_with fail
  go_loopg [3] ds.length (fun gg s3 wr=>∃ i:Nat,i+gg=ds.length∧s3=.int .i64 i∧wr=w∧Aside (∀ j,j < i→dig ds j=0))
  case atStart=>exact ⟨0,by omega,rfl,rfl,fun j hj=>absurd hj (Nat.not_lt_zero j)⟩
  case round=>
   obtain ⟨i,hi,rfl,rfl,hall⟩:=hrel
   have HA:=Lib.hid hall.out
   clear hall
   by_cases hlt:(i:Int) < ds.length
   ·have c1:=hc i (by omega)
    by_cases hx:dig ds i=0
    ·rw [hx] at c1
     have hall2:∀ j,j < i+1→dig ds j=0:=fun j hj=>by
      rcases Nat.lt_or_ge j i with h3 | h3
      ·exact HA.out j h3
      ·rw [show j=i by omega];exact hx
     have HA2:=Lib.hid hall2
     clear hall2 HA hc hx
     generalize ds.length=n at*
     go_wp2_with fail
     go_roundg (gk - 1)
     case measure=>omega
     case rel=>exact ⟨i+1,by omega,by go_num,rfl,HA2.out⟩
    ·obtain rfl:d=false:=by
      rw [HD.out]
      have:=mt HZ.out.1 (fun h=>hx (h i (by omega)))
      simp [this]
     have hx1:¬ (dig ds i:Int)=0:=by omega
     clear hc HA hx HD HZ
     generalize dig ds i=x at*
     generalize ds.length=n at*
     go_wp2_with fail
     go_ret
     exact ⟨rfl,rfl⟩
   ·obtain rfl:d=true:=by
     rw [HD.out]
     have:=HZ.out.2 (fun j hj=>HA.out j (by omega))
     simp [this]
    clear hc HA HD HZ
    generalize ds.length=n at*
    go_wp2_with fail
    go_ret
    exact ⟨rfl,rfl⟩
end Go.Proofs.YtcfmenkigolnoaaGreatDoor

/- DDU3 -/
namespace Go.Proofs.YtcfmenkigolnoaaGreatDoor
open Go.RowKit
theorem dgI_nat (ds:List Nat) (k:Nat):dgI ds k=dig ds k:=by unfold dgI;rw [if_neg (by omega)];congr 1
theorem zqw (v:Value) (ds:List Nat) (k:Nat) (x:Nat) (w:World) (h:Ints w v ds) (hx:Hid (x=dig ds k)):Calls Tryz.prog 191 #[v,.int .i64 k] w fun e w'=>e=.returned (.int .i64 x)∧w=w':=
 (refAt v ds k w h).mono fun _ _ ⟨h1,h2⟩=>⟨by rw [h1,dgI_nat,hx.out],h2⟩
theorem Ints.form {w:World} {v:Value} {ds:List Nat} (h:Ints w v ds):∃ p cap,v=.slice p ds.length cap:=by
 rcases h with ⟨rfl,rfl⟩ | ⟨b,off,cap,rfl,_,_⟩
 ·exact ⟨_,_,rfl⟩
 ·exact ⟨_,_,rfl⟩
end Go.Proofs.YtcfmenkigolnoaaGreatDoor

/- DDU4 -/
namespace Go.Proofs.YtcfmenkigolnoaaGreatDoor
open Go.RowKit
theorem info3:(Tryz.prog.info? 3).map (fun i=>(i.zero,i.size,i.bytes))=some (some (.int .i64 0),1,8):=by kernel_rfl
def zck (ds:List Nat):List Value:=ds.map fun (d:Nat)=>Value.int .i64 (d:Int)
theorem zkh {ds:List Nat} {d j:Nat} (h:j < ds.length):dig (ds++[d]) j=dig ds j:=by
 simp [dig,List.getD,List.getElem?_append_left h]
theorem zki (ds:List Nat) (d:Nat):dig (ds++[d]) ds.length=d:=by
 simp [dig,List.getD]
theorem zvq {ds:List Nat} {d:Nat} (h:zd7 ds) (hd:d≤9):zd7 (ds++[d]):=by
 intro j
 rcases Nat.lt_trichotomy j ds.length with k | k | k
 ·rw [zkh k];exact h j
 ·rw [k,zki];exact hd
 ·rw [zg8 (by simp;omega)];omega
theorem vT_app (ds:List Nat) (d:Nat):vT (ds.length+1) (dig (ds++[d]))=vT ds.length (dig ds)+d*10 ^ ds.length:=by
 show vT ds.length (dig (ds++[d]))+dig (ds++[d]) ds.length*10 ^ ds.length=_
 rw [vT_eq (dig (ds++[d])) (dig ds) ds.length (fun j hj=>zkh hj),zki]
theorem zho {w:World} {base n:Nat} {v:Value} {ds:List Nat} (h:w.ownsRow base 3 1 v n (zck ds)) (hn:n=ds.length):Ints w v ds:=by
 subst hn
 rcases h.2 with ⟨e,h0⟩ | ⟨g,cap,cur,e,_,hk,_⟩
 ·exact .inl ⟨e,List.length_eq_zero_iff.1 h0⟩
 ·refine .inr ⟨g,0,cap,e,fun i hi=>?_,cur,hk⟩
  subst e
  have:=h.cellAt i (by omega)
  rw [Nat.zero_add,this]
  unfold zck dig
  rw [List.getElem?_map,List.getElem?_eq_getElem hi]
  simp [List.getD,hi]
structure Added (xs ys:List Nat) (i c:Nat) (zs:List Nat):Prop where
 len:zs.length=i
 small:zd7 zs
 car:c≤1
 val:vT i (dig zs)+c*10 ^ i=vT i (dig xs)+vT i (dig ys)
 done:xs.length < i→ys.length < i→c=0
theorem Added.all {xs ys zs:List Nat} {i:Nat} (h:Added xs ys i 0 zs) (hx:xs.length≤i) (hy:ys.length≤i):zdg zs=zdg xs+zdg ys:=by
 have v:=h.val
 rw [zgt xs hx,zgt ys hy] at v
 unfold zdg
 rw [h.len]
 unfold zdg at v
 omega
end Go.Proofs.YtcfmenkigolnoaaGreatDoor

/- DDU5 -/
namespace Go.Proofs.YtcfmenkigolnoaaGreatDoor
open Go.RowKit
theorem zy5 (f:Nat→Nat) (n:Nat):∀ m,n≤m→vT m f < 10 ^ n→vT m f=vT n f
 | 0,h,_=>by rw [Nat.le_zero.1 h]
 | m+1,h,k=>by
   by_cases e:n=m+1
   ·rw [e]
   ·have h1:10 ^ n≤10 ^ m:=Nat.pow_le_pow_right (by omega) (by omega)
    have k':vT m f+f m*10 ^ m < 10 ^ n:=k
    have h2:f m=0:=by
     rcases Nat.eq_zero_or_pos (f m) with z | z
     ·exact z
     ·have:1*10 ^ m≤f m*10 ^ m:=Nat.mul_le_mul_right _ z
      omega
    have e2:vT (m+1) f=vT m f:=by show vT m f+f m*10 ^ m=_;rw [h2];simp
    rw [e2]
    exact zy5 f n m (by omega) (by rw [e2] at k;exact k)
structure Taken (xs ys:List Nat) (i c:Nat) (zs:List Nat):Prop where
 len:zs.length=i
 small:zd7 zs
 car:c≤1
 val:vT i (dig zs)+vT i (dig ys)=vT i (dig xs)+c*10 ^ i
theorem Taken.all {xs ys zs:List Nat} {c:Nat} (h:Taken xs ys xs.length c zs) (hx:zd7 xs) (hy:zd7 ys) (hle:zdg ys≤zdg xs):zdg zs+zdg ys=zdg xs:=by
 have v:=h.val
 have lx:vT xs.length (dig xs) < 10 ^ xs.length:=vT_lt _ hx _
 have lz:vT xs.length (dig zs) < 10 ^ xs.length:=vT_lt _ h.small _
 have ez:zdg zs=vT xs.length (dig zs):=by unfold zdg;rw [h.len]
 have ex:zdg xs=vT xs.length (dig xs):=rfl
 have ey:zdg ys=vT xs.length (dig ys):=by
  have e:=zgt ys (m:=xs.length+ys.length) (by omega)
  rw [← e]
  exact zy5 _ _ _ (by omega) (by rw [e];omega)
 have hc:=h.car
 have h0:c=0:=by
  rcases Nat.eq_zero_or_pos c with z | z
  ·exact z
  ·obtain rfl:c=1:=by omega
   rw [Nat.one_mul] at v
   omega
 subst h0
 rw [ez,ex,ey]
 omega
end Go.Proofs.YtcfmenkigolnoaaGreatDoor

/- DDU6 -/
namespace Go.Proofs.YtcfmenkigolnoaaGreatDoor
open Go.RowKit
def numR (neg:Bool) (v:Value) (sc:Nat):Value:=.agg #[.bool neg,v,.int .i64 sc]
theorem zx2 (a b:List Nat):zck (a++b)=zck a++zck b:=by simp [zck]
end Go.Proofs.YtcfmenkigolnoaaGreatDoor

/- DDU7 -/
namespace Go.Proofs.YtcfmenkigolnoaaGreatDoor
theorem zpp (x t:List UInt8) (h:x.all zbz=true):Lib.cut (x++t) [46]=(x++(Lib.cut t [46]).1,(Lib.cut t [46]).2.1,(Lib.cut t [46]).2.2):=by
 induction x with
 | nil=>rfl
 | cons c r ih=>
   rw [List.all_cons,Bool.and_eq_true] at h
   have hc:c≠46:=fun e=>by rw [e] at h;exact absurd h.1 (by decide)
   rw [List.cons_append,zk1 c _ hc,ih h.2]
   rfl
def okP (r:List UInt8):Bool:=digs (Lib.cut r [46]).1 && (!(Lib.cut r [46]).2.2 || digs (Lib.cut r [46]).2.1)
theorem zvr (l:List UInt8):zgd l=if okP (sgn l).2 then some ((sgn l).1,(Lib.cut (sgn l).2 [46]).1,(Lib.cut (sgn l).2 [46]).2.1) else none:=rfl
def Seen (t:List UInt8) (p:Int):Prop:=
 (p=-1∧t.all zbz=true)∨∃ x y,t=x++46::y∧p=x.length∧x.all zbz=true∧y.all zbz=true
theorem Seen.start:Seen [] (-1):=.inl ⟨rfl,rfl⟩
theorem Seen.digit {t:List UInt8} {p:Int} {c:UInt8} (h:Seen t p) (hc:zbz c=true):Seen (t++[c]) p:=by
 rcases h with ⟨e,h⟩ | ⟨x,y,e,hp,hx,hy⟩
 ·exact .inl ⟨e,by rw [List.all_append,h];simp [hc]⟩
 ·exact .inr ⟨x,y++[c],by rw [e];simp,hp,hx,by rw [List.all_append,hy];simp [hc]⟩
theorem Seen.point {t:List UInt8} {p:Int} (h:Seen t p) (hp:p < 0):Seen (t++[46]) t.length:=by
 rcases h with ⟨_,h⟩ | ⟨x,y,_,e,_⟩
 ·exact .inr ⟨t,[],rfl,rfl,h,rfl⟩
 ·omega
theorem zvs {x:List UInt8} {c:UInt8} (hc:zbz c=false) (t:List UInt8):digs (x++c::t)=false:=by
 unfold digs
 rw [List.all_append,List.all_cons,hc]
 simp
theorem Seen.bad {t u:List UInt8} {p:Int} {c:UInt8} (h:Seen t p) (hc:zbz c=false) (hp:c≠46∨0≤p):okP (t++c::u)=false:=by
 unfold okP
 rcases h with ⟨e,h⟩ | ⟨x,y,e,hp',hx,hy⟩
 ·have hn:c≠46:=by rcases hp with k | k
                   ·exact k
                   ·omega
  rw [zpp t _ h,zk1 c u hn]
  simp only
  rw [zvs hc]
  rfl
 ·rw [e,show x++46::y++c::u=x++46::(y++c::u) by simp,zpn x _ hx]
  simp only
  rw [zvs hc]
  simp
theorem Seen.all {t:List UInt8} {p:Int} (h:Seen t p):okP t=decide (t.length≠0∧p≠0∧p≠(t.length:Int) - 1):=by
 unfold okP
 rcases h with ⟨e,h⟩ | ⟨x,y,e,hp',hx,hy⟩
 ·have:=zpp t [] h
  rw [List.append_nil,zvi,List.append_nil] at this
  rw [this,e]
  unfold digs
  cases t with
  | nil=>rfl
  | cons c r=>simp [h]
 ·rw [e,zpn x y hx,hp']
  simp only
  unfold digs
  rw [hx,hy]
  cases x with
  | nil=>simp
  | cons c r=>
    cases y with
    | nil=>simp
    | cons d q=>simp;omega
theorem Seen.parts {t:List UInt8} {p:Int} (h:Seen t p):(t.filter (· != 46))=(Lib.cut t [46]).1++(Lib.cut t [46]).2.1∧((Lib.cut t [46]).2.1.length:Int)=if p < 0 then 0 else (t.length:Int) - 1 - p:=by
 have keep:∀ l:List UInt8,l.all zbz=true→l.filter (· != 46)=l:=fun l hl=>by
  rw [List.filter_eq_self]
  intro c hc
  have:=List.all_eq_true.1 hl c hc
  simp only [bne_iff_ne,ne_eq]
  intro e;rw [e] at this;exact absurd this (by decide)
 rcases h with ⟨e,h⟩ | ⟨x,y,e,hp',hx,hy⟩
 ·have:=zpp t [] h
  rw [List.append_nil,zvi,List.append_nil] at this
  rw [this,e]
  simp [keep t h]
 ·rw [e,zpn x y hx,hp']
  simp only [List.filter_append,keep x hx]
  rw [List.filter_cons_of_neg (by simp),keep y hy]
  refine ⟨rfl,?_⟩
  rw [if_neg (by omega)]
  simp;omega
def revD (l:List UInt8):List Nat:=(l.map fun c=>c.toNat - 48).reverse
theorem zja (c:UInt8) (l:List UInt8):revD (c::l)=revD l++[c.toNat - 48]:=by simp [revD]
theorem zgu (l:List UInt8):(revD l).length=l.length:=by simp [revD]
theorem zvt (l:List UInt8):zdg (revD l)=valD l:=by
 induction l with
 | nil=>rfl
 | cons c r ih=>
   have e:=vT_app (revD r) (c.toNat - 48)
   rw [zja]
   unfold zdg
   rw [show (revD r++[c.toNat - 48]).length=(revD r).length+1 by simp,e]
   show zdg (revD r)+_=_
   rw [ih,zgu]
   show _=(c.toNat - 48)*10 ^ r.length+valD r
   omega
theorem zjb (l:List UInt8) (h:l.all zbz=true):zd7 (revD l):=by
 induction l with
 | nil=>intro j;simp [revD,dig]
 | cons c r ih=>
   rw [List.all_cons,Bool.and_eq_true] at h
   rw [zja]
   exact zvq (ih h.2) (by have:=(zc9 c).1 h.1;omega)
end Go.Proofs.YtcfmenkigolnoaaGreatDoor

/- DDU8 -/
namespace Go.Proofs.YtcfmenkigolnoaaGreatDoor
open Go.RowKit
theorem zvu:(Tryz.prog.info? 210).map (·.size)=some 3:=by kernel_rfl
def Rec (w:World) (g:Nat) (n:Bool) (v:Value) (sc:Int):Prop:=w.heap[g]?=some (.cells #[.bool n,v,.int .i64 sc] 210)
theorem Rec.lt {w:World} {g:Nat} {n:Bool} {v:Value} {sc:Int} (h:Rec w g n v sc):g < w.heap.size:=zaa h
theorem Rec.below {w w':World} {g:Nat} {n:Bool} {v:Value} {sc:Int} (h:Rec w g n v sc) (k:Below w.heap.size w w'):Rec w' g n v sc:=(k.block g (zaa h)).trans h
theorem Rec.only {w w':World} {g b:Nat} {n:Bool} {v:Value} {sc:Int} (h:Rec w g n v sc) (k:Only b w w') (e:g≠b):Rec w' g n v sc:=(k.block g (zaa h) e).trans h
theorem Rec.alloc {w:World} {g:Nat} {n:Bool} {v:Value} {sc:Int} (h:Rec w g n v sc) (o:Obj):Rec (w.alloc o) g n v sc:=zat _ h
theorem Rec.c1 {w:World} {g:Nat} {n:Bool} {v:Value} {sc:Int} (h:Rec w g n v sc):w.cell? ⟨g,1,none⟩=some v:=zac h _ rfl
theorem Rec.c2 {w:World} {g:Nat} {n:Bool} {v:Value} {sc:Int} (h:Rec w g n v sc):w.cell? ⟨g,2,none⟩=some (.int .i64 sc):=zac h _ rfl
theorem Rec.set1 {w:World} {g:Nat} {n:Bool} {v:Value} {sc:Int} (h:Rec w g n v sc) (u:Value):Rec (w.setCell ⟨g,1,none⟩ u) g n u sc:=zbe h 1 _
theorem Rec.set2 {w:World} {g:Nat} {n:Bool} {v:Value} {sc:Int} (h:Rec w g n v sc) (z:Int):Rec (w.setCell ⟨g,2,none⟩ (.int .i64 z)) g n v z:=zbe h 2 _
theorem ze2 {ops:Array Oper} {rest:List Oper} {o:Oper} {a:Act} {w:World} {Q:Exit→Act→World→Prop} {n:Bool} {v:Value} {sc:Int} (x:Operand) (g:Nat) (hg:Rec w g n v sc)
 (hgd:o.guard=none) (ho:o.op=.load 210 x) (hx:a.eval x=.pointer (some ⟨g,0,none⟩))
 (h:wpList Tryz.prog ops Q rest (a.put o.dst (.agg #[.bool n,v,.int .i64 sc])) w):wpList Tryz.prog ops Q (o::rest) a w:=
 wpList_load_row hgd 210 x ho g hx 210 _ (0,0) _ hg Tryz.underlying210 rfl (by exact zvu) h
theorem zbt {ops:Array Oper} {rest:List Oper} {o:Oper} {a:Act} {w:World} {Q:Exit→Act→World→Prop} {n m:Bool} {v u:Value} {sc sd:Int} (x y:Operand) (g:Nat) (hg:Rec w g n v sc) (h1:u.oneCell'=true)
 (hgd:o.guard=none) (ho:o.op=.store 210 x y) (hx:a.eval x=.pointer (some ⟨g,0,none⟩)) (hy:a.eval y=.agg #[.bool m,u,.int .i64 sd])
 (h:∀ w',Only g w w'→Rec w' g m u sd→wpList Tryz.prog ops Q rest (a.put o.dst undef) w'):wpList Tryz.prog ops Q (o::rest) a w:=
 wpList_plain hgd fun _ hK=>by
  unfold Oper.wp execOp
  simp only [ho,hx,hy,Instr.storeAt,Instr.sureAddr,Sem.run_bind,Sem.run_pure,Result.andThen_ok,run_storeVar_row (P:=Tryz.prog) w g 210 210 _ #[.bool m,u,.int .i64 sd] hg (by exact zvu) rfl (by simp [h1];exact ⟨rfl,rfl⟩)]
  exact hK _ _ (h _ (Only.setRow w _) (zb3 hg))
theorem zd8 {fn:Func} {p q:Tmp} (h:fn.results=#[.cell p 210,.tmp q]) (tmps:Array Value) {w:World} {g:Nat} {n:Bool} {v:Value} {sc:Int} (x:Value)
 (hp:tmps.getD p undef=.pointer (some ⟨g,0,none⟩)) (hq:tmps.getD q undef=x) (hg:Rec w g n v sc):(results fn tmps).run Tryz.prog w=.ok (.tuple #[.agg #[.bool n,v,.int .i64 sc],x]) w:=by
 have hp':tmps[p]?.getD undef=.pointer (some ⟨g,0,none⟩):=by simpa using hp
 have hq':tmps[q]?.getD undef=x:=by simpa using hq
 have hl:=run_loadVar_row (P:=Tryz.prog) w g 210 210 _ (0,0) _ hg Tryz.underlying210 rfl (by exact zvu)
 simp [results,h,hp',hq',asAddr,hl]
end Go.Proofs.YtcfmenkigolnoaaGreatDoor

/- DDU9 -/
namespace Go.Proofs.YtcfmenkigolnoaaGreatDoor
open Go.RowKit
theorem zju {w:World} {b g:Nat} {x:Obj} (h:w.heap[g]?=some x) (o:Nat) (v:Value) (e:b≠g):(w.setCell ⟨b,o,none⟩ v).heap[g]?=some x:=by
 simp [World.setCell,Array.getElem?_modify,h]
 intro k;exact absurd k e
theorem Rec.other {w:World} {g b:Nat} {n:Bool} {v:Value} {sc:Int} (h:Rec w g n v sc) (o:Nat) (u:Value) (e:b≠g):Rec (w.setCell ⟨b,o,none⟩ u) g n v sc:=zju h o u e
theorem zx3 {l:List UInt8} (h:¬ ((l.headD 0).toNat=45∨(l.headD 0).toNat=43)):sgn l=(false,l):=by
 cases l with
 | nil=>rfl
 | cons c r=>
   have h1:c≠45:=fun e=>h (.inl (by rw [e];rfl))
   have h2:c≠43:=fun e=>h (.inr (by rw [e];rfl))
   simp [sgn,h1,h2]
theorem zvv {l:List UInt8} (h:(l.headD 0).toNat=45):sgn l=(true,l.drop 1):=by
 cases l with
 | nil=>exact absurd h (by decide)
 | cons c r=>
   have h1:c=45:=UInt8.toNat_inj.1 h
   simp [sgn,h1]
theorem zx4 {l:List UInt8} (h:(l.headD 0).toNat=43):sgn l=(false,l.drop 1):=by
 cases l with
 | nil=>exact absurd h (by decide)
 | cons c r=>
   have h1:c=43:=UInt8.toNat_inj.1 h
   simp [sgn,h1]
theorem zjc (s:ByteArray):s.extract 1 s.size=bs (s.data.toList.drop 1):=by
 apply zdq
 rw [Lib.extract_to_end]
theorem zvw (c:UInt8) (d:Bool) (w:World) (h:Hid (d=zbz c)):Calls Tryz.prog 190 #[.int .u8 c.toNat] w fun e w'=>e=.returned (.bool d)∧w=w':=
 (zkg c.toNat w c.toNat_lt).mono fun _ _ ⟨h1,h2⟩=>⟨by
   rw [h1,h.out]
   congr 2
   rw [Bool.eq_iff_iff,zc9]
   simp
   omega,h2⟩
theorem Seen.mem {t:List UInt8} {p:Int} (h:Seen t p) (c:UInt8) (hc:c∈t) (hn:c≠46):zbz c=true:=by
 rcases h with ⟨_,h⟩ | ⟨x,y,e,_,hx,hy⟩
 ·exact List.all_eq_true.1 h c hc
 ·rw [e,List.mem_append,List.mem_cons] at hc
  rcases hc with k | k | k
  ·exact List.all_eq_true.1 hx c k
  ·exact absurd k hn
  ·exact List.all_eq_true.1 hy c k
theorem zob {wr w1:World} {v u:Value} {o:Obj} {g base e size n:Nat} {xs:List Value} {N:Bool} {sc:Int} (hgrow:((wr.alloc o).drew).grownBy w1 v.ownBlock) (k1:Rec wr g N u sc) (hown:wr.ownsRow base e size v n xs) (hg:g < base):Rec w1 g N u sc:=
 (hgrow.block g (zaa (k1.alloc o)) (fun h=>by have:=(hown.lt _ h.symm).1;omega)).trans (k1.alloc o)
theorem zr5 {w wr w1:World} {v:Value} {o:Obj} {B base e size n:Nat} {xs:List Value} (hgrow:((wr.alloc o).drew).grownBy w1 v.ownBlock) (hb:Below B w wr) (hs:B≤wr.heap.size) (hown:wr.ownsRow base e size v n xs) (hg:B≤base):Below B w w1:=
 Below.grown ((hb.alloc hs o).drew) hgrow (by show B≤(wr.alloc o).heap.size;simp;omega) (fun k hk=>by have:=(hown.lt k hk).1;omega)
theorem zoc {w w':World} {base b e size n:Nat} {v:Value} {xs:List Value} (h:w.ownsRow base e size v n xs) (k:Only b w w') (hb:b < base):w'.ownsRow base e size v n xs:=
 ⟨h.1,h.2.elim .inl fun ⟨g,cap,cur,e1,e2,e3,r⟩=>.inr ⟨g,cap,cur,e1,e2,(k.block g (zaa e3) (by omega)).trans e3,r⟩⟩
theorem zvx (w:World):Calls Tryz.prog 190 #[.int .u8 46] w fun e w'=>e=.returned (.bool false)∧w=w':=zkg 46 w (by omega)
set_option maxRecDepth 20000 in
set_option maxHeartbeats 3200000 in
theorem zod (s:ByteArray) (w:World) (hs:s.size≤1000000000):
 Calls Tryz.prog 185 #[.string s] w fun e w'=>Below w.heap.size w w'∧(okP (sgn s.data.toList).2=false→e=.returned (.tuple #[numR false (.slice none 0 0) 0,.bool false]))∧
  (okP (sgn s.data.toList).2=true→∃ v,e=.returned (.tuple #[numR (sgn s.data.toList).1 v (Lib.cut (sgn s.data.toList).2 [46]).2.1.length,.bool true])∧Ints w' v (revD ((Lib.cut (sgn s.data.toList).2 [46]).1++(Lib.cut (sgn s.data.toList).2 [46]).2.1))):=by
 obtain ⟨r,hr⟩:∃ r,r=(sgn s.data.toList).2:=⟨_,rfl⟩
 obtain ⟨R,hR⟩:∃ R:ByteArray,R=bs r:=⟨_,rfl⟩
 obtain ⟨N,hN⟩:∃ N:Bool,N=(sgn s.data.toList).1:=⟨_,rfl⟩
 have hrl:r.length=R.size:=by rw [hR];exact Array.length_toList
 have hsz:R.size≤1000000000:=by
  have h1:=zkr s.data.toList
  have h2:s.data.toList.length=s.size:=Array.length_toList
  rw [← hrl,hr];omega
 rw [← hr,← hN]
 obtain ⟨D,hD⟩:∃ D:Bool,D=decide ((s.data.toList.headD 0).toNat=45∨(s.data.toList.headD 0).toNat=43):=⟨_,rfl⟩
 have k0:Rec ((w.alloc (.cells #[.bool false,.slice none 0 0,.int .i64 0] 210)).alloc (.cells #[.bool false,.slice none 0 0,.int .i64 0] 210)) w.heap.size false (.slice none 0 0) 0:=zat _ (zae _ _ rfl)
 have k1:Rec ((w.alloc (.cells #[.bool false,.slice none 0 0,.int .i64 0] 210)).alloc (.cells #[.bool false,.slice none 0 0,.int .i64 0] 210)) (w.heap.size+1) false (.slice none 0 0) 0:=zae _ _ (by simp)
 have hb0:Below w.heap.size w ((w.alloc (.cells #[.bool false,.slice none 0 0,.int .i64 0] 210)).alloc (.cells #[.bool false,.slice none 0 0,.int .i64 0] 210)):=((Below.refl _ _).alloc (Nat.le_refl _) _).alloc (by simp) _
 have K0:=Lib.hid k0
 have K1:=Lib.hid k1
 have HB:=Lib.hid hb0
 have HR:=Lib.hid hR
 have HL:=Lib.hid hr
 have HZ:=Lib.hid hrl
 have HN:=Lib.hid hN
 have HD:=Lib.hid hD
 clear k0 k1 hb0 hR hN hD hr hrl
 have HH:∀ h:0 < s.size,(s.data.toList.headD 0).toNat=s[0].toNat:=fun h=>by
  have hb:=zpo s 0 h
  have hh:∀ (l:List UInt8) (k:0 < l.length),(l.headD 0)=l[0]:=fun l k=>by
   cases l with
   | nil=>simp at k
   | cons c r=>rfl
  rw [hb,hh _ (by simpa using h)]
 have HF:=Lib.hid HH
 clear HH
 go_enter Tryz.func185,Tryz.ntmps185
 go_upto_region 2 with fail
 go_cut [20] (fun s20 wx=>s20=.bool D∧wx=((w.alloc (.cells #[.bool false,.slice none 0 0,.int .i64 0] 210)).alloc (.cells #[.bool false,.slice none 0 0,.int .i64 0] 210)))
 case first=>
  by_cases h0:(s.size:Int) > 0
  ·have h1:0 < s.size:=by omega
   have hf:=HF.out h1
   by_cases h45:(s[0].toNat:Int)=45
   ·obtain rfl:D=true:=by rw [HD.out,hf];simp;omega
    clear hf
    go_wp2
    go_meet
    case rel=>exact ⟨rfl,rfl⟩
   ·by_cases h43:(s[0].toNat:Int)=43
    ·obtain rfl:D=true:=by rw [HD.out,hf];simp;omega
     clear hf
     go_wp2
     go_meet
     case rel=>exact ⟨rfl,rfl⟩
    ·obtain rfl:D=false:=by rw [HD.out,hf];simp;omega
     clear hf
     go_wp2
     go_meet
     case rel=>exact ⟨by simp;omega,rfl⟩
  ·obtain rfl:D=false:=by
    rw [HD.out]
    have:s.data.toList.length=s.size:=Array.length_toList
    rw [List.length_eq_zero_iff.1 (by omega:s.data.toList.length=0)]
    rfl
   go_wp2
   go_meet
   case rel=>exact ⟨rfl,rfl⟩
 case rest=>
  obtain ⟨rfl,rfl⟩:=hcut
  go_upto_if 20 with fail
  go_cut [0] (fun s0 wx=>s0=.string R∧Rec wx w.heap.size false (.slice none 0 0) 0∧Rec wx (w.heap.size+1) N (.slice none 0 0) 0∧Below w.heap.size w wx)
  case first=>
   cases D with
   | false=>
     have hd:¬ ((s.data.toList.headD 0).toNat=45∨(s.data.toList.headD 0).toNat=43):=of_decide_eq_false HD.out.symm
     have hg:=zx3 hd
     have e1:R=s:=by rw [HR.out,HL.out,hg]
     have e2:N=false:=by rw [HN.out,hg]
     clear hd hg
     go_wp2
     go_meet
     case rel=>exact ⟨by rw [e1],K0.out,by rw [e2];exact K1.out,HB.out⟩
   | true=>
     have hd:(s.data.toList.headD 0).toNat=45∨(s.data.toList.headD 0).toNat=43:=of_decide_eq_true HD.out.symm
     have h1:0 < s.size:=by
      rcases Nat.eq_zero_or_pos s.size with z | z
      ·have hl:s.data.toList.length=s.size:=Array.length_toList
       rw [z] at hl
       rw [List.length_eq_zero_iff.1 hl] at hd
       exact absurd hd (by decide)
      ·exact z
     have hf:=HF.out h1
     have h1i:(0:Int) < s.size:=by omega
     by_cases h45:(s[0].toNat:Int)=45
     ·have hg:=zvv (l:=s.data.toList) (by omega)
      have e1:R=s.extract 1 s.size:=by rw [HR.out,HL.out,hg,zjc]
      have e2:N=true:=by rw [HN.out,hg]
      clear hd hf hg
      go_wp2
      go_meet
      case rel=>exact ⟨by rw [e1],zat _ (zae _ _ rfl),by rw [e2];exact zae _ _ (by simp),((Below.refl _ _).alloc (Nat.le_refl _) _).alloc (by simp) _⟩
     ·have hg:=zx4 (l:=s.data.toList) (by omega)
      have e1:R=s.extract 1 s.size:=by rw [HR.out,HL.out,hg,zjc]
      have e2:N=false:=by rw [HN.out,hg]
      have e3:((s[0].toNat:Int) == 45)=false:=by simp;omega
      clear hd hf hg
      go_wp2
      go_meet
      case rel=>exact ⟨by rw [e1],zat _ (zae _ _ rfl),by rw [e2];exact zae _ _ (by simp),((Below.refl _ _).alloc (Nat.le_refl _) _).alloc (by simp) _⟩
  case rest=>
   clear K0 K1 HB HD HF
   obtain ⟨rfl,k0,k1,hb⟩:=hcut
   clear HN hs
   go_wp2_with fail
   go_loopg [5,6] R.size (fun gg s5 s6 wr=>∃ (i:Nat) (p:Int),i+gg=R.size∧s5=.int .i64 p∧s6=.int .i64 i∧wr=wc∧(-1≤p∧p < i)∧Hid (Seen (r.take i) p))
   case atStart=>exact ⟨0,-1,by omega,rfl,rfl,rfl,by omega,Lib.hid Seen.start⟩
   case round=>
    obtain ⟨i,p,hi,rfl,rfl,rfl,hp,HS⟩:=hrel
    by_cases hlt:(i:Int) < R.size
    ·have hlt':i < R.size:=by omega
     have hx8:R[i].toNat < 256:=R[i].toNat_lt
     obtain ⟨c,hc⟩:∃ c,c=R[i]:=⟨_,rfl⟩
     have hsplit:r.take (i+1)=r.take i++[c]∧r=r.take i++c::r.drop (i+1):=by
      have hil:i < r.length:=by rw [HZ.out];exact hlt'
      have e:c=r[i]:=by
       rw [hc,zpo R i hlt']
       have e2:R.data.toList=r:=by rw [HR.out]
       simp [e2]
      rw [e]
      exact ⟨List.take_succ_eq_append_getElem hil,by rw [← List.drop_eq_getElem_cons hil,List.take_append_drop]⟩
     have HC:=Lib.hid hsplit
     clear hsplit
     by_cases h46:(R[i].toNat:Int)=46
     ·by_cases hneg:p < 0
      ·have c46:c=46:=by rw [hc];exact UInt8.toNat_inj.1 (by show R[i].toNat=46;omega)
       go_wp2_with fail
       go_roundg (gk - 1)
       case measure=>omega
       case rel=>exact ⟨i+1,i,by omega,rfl,by go_num,rfl,by omega,Lib.hid (by rw [HC.out.1,c46];have:=HS.out.point hneg;rwa [List.length_take,Nat.min_eq_left (by rw [HZ.out];omega)] at this)⟩
      ·have c46:c=46:=by rw [hc];exact UInt8.toNat_inj.1 (by show R[i].toNat=46;omega)
       have hcd:zbz c=false:=by rw [c46];rfl
       have hbad:okP r=false:=by rw [HC.out.2];exact HS.out.bad hcd (.inr (by omega))
       have HBD:=Lib.hid hbad
       have KD:Hid (false=zbz R[i]):=Lib.hid (by rw [← hc];exact hcd.symm)
       clear hbad hcd hc HC HS
       go_wp2_with (first
        |(go_at_call 190;(with_reducible refine (zvx _).mono ?_);rintro e w' ⟨rfl,rfl⟩)
        |(go_at_call 190;(with_reducible refine (zvw R[i] _ _ KD).mono ?_);rintro e w' ⟨rfl,rfl⟩)
        |((with_reducible refine zbt (m:=false) (u:=.slice none 0 0) (sd:=0) (.tmp 2) (.tmp 47) w.heap.size k0 rfl ?_ ?_ ?_ ?_ ?_);rfl;rfl;rfl;rfl;intro w2 ho p1;have hb2:=zaf hb ho (Nat.le_refl _) (Nat.le_of_lt k0.lt)))
       exact bodyPost_ret (v:=.tuple #[numR false (.slice none 0 0) 0,.bool false]) (zd8 (p:=2) (q:=3) Tryz.results185 _ (.bool false) rfl rfl p1) rfl ⟨hb2,fun _=>rfl,fun h=>by rw [HBD.out] at h;cases h⟩
     ·have n46:c≠46:=fun e=>h46 (by rw [← hc,e];rfl)
      cases hcd:zbz c with
      | true=>
        have KD:Hid (true=zbz R[i]):=Lib.hid (by rw [← hc];exact hcd.symm)
        have HS2:Hid (Seen (r.take (i+1)) p):=Lib.hid (by rw [HC.out.1];exact HS.out.digit hcd)
        clear hcd hc HC HS
        go_wp2_with (go_at_call 190;(with_reducible refine (zvw R[i] _ _ KD).mono ?_);rintro e w' ⟨rfl,rfl⟩)
        go_roundg (gk - 1)
        case measure=>omega
        case rel=>exact ⟨i+1,p,by omega,rfl,by go_num,rfl,by omega,HS2⟩
      | false=>
        have hbad:okP r=false:=by rw [HC.out.2];exact HS.out.bad hcd (.inl n46)
        have HBD:=Lib.hid hbad
        have KD:Hid (false=zbz R[i]):=Lib.hid (by rw [← hc];exact hcd.symm)
        clear hbad hcd hc HC HS
        go_wp2_with (first
         |(go_at_call 190;(with_reducible refine (zvx _).mono ?_);rintro e w' ⟨rfl,rfl⟩)
         |(go_at_call 190;(with_reducible refine (zvw R[i] _ _ KD).mono ?_);rintro e w' ⟨rfl,rfl⟩)
         |((with_reducible refine zbt (m:=false) (u:=.slice none 0 0) (sd:=0) (.tmp 2) (.tmp 47) w.heap.size k0 rfl ?_ ?_ ?_ ?_ ?_);rfl;rfl;rfl;rfl;intro w2 ho p1;have hb2:=zaf hb ho (Nat.le_refl _) (Nat.le_of_lt k0.lt)))
        exact bodyPost_ret (v:=.tuple #[numR false (.slice none 0 0) 0,.bool false]) (zd8 (p:=2) (q:=3) Tryz.results185 _ (.bool false) rfl rfl p1) rfl ⟨hb2,fun _=>rfl,fun h=>by rw [HBD.out] at h;cases h⟩
    ·obtain rfl:i=R.size:=by omega
     have hlen:=HZ.out
     have HSA:Hid (Seen r p):=Lib.hid (by have:=HS.out;rwa [← hlen,List.take_length] at this)
     clear HS
     by_cases e0:(R.size:Int)=0
     ·have hbad:okP r=false:=by rw [HSA.out.all];simp;omega
      have HBD:=Lib.hid hbad
      clear hbad HSA
      go_wp2_with ((with_reducible refine zbt (m:=false) (u:=.slice none 0 0) (sd:=0) (.tmp 2) (.tmp 62) w.heap.size k0 rfl ?_ ?_ ?_ ?_ ?_);rfl;rfl;rfl;rfl;intro w2 ho p1;have hb2:=zaf hb ho (Nat.le_refl _) (Nat.le_of_lt k0.lt))
      exact bodyPost_ret (v:=.tuple #[numR false (.slice none 0 0) 0,.bool false]) (zd8 (p:=2) (q:=3) Tryz.results185 _ (.bool false) rfl rfl p1) rfl ⟨hb2,fun _=>rfl,fun h=>by rw [HBD.out] at h;cases h⟩
     ·by_cases e1:p=0
      ·have hbad:okP r=false:=by rw [HSA.out.all];simp;omega
       have HBD:=Lib.hid hbad
       clear hbad HSA
       go_wp2_with ((with_reducible refine zbt (m:=false) (u:=.slice none 0 0) (sd:=0) (.tmp 2) (.tmp 62) w.heap.size k0 rfl ?_ ?_ ?_ ?_ ?_);rfl;rfl;rfl;rfl;intro w2 ho p1;have hb2:=zaf hb ho (Nat.le_refl _) (Nat.le_of_lt k0.lt))
       exact bodyPost_ret (v:=.tuple #[numR false (.slice none 0 0) 0,.bool false]) (zd8 (p:=2) (q:=3) Tryz.results185 _ (.bool false) rfl rfl p1) rfl ⟨hb2,fun _=>rfl,fun h=>by rw [HBD.out] at h;cases h⟩
      ·by_cases e2:p=(R.size:Int) - 1
       ·have hbad:okP r=false:=by rw [HSA.out.all];simp;omega
        have HBD:=Lib.hid hbad
        clear hbad HSA
        go_wp2_with ((with_reducible refine zbt (m:=false) (u:=.slice none 0 0) (sd:=0) (.tmp 2) (.tmp 62) w.heap.size k0 rfl ?_ ?_ ?_ ?_ ?_);rfl;rfl;rfl;rfl;intro w2 ho p1;have hb2:=zaf hb ho (Nat.le_refl _) (Nat.le_of_lt k0.lt))
        exact bodyPost_ret (v:=.tuple #[numR false (.slice none 0 0) 0,.bool false]) (zd8 (p:=2) (q:=3) Tryz.results185 _ (.bool false) rfl rfl p1) rfl ⟨hb2,fun _=>rfl,fun h=>by rw [HBD.out] at h;cases h⟩
       ·have hok:okP r=true:=by rw [HSA.out.all];exact decide_eq_true ⟨by omega,e1,by rw [hlen];exact e2⟩
        have HP:=Lib.hid (And.intro hok HSA.out.parts)
        obtain ⟨i0,hi0,hz0,hz1,hz2⟩:=info_parts info3
        have hpb:-1≤p∧p < R.size:=hp
        clear hok hp hlt hi
        have e2b:(p == (R.size:Int) - 1)=false:=by simpa using e2
        go_wp2_with fail
        go_loopg [7] R.size (fun gg s7 wx=>∃ (i:Int) (v:Value) (zs:List Nat),i+1=gg∧i < R.size∧s7=.int .i64 i∧Hid (zs=revD ((r.drop (i+1).toNat).filter (· != 46)))∧wx.ownsRow (w.heap.size+2) 3 1 v zs.length (zck zs)∧Rec wx w.heap.size false (.slice none 0 0) 0∧Rec wx (w.heap.size+1) N v 0∧Below w.heap.size w wx∧zs.length≤1000000000)
        case atStart=>exact ⟨(R.size:Int) - 1,.slice none 0 0,[],by omega,by omega,rfl,Lib.hid (by rw [List.drop_eq_nil_of_le (by have:=HZ.out;omega)];rfl),World.ownsRow_nil _ _ _ _,k0,k1,hb,by simp⟩
        case round=>
         clear k0 k1 hb
         obtain ⟨i,v,zs,hi,hin,rfl,HD2,hown,k0,k1,hb,hzl⟩:=hrel
         by_cases hge:i ≥ 0
         ·obtain ⟨k,rfl⟩:=Int.eq_ofNat_of_zero_le hge
          have hk:k < R.size:=by omega
          have hkl:k < r.length:=by rw [HZ.out];exact hk
          obtain ⟨c,hc⟩:∃ c,c=R[k]:=⟨_,rfl⟩
          have hdrop:r.drop k=c::r.drop (k+1):=by
           have e:c=r[k]:=by
            rw [hc,zpo R k hk]
            have e2:R.data.toList=r:=by rw [HR.out]
            simp [e2]
           rw [e];exact List.drop_eq_getElem_cons hkl
          have HDR:=Lib.hid hdrop
          clear hdrop hkl
          by_cases h46:(R[k].toNat:Int)=46
          ·have c46:c=46:=by rw [hc];exact UInt8.toNat_inj.1 (by show R[k].toNat=46;omega)
           go_wp2_with fail
           go_roundg (gk - 1)
           case measure=>omega
           case rel=>exact ⟨(k:Int) - 1,v,zs,by omega,by omega,by go_num,Lib.hid (by
            rw [HD2.out,show ((k:Int) - 1+1).toNat=k by omega,show ((k:Int)+1).toNat=k+1 by omega,HDR.out,c46];rfl),hown,k0,k1,hb,hzl⟩
          ·have cN:=k1.c1
           have n46:c≠46:=fun e=>h46 (by rw [← hc,e];rfl)
           have hcd:zbz c=true:=HSA.out.mem c (by have:=HDR.out;exact List.mem_of_mem_drop (i:=k) (by rw [this];exact List.mem_cons_self)) n46
           obtain ⟨d,hd⟩:∃ d:Nat,d=c.toNat - 48:=⟨_,rfl⟩
           have hdg:=(zc9 c).1 hcd
           have hd1:(R[k].toNat:Int) - 48=d:=by rw [← hc];omega
           have hd9:d≤9:=by omega
           have hw1:IntKind.u8.wrap (d:Int)=d:=by unfold IntKind.wrap;simp [IntKind.bits,IntKind.signed];omega
           have hw2:IntKind.i64.wrap (d:Int)=d:=IntWalk.i64_in _ (by omega)
           have hrev:zs++[d]=revD ((r.drop k).filter (· != 46)):=by
            rw [HDR.out,List.filter_cons_of_pos (by simpa using n46),zja,← hd,HD2.out,show ((k:Int)+1).toNat=k+1 by omega]
           have HRV:=Lib.hid hrev
           have hzb:(zs++[d]).length≤1000000000:=by
            rw [hrev,zgu]
            have h1:=List.length_filter_le (· != (46:UInt8)) (r.drop k)
            have h2:(r.drop k).length=r.length - k:=List.length_drop
            have h3:=HZ.out
            omega
           have hszw:w.heap.size+2≤wr.heap.size:=by have:=k1.lt;omega
           clear hrev hd hdg hcd n46 hc HDR HSA
           have cN2:(wr.alloc (.cells #[.int .i64 (d:Int)] 3)).cell? ⟨w.heap.size+1,1,none⟩=some v:=(k1.alloc _).c1
           go_wp2_with fail
           go_region_law (first
            |(refine step_append_lies _ (by rfl) _ _ _ (by rfl) (w.heap.size+2) 3 i0 _ 1 8 Tryz.underlying44 hi0 hz0 hz1 hz2 rfl (by omega) v zs.length (zck zs) (by rfl) ((hown.alloc _).drew)
               ⟨wr.heap.size,0,none⟩ 1 1 [.int .i64 (d:Int)] (by rfl) (by rfl) (World.news_of_block (cs:=#[.int .i64 (d:Int)]) (t:=3) (fr:=(0,0)) (by exact heap_alloc_new wr _)) (by simp [Value.oneCell'])
               (by omega) (by unfold maxLen;omega) (by omega) (by simp;omega) (wr.heap.size+1) (by simp) ?_;intro gg cap w1 hown1 hgrow hat hlt
              have q1:Rec w1 (w.heap.size+1) N v 0:=zob hgrow k1 hown (by omega)
              have q0:Rec w1 w.heap.size false (.slice none 0 0) 0:=zob hgrow k0 hown (by omega)
              have hbq:Below w.heap.size w w1:=zr5 hgrow hb hb.size hown (by omega)
              have qc:=q1.c1
              have qf:w1.frozen? ⟨w.heap.size+1,1,none⟩=false:=zbo q1 1))
           all_goals
            have own2:(w1.setCell ⟨w.heap.size+1,1,none⟩ (.slice (some ⟨gg,0,none⟩) (zs.length+1) cap)).ownsRow (w.heap.size+2) 3 1 (.slice (some ⟨gg,0,none⟩) (zs.length+1) cap) (zs++[d]).length (zck (zs++[d])):=by
             rw [zx2,List.length_append]
             exact ownsRow_setCell_below hown1 (Nat.lt_succ_self _) _
            have b2:=hbq.setCell (p:=⟨w.heap.size+1,1,none⟩) (Nat.le_succ _) (.slice (some ⟨gg,0,none⟩) (zs.length+1) cap)
            have r1:=q1.set1 (.slice (some ⟨gg,0,none⟩) (zs.length+1) cap)
            have r0:=q0.other 1 (.slice (some ⟨gg,0,none⟩) (zs.length+1) cap) (b:=w.heap.size+1) (by omega)
            clear qc qf q1 q0 hown1 hgrow hat hlt cN cN2 hown
            go_wp2_with fail
            go_roundg (gk - 1)
            case measure=>omega
            case rel=>exact ⟨(k:Int) - 1,_,zs++[d],by omega,by omega,by go_num,Lib.hid (by rw [show ((k:Int) - 1+1).toNat=k by omega];exact HRV.out),own2,r0,r1,b2,hzb⟩
         ·obtain rfl:i=-1:=by omega
          have hzz:zs=revD ((Lib.cut r [46]).1++(Lib.cut r [46]).2.1):=by
           rw [HD2.out,← HP.out.2.1];rfl
          have hvone:v.oneCell'=true:=by
           rcases hown.2 with ⟨e,_⟩ | ⟨g,cap,cur,e,_⟩ <;> rw [e] <;> rfl
          have hsc0:=HP.out.2.2
          have hlr:=HZ.out
          by_cases hp0:p ≥ 0
          ·have hsc:((Lib.cut r [46]).2.1.length:Int)=(R.size:Int) - 1 - p:=by rw [hsc0,if_neg (by omega)];omega
           have c2:=k1.c2
           have f2:wr.frozen? ⟨w.heap.size+1,2,none⟩=false:=zbo k1 2
           have k1b:=k1.set2 ((R.size:Int) - 1 - p)
           have k0b:=k0.other 2 (.int .i64 ((R.size:Int) - 1 - p)) (b:=w.heap.size+1) (by omega)
           have ownb:=ownsRow_setCell_below hown (a:=⟨w.heap.size+1,2,none⟩) (Nat.lt_succ_self _) (.int .i64 ((R.size:Int) - 1 - p))
           have hbb:=hb.setCell (p:=⟨w.heap.size+1,2,none⟩) (Nat.le_succ _) (.int .i64 ((R.size:Int) - 1 - p))
           clear hsc0
           go_wp2_with (first
            |((with_reducible refine ze2 (.tmp 4) (w.heap.size+1) k1b ?_ ?_ ?_ ?_);rfl;rfl;rfl)
            |((with_reducible refine zbt (m:=N) (u:=v) (sd:=(R.size:Int) - 1 - p) (.tmp 2) (.tmp 92) w.heap.size k0b hvone ?_ ?_ ?_ ?_ ?_);rfl;rfl;rfl;rfl;intro w2 ho p1;have hb2:=zaf hbb ho (Nat.le_refl _) (Nat.le_of_lt k0b.lt);have own2:=zoc ownb ho (by omega)))
           exact bodyPost_ret (v:=.tuple #[numR N v (Lib.cut r [46]).2.1.length,.bool true]) (zd8 (p:=2) (q:=3) Tryz.results185 _ (.bool true) rfl rfl (by rw [← hsc] at p1;exact p1)) rfl ⟨hb2,(fun h=>by rw [HP.out.1] at h;cases h),fun _=>⟨v,rfl,by rw [← hzz];exact zho own2 rfl⟩⟩
          ·have hsc:((Lib.cut r [46]).2.1.length:Int)=0:=by rw [hsc0,if_pos (by omega)]
           have k0b:=k0
           clear hsc0
           go_wp2_with (first
            |((with_reducible refine ze2 (.tmp 4) (w.heap.size+1) k1 ?_ ?_ ?_ ?_);rfl;rfl;rfl)
            |((with_reducible refine zbt (m:=N) (u:=v) (sd:=0) (.tmp 2) (.tmp 92) w.heap.size k0b hvone ?_ ?_ ?_ ?_ ?_);rfl;rfl;rfl;rfl;intro w2 ho p1;have hb2:=zaf hb ho (Nat.le_refl _) (Nat.le_of_lt k0b.lt);have own2:=zoc hown ho (by omega)))
           exact bodyPost_ret (v:=.tuple #[numR N v (Lib.cut r [46]).2.1.length,.bool true]) (zd8 (p:=2) (q:=3) Tryz.results185 _ (.bool true) rfl rfl (by rw [← hsc] at p1;exact p1)) rfl ⟨hb2,(fun h=>by rw [HP.out.1] at h;cases h),fun _=>⟨v,rfl,by rw [← hzz];exact zho own2 rfl⟩⟩
end Go.Proofs.YtcfmenkigolnoaaGreatDoor
