/- Texts of one kind, one behind the other: each says ahead of itself what it shows. -/
import Derived.Test.YteclpnfckjfibaaGreatDoorCai
import Derived.Deep.QuietTactic
import Derived.BigQuiet
import Derived.Laws.AppendOwnNone
import Derived.BigGuardPart
import Derived.StillTailTactics
import Derived.Deep.RegionLaw
import Derived.Deep.AppendLies
import Derived.IntWalk
import Derived.Deep.DeepCutAuto
import Derived.Deep.CutBlock
namespace Go.Proofs.YteclpnfckjfibaaGreatDoor
open Go.RowKit
set_option maxHeartbeats 12800000
set_option maxRecDepth 20000
theorem z3y (f:Nat→Nat) (n:Nat):∀ m,n≤m→vT m f < 10 ^ n→vT m f=vT n f
 | 0,h,_=>by rw [Nat.le_zero.1 h]
 | m+1,h,k=>by
   by_cases e:n=m+1
   ·rw [e]
   ·have h1:10 ^ n≤10 ^ m:=Nat.pow_le_pow_right (by omega) (by omega)
    have k':vT m f+f m*10 ^ m < 10 ^ n:=k
    have h2:f m=0:=by
     rcases Nat.eq_zero_or_pos (f m) with z | z
     ·exact z
     ·have:1*10 ^ m≤f m*10 ^ m:=Nat.mul_le_mul_right _ z
      omega
    have e2:vT (m+1) f=vT m f:=by show vT m f+f m*10 ^ m=_;rw [h2];simp
    rw [e2]
    exact z3y f n m (by omega) (by rw [e2] at k;exact k)
theorem zqh {w:World} {base:Nat} {e:TypeId} {size:Nat} {v:Value} {n:Nat} {xs:List Value} (h:w.ownsRow base e size v n xs) (k:Nat):(w.drewN k).ownsRow base e size v n xs:=h
structure zom (xs ys:List Nat) (i c:Nat) (zs:List Nat):Prop where
 len:zs.length=i
 small:zcb zs
 car:c≤1
 val:vT i (dig zs)+vT i (dig ys)=vT i (dig xs)+c*10 ^ i
theorem zom.start (xs ys:List Nat):zom xs ys 0 0 []:=⟨rfl,fun j=>by simp [dig],by omega,rfl⟩
theorem zom.step {xs ys zs:List Nat} {i c d c':Nat} (h:zom xs ys i c zs) (hd:d≤9) (hc:c'≤1) (hn:dig xs i+10*c'=dig ys i+c+d):zom xs ys (i+1) c' (zs++[d]):=by
 refine ⟨by simp [h.len],znv h.small hd,hc,?_⟩
 have e:=zyp zs d
 rw [h.len] at e
 rw [e]
 show _+(vT i (dig ys)+dig ys i*10 ^ i)=(vT i (dig xs)+dig xs i*10 ^ i)+_
 have v:=h.val
 have e2:c'*10 ^ (i+1)=(10*c')*10 ^ i:=by rw [Nat.pow_succ,Nat.mul_comm (10 ^ i) 10,← Nat.mul_assoc,Nat.mul_comm c' 10]
 have e3:dig xs i*10 ^ i+(10*c')*10 ^ i=dig ys i*10 ^ i+c*10 ^ i+d*10 ^ i:=by rw [← Nat.add_mul,hn,Nat.add_mul,Nat.add_mul]
 omega
theorem zom.all {xs ys zs:List Nat} {c:Nat} (h:zom xs ys xs.length c zs) (hx:zcb xs) (_hy:zcb ys) (hle:za4 ys≤za4 xs):za4 zs+za4 ys=za4 xs:=by
 have v:=h.val
 have lx:vT xs.length (dig xs) < 10 ^ xs.length:=z1r _ hx _
 have lz:vT xs.length (dig zs) < 10 ^ xs.length:=z1r _ h.small _
 have ez:za4 zs=vT xs.length (dig zs):=by unfold za4;rw [h.len]
 have ex:za4 xs=vT xs.length (dig xs):=rfl
 have ey:za4 ys=vT xs.length (dig ys):=by
  have e:=zdl ys (m:=xs.length+ys.length) (by omega)
  rw [← e]
  exact z3y _ _ _ (by omega) (by rw [e];omega)
 have hc:=h.car
 have h0:c=0:=by
  rcases Nat.eq_zero_or_pos c with z | z
  ·exact z
  ·obtain rfl:c=1:=by omega
   rw [Nat.one_mul] at v
   omega
 subst h0
 rw [ez,ex,ey]
 omega
theorem z3z (u v:Value) (xs ys:List Nat) (w:World) (hu:Ints w u xs) (hv:Ints w v ys) (hx:zcb xs) (hy:zcb ys) (hle:za4 ys≤za4 xs) (lx:xs.length≤1000000000):
 Calls Tryz.prog 246 #[u,v] w fun e w'=>∃ z zs,e=.returned z∧Ints w' z zs∧zcb zs∧Aside (za4 zs+za4 ys=za4 xs)∧zs.length=xs.length∧Below w.heap.size w w':=by
 obtain ⟨p2,cap2,ev⟩:=hv.form
 have HV:=Lib.hid hv
 have HX:=Lib.hid hx
 have HY:=Lib.hid hy
 have HL:=Lib.hid hle
 clear hv hx hy hle
 obtain ⟨m,hm⟩:∃ m,m=ys.length:=⟨_,rfl⟩
 rw [← hm] at ev
 subst ev
 clear hm
 rcases hu with ⟨rfl,rfl⟩ | ⟨b,off,cap,rfl,hc,hty⟩
 ·go_enter Tryz.func246,Tryz.ntmps246
  go_wp2_with fail
  go_loopg [5,6,7] 0 (fun gg s5 s6 s7 wr=>gg=0∧s5=.slice none 0 0∧s6=.int .i64 0∧s7=.int .i64 0∧wr=w)
  case atStart=>exact ⟨rfl,rfl,rfl,rfl,rfl⟩
  case round=>
   obtain ⟨_,rfl,rfl,rfl,rfl⟩:=hrel
   go_wp2_with fail
   go_ret
   have h0:=HL.out
   have hv0:za4 ys=0:=Nat.le_zero.1 h0
   exact ⟨_,[],rfl,.inl ⟨rfl,rfl⟩,fun j=>by simp [dig],by unfold Aside;rw [hv0];rfl,rfl,Below.refl _ _⟩
 ·obtain ⟨i0,hi,hz0,hz1,hz2⟩:=info_parts z1u
  have HC:=Lib.hid hc
  clear hc
  obtain ⟨n,hn⟩:∃ n,n=xs.length:=⟨_,rfl⟩
  have HN:=Lib.hid hn
  rw [← hn] at lx ⊢
  clear hn
  go_enter Tryz.func246,Tryz.ntmps246
  go_wp2_with fail
  go_loopg [5,6,7] n (fun gg s5 s6 s7 wr=>∃ (i c:Nat) (zs:List Nat),i+gg=n∧s6=.int .i64 c∧s7=.int .i64 i∧c≤1∧wr.ownsRow w.heap.size 3 1 s5 i (zax zs)∧Hid (zom xs ys i c zs)∧Below w.heap.size w wr)
  case atStart=>exact ⟨0,0,[],by omega,rfl,rfl,by omega,World.ownsRow_nil _ _ _ _,Lib.hid (zom.start xs ys),Below.refl _ _⟩
  case round=>
   obtain ⟨i,c,zs,hig,rfl,rfl,hc1,hown,HA,hbel⟩:=hrel
   by_cases h1:(i:Int) < n
   ·have hx9:=HX.out i
    have hy9:=HY.out i
    have c0:=HC.out i (by have:=HN.out;omega)
    have c1:wr.cell? ⟨b,off+i,none⟩=some (.int .i64 (dig xs i)):=(hbel.cell (p:=⟨b,off+i,none⟩) (World.block_lt_of_cell? w _ c0)).trans c0
    clear c0
    obtain ⟨x,hx⟩:∃ x,x=dig xs i:=⟨_,rfl⟩
    obtain ⟨y,hy⟩:∃ y,y=dig ys i:=⟨_,rfl⟩
    rw [← hx] at hx9 c1
    rw [← hy] at hy9
    have K2:=Lib.hid hy
    have V1:Hid (∀ k,Ints (wr.drewN k) (.slice p2 m cap2) ys):=Lib.hid (fun k=>(HV.out.below hbel).below (zcu (Below.refl _ _) k))
    have HS:∀ d c':Nat,d≤9→c'≤1→x+10*c'=y+c+d→zom xs ys (i+1) c' (zs++[d]):=fun d c' a b e=>HA.out.step a b (by rw [← hx,← hy];exact e)
    have HS:=Lib.hid HS
    clear hx hy
    go_wp2_with fail
    go_quiet ((go_at_call 248;exact Calls.quiet_of_same ((zd1 _ ys i y _ (V1.out _) K2).mono fun _ _ h=>⟨h.1,h.2.symm⟩)))
    have hown:=zqh hown nq
    have hbel:=zcu hbel nq
    generalize wr.drewN nq=wq at*
    clear c1 V1 K2
    by_cases hneg:(x:Int) - y - c < 0
    ·obtain ⟨d,hd⟩:∃ d:Nat,d+y+c=x+10:=⟨x+10 - y - c,by omega⟩
     have hd1:(x:Int) - y - c+10=d:=by omega
     have HD:=Lib.hid (HS.out d 1 (by omega) (by omega) (by omega))
     clear HS
     go_wp2_with (at_builtin;refine wpList_append_own _ rfl _ _ 26 rfl w.heap.size 3 i0 (.int .i64 0) 1 8 Tryz.underlying26 hi hz0 hz1 hz2 rfl (by decide) _ _ _ rfl (hown.alloc _) ⟨wq.heap.size,0,none⟩ 1 1 [.int .i64 ((d:Nat):Int)] rfl rfl ?_ ?_ ?_ ?_ ?_ ?_)
     ·intro j u hj
      match j,hj with
      | 0,hj=>simp at hj;subst hj;simp [Addr.add]
     ·intro u hu;simp at hu;subst hu;rfl
     ·unfold maxLen;omega
     ·omega
     ·have:=hbel.size;simp;omega
     ·intro v' w1 hown' hgrow _
      have hb':Below w.heap.size w w1:=(hbel.alloc hbel.size _).grown hgrow (by have:=hbel.size;simp;omega) (fun k hk=>(hown.lt k hk).1)
      have hown2:w1.ownsRow w.heap.size 3 1 v' (i+1) (zax (zs++[d])):=by
       unfold zax at hown' ⊢
       simpa using hown'
      clear hown' hgrow hown
      go_wp2_with fail
      go_roundg (gk - 1)
      case measure=>omega
      case rel=>exact ⟨i+1,1,zs++[d],by omega,rfl,by go_num,by omega,hown2,HD,hb'⟩
    ·obtain ⟨d,hd⟩:∃ d:Nat,d+y+c=x:=⟨x - y - c,by omega⟩
     have hd1:(x:Int) - y - c=d:=by omega
     have HD:=Lib.hid (HS.out d 0 (by omega) (by omega) (by omega))
     clear HS
     go_wp2_with (at_builtin;refine wpList_append_own _ rfl _ _ 26 rfl w.heap.size 3 i0 (.int .i64 0) 1 8 Tryz.underlying26 hi hz0 hz1 hz2 rfl (by decide) _ _ _ rfl (hown.alloc _) ⟨wq.heap.size,0,none⟩ 1 1 [.int .i64 ((d:Nat):Int)] rfl rfl ?_ ?_ ?_ ?_ ?_ ?_)
     ·rfl
     ·unfold maxLen;omega
     ·omega
     ·have:=hbel.size;simp;omega
     ·intro v' w1 hown' hgrow _
      have hb':Below w.heap.size w w1:=(hbel.alloc hbel.size _).grown hgrow (by have:=hbel.size;simp;omega) (fun k hk=>(hown.lt k hk).1)
      have hown2:w1.ownsRow w.heap.size 3 1 v' (i+1) (zax (zs++[d])):=by
       unfold zax at hown' ⊢
       simpa using hown'
      clear hown' hgrow hown
      go_wp2_with fail
      go_roundg (gk - 1)
      case measure=>omega
      case rel=>exact ⟨i+1,0,zs++[d],by omega,rfl,by go_num,by omega,hown2,HD,hb'⟩
   ·obtain rfl:i=n:=by omega
    have hN:=HN.out
    subst hN
    have hz:=zde hown (HA.out.len.symm)
    have hval:Aside (za4 zs+za4 ys=za4 xs):=HA.out.all HX.out HY.out HL.out
    have hlen:=HA.out.len
    have hsmall:=HA.out.small
    clear hown HC
    go_wp2_with fail
    go_ret
    exact ⟨_,rfl,zs,hz,hsmall,hval,hlen,hbel⟩
def numR (neg:Bool) (v:Value) (sc:Nat):Value:=.agg #[.bool neg,v,.int .i64 sc]
theorem zs9 (k:Nat) (ds:List Nat) (j:Nat):dig (List.replicate k 0++ds) j=if j < k then 0 else dig ds (j - k):=by
 unfold dig
 simp only [List.getD]
 by_cases h:j < k
 ·rw [if_pos h,List.getElem?_append_left (by simpa using h)]
  simp [h]
 ·rw [if_neg h,List.getElem?_append_right (by simp;omega)]
  simp
theorem zri {k:Nat} {ds:List Nat} (h:zcb ds):zcb (List.replicate k 0++ds):=fun j=>by
 rw [zs9];split
 ·omega
 ·exact h _
theorem zun (f g:Nat→Nat) (k:Nat) (h0:∀ j,j < k→f j=0) (h:∀ j,f (k+j)=g j):∀ n,vT (k+n) f=vT n g*10 ^ k
 | 0=>by
   show vT k f=0*_
   rw [Nat.zero_mul]
   have:∀ m,m≤k→vT m f=0:=fun m=>by
    induction m with
    | zero=>intro _;rfl
    | succ m ih=>intro hm;show vT m f+f m*10 ^ m=0;rw [ih (by omega),h0 m (by omega)];simp
   exact this k (Nat.le_refl _)
 | n+1=>by
   show vT (k+n) f+f (k+n)*10 ^ (k+n)=(vT n g+g n*10 ^ n)*10 ^ k
   rw [zun f g k h0 h n,h n,Nat.add_mul,Nat.pow_add,Nat.mul_comm (10 ^ k),Nat.mul_assoc]
theorem zta (k:Nat) (ds:List Nat):(List.replicate k 0++ds).length=k+ds.length:=by simp
theorem znw (k:Nat) (ds:List Nat):za4 (List.replicate k 0++ds)=za4 ds*10 ^ k:=by
 unfold za4
 rw [zta]
 exact zun _ _ k (fun j hj=>by rw [zs9,if_pos hj]) (fun j=>by rw [zs9,if_neg (by omega)];congr 1;omega) _
theorem zrj (k:Nat):(madeCells #[Value.int .i64 0] k).toList=zax (List.replicate k 0):=by
 unfold madeCells zax
 apply List.ext_getElem
 ·simp
 ·intro i h1 h2
  simp [Nat.mod_one]
theorem zuo (a b:List Nat):zax (a++b)=zax a++zax b:=by simp [zax]
theorem zyq (neg:Bool) (v:Value) (ds:List Nat) (sc scale:Nat) (w:World) (h:Ints w v ds) (hs:sc≤scale) (l1:scale≤1000000000) (l2:ds.length≤1000000000):
 Calls Tryz.prog 243 #[numR neg v sc,.int .i64 scale] w fun e w'=>∃ z,e=.returned z∧Ints w' z (List.replicate (scale - sc) 0++ds)∧Below w.heap.size w w':=by
 unfold numR
 obtain ⟨i0,hi,hz0,hz1,hz2⟩:=info_parts z1u
 obtain ⟨k,hk⟩:∃ k,scale=sc+k:=⟨scale - sc,by omega⟩
 rw [show scale - sc=k by omega]
 have hk1:(scale:Int) - sc=k:=by omega
 clear hk
 have hb0:Below w.heap.size w (w.alloc (.cells #[.bool neg,v,.int .i64 sc] 224)):=(Below.refl _ _).alloc (Nat.le_refl _) _
 rcases h with ⟨rfl,rfl⟩ | ⟨b,off,cap,rfl,hc,hty⟩
 ·go_enter Tryz.func243,Tryz.ntmps243
  go_wp2_with (refine wpList_make_full _ rfl (.tmp 9) (.tmp 9) 26 rfl w.heap.size 3 i0 (.int .i64 0) 1 Tryz.underlying26 hi hz0 hz1 .i64 .i64 _ _ k rfl rfl rfl rfl ?_ ?_ ?_ ?_)
  ·rw [hz2];omega
  ·unfold maxLen;omega
  ·simp
  intro w1 hown hgrow
  have hb1:=hb0.grown hgrow (by simp) (fun _ h=>by cases h)
  have hb':=(Below.refl (w.heap.size+1) (w.alloc (.cells #[.bool neg,.slice none 0 0,.int .i64 sc] 224))).grown hgrow (by simp) (fun _ h=>by cases h)
  have cD:w1.cell? ⟨w.heap.size,1,none⟩=some (.slice none 0 0):=(hb'.cell (p:=⟨w.heap.size,1,none⟩) (Nat.lt_succ_self _)).trans (zad (zaf _ _ rfl) _ rfl)
  clear hb'
  rw [zrj] at hown
  go_wp2_with (refine wpList_append_own_none rfl (.tmp 11) (.tmp 13) 26 rfl w.heap.size 3 i0 1 Tryz.underlying26 hi _ k _ rfl hown rfl ?_)
  go_ret
  exact ⟨_,rfl,by rw [List.append_nil];exact zde hown (by simp),hb1⟩
 ·have HC:=Lib.hid hc
  clear hc
  go_enter Tryz.func243,Tryz.ntmps243
  go_wp2_with (refine wpList_make_full _ rfl (.tmp 9) (.tmp 9) 26 rfl w.heap.size 3 i0 (.int .i64 0) 1 Tryz.underlying26 hi hz0 hz1 .i64 .i64 _ _ k rfl rfl rfl rfl ?_ ?_ ?_ ?_)
  ·rw [hz2];omega
  ·unfold maxLen;omega
  ·simp
  intro w1 hown hgrow
  have hb1:=hb0.grown hgrow (by simp) (fun _ h=>by cases h)
  have hb':=(Below.refl (w.heap.size+1) (w.alloc (.cells #[.bool neg,.slice (some ⟨b,off,none⟩) ds.length cap,.int .i64 sc] 224))).grown hgrow (by simp) (fun _ h=>by cases h)
  have cD:w1.cell? ⟨w.heap.size,1,none⟩=some (.slice (some ⟨b,off,none⟩) ds.length cap):=(hb'.cell (p:=⟨w.heap.size,1,none⟩) (Nat.lt_succ_self _)).trans (zad (zaf _ _ rfl) _ rfl)
  clear hb'
  rw [zrj] at hown
  have hnews:∀ j u,(zax ds)[j]?=some u→w1.cell? ((⟨b,off,none⟩:Addr).add j)=some u:=fun j u hj=>by
   have hl:j < ds.length:=by
    have:=(List.getElem?_eq_some_iff.1 hj).1
    rwa [znu] at this
   have c0:=HC.out j hl
   have e:(⟨b,off,none⟩:Addr).add j=⟨b,off+j,none⟩:=by unfold Addr.add;split <;> simp_all
   rw [e,(hb1.cell (p:=⟨b,off+j,none⟩) (World.block_lt_of_cell? w _ c0)).trans c0,← hj]
   unfold zax dig
   rw [List.getElem?_map,List.getElem?_eq_getElem hl]
   simp [List.getD,hl]
  have HW:=Lib.hid hnews
  clear hnews
  go_wp2_with (at_builtin;refine wpList_append_own _ rfl (.tmp 11) (.tmp 13) 26 rfl w.heap.size 3 i0 (.int .i64 0) 1 8 Tryz.underlying26 hi hz0 hz1 hz2 rfl (by decide) _ k _ rfl hown ⟨b,off,none⟩ ds.length cap (zax ds) rfl (by simp [zax]) HW.out ?_ ?_ ?_ ?_ ?_)
  ·intro u hu
   simp [zax] at hu
   obtain ⟨x,_,rfl⟩:=hu
   rfl
  ·unfold maxLen;omega
  ·omega
  ·exact hb1.size
  ·intro v' w2 hown' hgrow' _
   have hb2:Below w.heap.size w w2:=hb1.grown hgrow' hb1.size (fun k hk=>(hown.lt k hk).1)
   rw [← zuo] at hown'
   clear hown hgrow
   go_wp2_with fail
   go_ret
   exact ⟨_,rfl,zde hown' (by simp),hb2⟩
theorem ztb (x t:List UInt8) (h:x.all za8=true):Lib.cut (x++t) [46]=(x++(Lib.cut t [46]).1,(Lib.cut t [46]).2.1,(Lib.cut t [46]).2.2):=by
 induction x with
 | nil=>rfl
 | cons c r ih=>
   rw [List.all_cons,Bool.and_eq_true] at h
   have hc:c≠46:=fun e=>by rw [e] at h;exact absurd h.1 (by decide)
   rw [List.cons_append,zp0 c _ hc,ih h.2]
   rfl
def okP (r:List UInt8):Bool:=digs (Lib.cut r [46]).1 && (!(Lib.cut r [46]).2.2 || digs (Lib.cut r [46]).2.1)
theorem zrk (l:List UInt8):zdc l=if okP (sgn l).2 then some ((sgn l).1,(Lib.cut (sgn l).2 [46]).1,(Lib.cut (sgn l).2 [46]).2.1) else none:=rfl
def Seen (t:List UInt8) (p:Int):Prop:=
 (p=-1∧t.all za8=true)∨∃ x y,t=x++46::y∧p=x.length∧x.all za8=true∧y.all za8=true
theorem Seen.start:Seen [] (-1):=.inl ⟨rfl,rfl⟩
theorem Seen.digit {t:List UInt8} {p:Int} {c:UInt8} (h:Seen t p) (hc:za8 c=true):Seen (t++[c]) p:=by
 rcases h with ⟨e,h⟩ | ⟨x,y,e,hp,hx,hy⟩
 ·exact .inl ⟨e,by rw [List.all_append,h];simp [hc]⟩
 ·exact .inr ⟨x,y++[c],by rw [e];simp,hp,hx,by rw [List.all_append,hy];simp [hc]⟩
theorem Seen.point {t:List UInt8} {p:Int} (h:Seen t p) (hp:p < 0):Seen (t++[46]) t.length:=by
 rcases h with ⟨_,h⟩ | ⟨x,y,_,e,_⟩
 ·exact .inr ⟨t,[],rfl,rfl,h,rfl⟩
 ·omega
theorem zyr {x:List UInt8} {c:UInt8} (hc:za8 c=false) (t:List UInt8):digs (x++c::t)=false:=by
 unfold digs
 rw [List.all_append,List.all_cons,hc]
 simp
theorem Seen.bad {t u:List UInt8} {p:Int} {c:UInt8} (h:Seen t p) (hc:za8 c=false) (hp:c≠46∨0≤p):okP (t++c::u)=false:=by
 unfold okP
 rcases h with ⟨e,h⟩ | ⟨x,y,e,hp',hx,hy⟩
 ·have hn:c≠46:=by rcases hp with k | k
                   ·exact k
                   ·omega
  rw [ztb t _ h,zp0 c u hn]
  simp only
  rw [zyr hc]
  rfl
 ·rw [e,show x++46::y++c::u=x++46::(y++c::u) by simp,zp1 x _ hx]
  simp only
  rw [zyr hc]
  simp
theorem Seen.all {t:List UInt8} {p:Int} (h:Seen t p):okP t=decide (t.length≠0∧p≠0∧p≠(t.length:Int) - 1):=by
 unfold okP
 rcases h with ⟨e,h⟩ | ⟨x,y,e,hp',hx,hy⟩
 ·have:=ztb t [] h
  rw [List.append_nil,zw7,List.append_nil] at this
  rw [this,e]
  unfold digs
  cases t with
  | nil=>rfl
  | cons c r=>simp [h]
 ·rw [e,zp1 x y hx,hp']
  simp only
  unfold digs
  rw [hx,hy]
  cases x with
  | nil=>simp
  | cons c r=>
    cases y with
    | nil=>simp
    | cons d q=>simp;omega
theorem Seen.parts {t:List UInt8} {p:Int} (h:Seen t p):(t.filter (· != 46))=(Lib.cut t [46]).1++(Lib.cut t [46]).2.1∧((Lib.cut t [46]).2.1.length:Int)=if p < 0 then 0 else (t.length:Int) - 1 - p:=by
 have keep:∀ l:List UInt8,l.all za8=true→l.filter (· != 46)=l:=fun l hl=>by
  rw [List.filter_eq_self]
  intro c hc
  have:=List.all_eq_true.1 hl c hc
  simp only [bne_iff_ne,ne_eq]
  intro e;rw [e] at this;exact absurd this (by decide)
 rcases h with ⟨e,h⟩ | ⟨x,y,e,hp',hx,hy⟩
 ·have:=ztb t [] h
  rw [List.append_nil,zw7,List.append_nil] at this
  rw [this,e]
  simp [keep t h]
 ·rw [e,zp1 x y hx,hp']
  simp only [List.filter_append,keep x hx]
  rw [List.filter_cons_of_neg (by simp),keep y hy]
  refine ⟨rfl,?_⟩
  rw [if_neg (by omega)]
  simp;omega
def revD (l:List UInt8):List Nat:=(l.map fun c=>c.toNat - 48).reverse
theorem znx (c:UInt8) (l:List UInt8):revD (c::l)=revD l++[c.toNat - 48]:=by simp [revD]
theorem zig (l:List UInt8):(revD l).length=l.length:=by simp [revD]
theorem zrl (l:List UInt8):za4 (revD l)=valD l:=by
 induction l with
 | nil=>rfl
 | cons c r ih=>
   have e:=zyp (revD r) (c.toNat - 48)
   rw [znx]
   unfold za4
   rw [show (revD r++[c.toNat - 48]).length=(revD r).length+1 by simp,e]
   show za4 (revD r)+_=_
   rw [ih,zig]
   show _=(c.toNat - 48)*10 ^ r.length+valD r
   omega
theorem zkv (l:List UInt8) (h:l.all za8=true):zcb (revD l):=by
 induction l with
 | nil=>intro j;simp [revD,dig]
 | cons c r ih=>
   rw [List.all_cons,Bool.and_eq_true] at h
   rw [znx]
   exact znv (ih h.2) (by have:=(zc6 c).1 h.1;omega)
theorem zys (a b:List UInt8) (hb:b.length≤54):zip a b=za4 (revD (a++b))*10 ^ (54 - b.length):=by
 rw [zrl,zch,Nat.add_mul]
 unfold zip
 rw [Nat.mul_assoc,← Nat.pow_add,show b.length+(54 - b.length)=54 by omega]
theorem zmf:(Tryz.prog.info? 224).map (·.size)=some 3:=by kernel_rfl
def Rec (w:World) (g:Nat) (n:Bool) (v:Value) (sc:Int):Prop:=w.heap[g]?=some (.cells #[.bool n,v,.int .i64 sc] 224)
theorem Rec.lt {w:World} {g:Nat} {n:Bool} {v:Value} {sc:Int} (h:Rec w g n v sc):g < w.heap.size:=zaa h
theorem Rec.below {w w':World} {g:Nat} {n:Bool} {v:Value} {sc:Int} (h:Rec w g n v sc) (k:Below w.heap.size w w'):Rec w' g n v sc:=(k.block g (zaa h)).trans h
theorem Rec.only {w w':World} {g b:Nat} {n:Bool} {v:Value} {sc:Int} (h:Rec w g n v sc) (k:Only b w w') (e:g≠b):Rec w' g n v sc:=(k.block g (zaa h) e).trans h
theorem Rec.alloc {w:World} {g:Nat} {n:Bool} {v:Value} {sc:Int} (h:Rec w g n v sc) (o:Obj):Rec (w.alloc o) g n v sc:=zap _ h
theorem Rec.c0 {w:World} {g:Nat} {n:Bool} {v:Value} {sc:Int} (h:Rec w g n v sc):w.cell? ⟨g,0,none⟩=some (.bool n):=zad h _ rfl
theorem Rec.c1 {w:World} {g:Nat} {n:Bool} {v:Value} {sc:Int} (h:Rec w g n v sc):w.cell? ⟨g,1,none⟩=some v:=zad h _ rfl
theorem Rec.c2 {w:World} {g:Nat} {n:Bool} {v:Value} {sc:Int} (h:Rec w g n v sc):w.cell? ⟨g,2,none⟩=some (.int .i64 sc):=zad h _ rfl
theorem Rec.set0 {w:World} {g:Nat} {n:Bool} {v:Value} {sc:Int} (h:Rec w g n v sc) (m:Bool):Rec (w.setCell ⟨g,0,none⟩ (.bool m)) g m v sc:=zb8 h 0 _
theorem Rec.set1 {w:World} {g:Nat} {n:Bool} {v:Value} {sc:Int} (h:Rec w g n v sc) (u:Value):Rec (w.setCell ⟨g,1,none⟩ u) g n u sc:=zb8 h 1 _
theorem Rec.set2 {w:World} {g:Nat} {n:Bool} {v:Value} {sc:Int} (h:Rec w g n v sc) (z:Int):Rec (w.setCell ⟨g,2,none⟩ (.int .i64 z)) g n v z:=zb8 h 2 _
theorem zck {ops:Array Oper} {rest:List Oper} {o:Oper} {a:Act} {w:World} {Q:Exit→Act→World→Prop} {n:Bool} {v:Value} {sc:Int} (x:Operand) (g:Nat) (hg:Rec w g n v sc)
 (hgd:o.guard=none) (ho:o.op=.load 224 x) (hx:a.eval x=.pointer (some ⟨g,0,none⟩))
 (h:wpList Tryz.prog ops Q rest (a.put o.dst (.agg #[.bool n,v,.int .i64 sc])) w):wpList Tryz.prog ops Q (o::rest) a w:=
 wpList_load_row hgd 224 x ho g hx 224 _ (0,0) _ hg Tryz.underlying224 rfl (by exact zmf) h
theorem zba {ops:Array Oper} {rest:List Oper} {o:Oper} {a:Act} {w:World} {Q:Exit→Act→World→Prop} {n m:Bool} {v u:Value} {sc sd:Int} (x y:Operand) (g:Nat) (hg:Rec w g n v sc) (h1:u.oneCell'=true)
 (hgd:o.guard=none) (ho:o.op=.store 224 x y) (hx:a.eval x=.pointer (some ⟨g,0,none⟩)) (hy:a.eval y=.agg #[.bool m,u,.int .i64 sd])
 (h:∀ w',Only g w w'→Rec w' g m u sd→wpList Tryz.prog ops Q rest (a.put o.dst undef) w'):wpList Tryz.prog ops Q (o::rest) a w:=
 wpList_plain hgd fun _ hK=>by
  unfold Oper.wp execOp
  simp only [ho,hx,hy,Instr.storeAt,Instr.sureAddr,Sem.run_bind,Sem.run_pure,Result.andThen_ok,run_storeVar_row (P:=Tryz.prog) w g 224 224 _ #[.bool m,u,.int .i64 sd] hg (by exact zmf) rfl (by simp [h1];exact ⟨rfl,rfl⟩)]
  exact hK _ _ (h _ (Only.setRow w _) (zcv hg))
theorem zei {fn:Func} {p q:Tmp} (h:fn.results=#[.cell p 224,.tmp q]) (tmps:Array Value) {w:World} {g:Nat} {n:Bool} {v:Value} {sc:Int} (x:Value)
 (hp:tmps.getD p undef=.pointer (some ⟨g,0,none⟩)) (hq:tmps.getD q undef=x) (hg:Rec w g n v sc):(results fn tmps).run Tryz.prog w=.ok (.tuple #[.agg #[.bool n,v,.int .i64 sc],x]) w:=by
 have hp':tmps[p]?.getD undef=.pointer (some ⟨g,0,none⟩):=by simpa using hp
 have hq':tmps[q]?.getD undef=x:=by simpa using hq
 have hl:=run_loadVar_row (P:=Tryz.prog) w g 224 224 _ (0,0) _ hg Tryz.underlying224 rfl (by exact zmf)
 simp [results,h,hp',hq',asAddr,hl]
theorem zh0 {fn:Func} {p:Tmp} (h:fn.results=#[.cell p 224]) (tmps:Array Value) {w:World} {g:Nat} {n:Bool} {v:Value} {sc:Int}
 (hp:tmps.getD p undef=.pointer (some ⟨g,0,none⟩)) (hg:Rec w g n v sc):(results fn tmps).run Tryz.prog w=.ok (.agg #[.bool n,v,.int .i64 sc]) w:=
 results_cell_row h tmps w g 224 _ (0,0) _ hp hg Tryz.underlying224 rfl (by exact zmf)
theorem zon {w:World} {b g:Nat} {x:Obj} (h:w.heap[g]?=some x) (o:Nat) (v:Value) (e:b≠g):(w.setCell ⟨b,o,none⟩ v).heap[g]?=some x:=by
 simp [World.setCell,Array.getElem?_modify,h]
 intro k;exact absurd k e
theorem Rec.other {w:World} {g b:Nat} {n:Bool} {v:Value} {sc:Int} (h:Rec w g n v sc) (o:Nat) (u:Value) (e:b≠g):Rec (w.setCell ⟨b,o,none⟩ u) g n v sc:=zon h o u e
theorem z1v {l:List UInt8} (h:¬ ((l.headD 0).toNat=45∨(l.headD 0).toNat=43)):sgn l=(false,l):=by
 cases l with
 | nil=>rfl
 | cons c r=>
   have h1:c≠45:=fun e=>h (.inl (by rw [e];rfl))
   have h2:c≠43:=fun e=>h (.inr (by rw [e];rfl))
   simp [sgn,h1,h2]
theorem zyt {l:List UInt8} (h:(l.headD 0).toNat=45):sgn l=(true,l.drop 1):=by
 cases l with
 | nil=>exact absurd h (by decide)
 | cons c r=>
   have h1:c=45:=UInt8.toNat_inj.1 h
   simp [sgn,h1]
theorem z1w {l:List UInt8} (h:(l.headD 0).toNat=43):sgn l=(false,l.drop 1):=by
 cases l with
 | nil=>exact absurd h (by decide)
 | cons c r=>
   have h1:c=43:=UInt8.toNat_inj.1 h
   simp [sgn,h1]
theorem zny (s:ByteArray):s.extract 1 s.size=bs (s.data.toList.drop 1):=by
 apply zdh
 rw [Lib.extract_to_end]
theorem zyu (c:UInt8) (d:Bool) (w:World) (h:Hid (d=za8 c)):Calls Tryz.prog 247 #[.int .u8 c.toNat] w fun e w'=>e=.returned (.bool d)∧w=w':=
 (zpb c.toNat w c.toNat_lt).mono fun _ _ ⟨h1,h2⟩=>⟨by
   rw [h1,h.out]
   congr 2
   rw [Bool.eq_iff_iff,zc6]
   simp
   omega,h2⟩
theorem Seen.mem {t:List UInt8} {p:Int} (h:Seen t p) (c:UInt8) (hc:c∈t) (hn:c≠46):za8 c=true:=by
 rcases h with ⟨_,h⟩ | ⟨x,y,e,_,hx,hy⟩
 ·exact List.all_eq_true.1 h c hc
 ·rw [e,List.mem_append,List.mem_cons] at hc
  rcases hc with k | k | k
  ·exact List.all_eq_true.1 hx c k
  ·exact absurd k hn
  ·exact List.all_eq_true.1 hy c k
theorem zrm {wr w1:World} {v u:Value} {o:Obj} {g base e size n:Nat} {xs:List Value} {N:Bool} {sc:Int} (hgrow:((wr.alloc o).drew).grownBy w1 v.ownBlock) (k1:Rec wr g N u sc) (hown:wr.ownsRow base e size v n xs) (hg:g < base):Rec w1 g N u sc:=
 (hgrow.block g (zaa (k1.alloc o)) (fun h=>by have:=(hown.lt _ h.symm).1;omega)).trans (k1.alloc o)
theorem zwb {w wr w1:World} {v:Value} {o:Obj} {B base e size n:Nat} {xs:List Value} (hgrow:((wr.alloc o).drew).grownBy w1 v.ownBlock) (hb:Below B w wr) (hs:B≤wr.heap.size) (hown:wr.ownsRow base e size v n xs) (hg:B≤base):Below B w w1:=
 Below.grown ((hb.alloc hs o).drew) hgrow (by show B≤(wr.alloc o).heap.size;simp;omega) (fun k hk=>by have:=(hown.lt k hk).1;omega)
theorem zrn {w w':World} {base b e size n:Nat} {v:Value} {xs:List Value} (h:w.ownsRow base e size v n xs) (k:Only b w w') (hb:b < base):w'.ownsRow base e size v n xs:=
 ⟨h.1,h.2.elim .inl fun ⟨g,cap,cur,e1,e2,e3,r⟩=>.inr ⟨g,cap,cur,e1,e2,(k.block g (zaa e3) (by omega)).trans e3,r⟩⟩
theorem zyv (w:World):Calls Tryz.prog 247 #[.int .u8 46] w fun e w'=>e=.returned (.bool false)∧w=w':=zpb 46 w (by omega)
theorem zro (s:ByteArray) (w:World) (hs:s.size≤1000000000):
 Calls Tryz.prog 219 #[.string s] w fun e w'=>Below w.heap.size w w'∧(okP (sgn s.data.toList).2=false→e=.returned (.tuple #[numR false (.slice none 0 0) 0,.bool false]))∧
  (okP (sgn s.data.toList).2=true→∃ v,e=.returned (.tuple #[numR (sgn s.data.toList).1 v (Lib.cut (sgn s.data.toList).2 [46]).2.1.length,.bool true])∧Ints w' v (revD ((Lib.cut (sgn s.data.toList).2 [46]).1++(Lib.cut (sgn s.data.toList).2 [46]).2.1))):=by
 obtain ⟨r,hr⟩:∃ r,r=(sgn s.data.toList).2:=⟨_,rfl⟩
 obtain ⟨R,hR⟩:∃ R:ByteArray,R=bs r:=⟨_,rfl⟩
 obtain ⟨N,hN⟩:∃ N:Bool,N=(sgn s.data.toList).1:=⟨_,rfl⟩
 have hrl:r.length=R.size:=by rw [hR];exact Array.length_toList
 have hsz:R.size≤1000000000:=by
  have h1:=zp4 s.data.toList
  have h2:s.data.toList.length=s.size:=Array.length_toList
  rw [← hrl,hr];omega
 rw [← hr,← hN]
 obtain ⟨D,hD⟩:∃ D:Bool,D=decide ((s.data.toList.headD 0).toNat=45∨(s.data.toList.headD 0).toNat=43):=⟨_,rfl⟩
 have k0:Rec ((w.alloc (.cells #[.bool false,.slice none 0 0,.int .i64 0] 224)).alloc (.cells #[.bool false,.slice none 0 0,.int .i64 0] 224)) w.heap.size false (.slice none 0 0) 0:=zap _ (zaf _ _ rfl)
 have k1:Rec ((w.alloc (.cells #[.bool false,.slice none 0 0,.int .i64 0] 224)).alloc (.cells #[.bool false,.slice none 0 0,.int .i64 0] 224)) (w.heap.size+1) false (.slice none 0 0) 0:=zaf _ _ (by simp)
 have hb0:Below w.heap.size w ((w.alloc (.cells #[.bool false,.slice none 0 0,.int .i64 0] 224)).alloc (.cells #[.bool false,.slice none 0 0,.int .i64 0] 224)):=((Below.refl _ _).alloc (Nat.le_refl _) _).alloc (by simp) _
 have K0:=Lib.hid k0
 have K1:=Lib.hid k1
 have HB:=Lib.hid hb0
 have HR:=Lib.hid hR
 have HL:=Lib.hid hr
 have HZ:=Lib.hid hrl
 have HN:=Lib.hid hN
 have HD:=Lib.hid hD
 clear k0 k1 hb0 hR hN hD hr hrl
 have HH:∀ h:0 < s.size,(s.data.toList.headD 0).toNat=s[0].toNat:=fun h=>by
  have hb:=zll s 0 h
  have hh:∀ (l:List UInt8) (k:0 < l.length),(l.headD 0)=l[0]:=fun l k=>by
   cases l with
   | nil=>simp at k
   | cons c r=>rfl
  rw [hb,hh _ (by simpa using h)]
 have HF:=Lib.hid HH
 clear HH
 go_enter Tryz.func219,Tryz.ntmps219
 go_upto_region 2 with fail
 go_cut [20] (fun s20 wx=>s20=.bool D∧wx=((w.alloc (.cells #[.bool false,.slice none 0 0,.int .i64 0] 224)).alloc (.cells #[.bool false,.slice none 0 0,.int .i64 0] 224)))
 case first=>
  by_cases h0:(s.size:Int) > 0
  ·have h1:0 < s.size:=by omega
   have hf:=HF.out h1
   by_cases h45:(s[0].toNat:Int)=45
   ·obtain rfl:D=true:=by rw [HD.out,hf];simp;omega
    clear hf
    go_wp2
    go_meet
    case rel=>exact ⟨rfl,rfl⟩
   ·by_cases h43:(s[0].toNat:Int)=43
    ·obtain rfl:D=true:=by rw [HD.out,hf];simp;omega
     clear hf
     go_wp2
     go_meet
     case rel=>exact ⟨rfl,rfl⟩
    ·obtain rfl:D=false:=by rw [HD.out,hf];simp;omega
     clear hf
     go_wp2
     go_meet
     case rel=>exact ⟨by simp;omega,rfl⟩
  ·obtain rfl:D=false:=by
    rw [HD.out]
    have:s.data.toList.length=s.size:=Array.length_toList
    rw [List.length_eq_zero_iff.1 (by omega:s.data.toList.length=0)]
    rfl
   go_wp2
   go_meet
   case rel=>exact ⟨rfl,rfl⟩
 case rest=>
  obtain ⟨rfl,rfl⟩:=hcut
  go_upto_if 20 with fail
  go_cut [0] (fun s0 wx=>s0=.string R∧Rec wx w.heap.size false (.slice none 0 0) 0∧Rec wx (w.heap.size+1) N (.slice none 0 0) 0∧Below w.heap.size w wx)
  case first=>
   cases D with
   | false=>
     have hd:¬ ((s.data.toList.headD 0).toNat=45∨(s.data.toList.headD 0).toNat=43):=of_decide_eq_false HD.out.symm
     have hg:=z1v hd
     have e1:R=s:=by rw [HR.out,HL.out,hg]
     have e2:N=false:=by rw [HN.out,hg]
     clear hd hg
     go_wp2
     go_meet
     case rel=>exact ⟨by rw [e1],K0.out,by rw [e2];exact K1.out,HB.out⟩
   | true=>
     have hd:(s.data.toList.headD 0).toNat=45∨(s.data.toList.headD 0).toNat=43:=of_decide_eq_true HD.out.symm
     have h1:0 < s.size:=by
      rcases Nat.eq_zero_or_pos s.size with z | z
      ·have hl:s.data.toList.length=s.size:=Array.length_toList
       rw [z] at hl
       rw [List.length_eq_zero_iff.1 hl] at hd
       exact absurd hd (by decide)
      ·exact z
     have hf:=HF.out h1
     have h1i:(0:Int) < s.size:=by omega
     by_cases h45:(s[0].toNat:Int)=45
     ·have hg:=zyt (l:=s.data.toList) (by omega)
      have e1:R=s.extract 1 s.size:=by rw [HR.out,HL.out,hg,zny]
      have e2:N=true:=by rw [HN.out,hg]
      clear hd hf hg
      go_wp2
      go_meet
      case rel=>exact ⟨by rw [e1],zap _ (zaf _ _ rfl),by rw [e2];exact zaf _ _ (by simp),((Below.refl _ _).alloc (Nat.le_refl _) _).alloc (by simp) _⟩
     ·have hg:=z1w (l:=s.data.toList) (by omega)
      have e1:R=s.extract 1 s.size:=by rw [HR.out,HL.out,hg,zny]
      have e2:N=false:=by rw [HN.out,hg]
      have e3:((s[0].toNat:Int) == 45)=false:=by simp;omega
      clear hd hf hg
      go_wp2
      go_meet
      case rel=>exact ⟨by rw [e1],zap _ (zaf _ _ rfl),by rw [e2];exact zaf _ _ (by simp),((Below.refl _ _).alloc (Nat.le_refl _) _).alloc (by simp) _⟩
  case rest=>
   clear K0 K1 HB HD HF
   obtain ⟨rfl,k0,k1,hb⟩:=hcut
   clear HN hs
   go_wp2_with fail
   go_loopg [5,6] R.size (fun gg s5 s6 wr=>∃ (i:Nat) (p:Int),i+gg=R.size∧s5=.int .i64 p∧s6=.int .i64 i∧wr=wc∧(-1≤p∧p < i)∧Hid (Seen (r.take i) p))
   case atStart=>exact ⟨0,-1,by omega,rfl,rfl,rfl,by omega,Lib.hid Seen.start⟩
   case round=>
    obtain ⟨i,p,hi,rfl,rfl,rfl,hp,HS⟩:=hrel
    by_cases hlt:(i:Int) < R.size
    ·have hlt':i < R.size:=by omega
     have hx8:R[i].toNat < 256:=R[i].toNat_lt
     obtain ⟨c,hc⟩:∃ c,c=R[i]:=⟨_,rfl⟩
     have hsplit:r.take (i+1)=r.take i++[c]∧r=r.take i++c::r.drop (i+1):=by
      have hil:i < r.length:=by rw [HZ.out];exact hlt'
      have e:c=r[i]:=by
       rw [hc,zll R i hlt']
       have e2:R.data.toList=r:=by rw [HR.out]
       simp [e2]
      rw [e]
      exact ⟨List.take_succ_eq_append_getElem hil,by rw [← List.drop_eq_getElem_cons hil,List.take_append_drop]⟩
     have HC:=Lib.hid hsplit
     clear hsplit
     by_cases h46:(R[i].toNat:Int)=46
     ·by_cases hneg:p < 0
      ·have c46:c=46:=by rw [hc];exact UInt8.toNat_inj.1 (by show R[i].toNat=46;omega)
       go_wp2_with fail
       go_roundg (gk - 1)
       case measure=>omega
       case rel=>exact ⟨i+1,i,by omega,rfl,by go_num,rfl,by omega,Lib.hid (by rw [HC.out.1,c46];have:=HS.out.point hneg;rwa [List.length_take,Nat.min_eq_left (by rw [HZ.out];omega)] at this)⟩
      ·have c46:c=46:=by rw [hc];exact UInt8.toNat_inj.1 (by show R[i].toNat=46;omega)
       have hcd:za8 c=false:=by rw [c46];rfl
       have hbad:okP r=false:=by rw [HC.out.2];exact HS.out.bad hcd (.inr (by omega))
       have HBD:=Lib.hid hbad
       have KD:Hid (false=za8 R[i]):=Lib.hid (by rw [← hc];exact hcd.symm)
       clear hbad hcd hc HC HS
       go_wp2_with (first
        |(go_at_call 247;(with_reducible refine (zyv _).mono ?_);rintro e w' ⟨rfl,rfl⟩)
        |(go_at_call 247;(with_reducible refine (zyu R[i] _ _ KD).mono ?_);rintro e w' ⟨rfl,rfl⟩)
        |((with_reducible refine zba (m:=false) (u:=.slice none 0 0) (sd:=0) (.tmp 2) (.tmp 47) w.heap.size k0 rfl ?_ ?_ ?_ ?_ ?_);rfl;rfl;rfl;rfl;intro w2 ho p1;have hb2:=zam hb ho (Nat.le_refl _) (Nat.le_of_lt k0.lt)))
       exact bodyPost_ret (v:=.tuple #[numR false (.slice none 0 0) 0,.bool false]) (zei (p:=2) (q:=3) Tryz.results219 _ (.bool false) rfl rfl p1) rfl ⟨hb2,fun _=>rfl,fun h=>by rw [HBD.out] at h;cases h⟩
     ·have n46:c≠46:=fun e=>h46 (by rw [← hc,e];rfl)
      cases hcd:za8 c with
      | true=>
        have KD:Hid (true=za8 R[i]):=Lib.hid (by rw [← hc];exact hcd.symm)
        have HS2:Hid (Seen (r.take (i+1)) p):=Lib.hid (by rw [HC.out.1];exact HS.out.digit hcd)
        clear hcd hc HC HS
        go_wp2_with (go_at_call 247;(with_reducible refine (zyu R[i] _ _ KD).mono ?_);rintro e w' ⟨rfl,rfl⟩)
        go_roundg (gk - 1)
        case measure=>omega
        case rel=>exact ⟨i+1,p,by omega,rfl,by go_num,rfl,by omega,HS2⟩
      | false=>
        have hbad:okP r=false:=by rw [HC.out.2];exact HS.out.bad hcd (.inl n46)
        have HBD:=Lib.hid hbad
        have KD:Hid (false=za8 R[i]):=Lib.hid (by rw [← hc];exact hcd.symm)
        clear hbad hcd hc HC HS
        go_wp2_with (first
         |(go_at_call 247;(with_reducible refine (zyv _).mono ?_);rintro e w' ⟨rfl,rfl⟩)
         |(go_at_call 247;(with_reducible refine (zyu R[i] _ _ KD).mono ?_);rintro e w' ⟨rfl,rfl⟩)
         |((with_reducible refine zba (m:=false) (u:=.slice none 0 0) (sd:=0) (.tmp 2) (.tmp 47) w.heap.size k0 rfl ?_ ?_ ?_ ?_ ?_);rfl;rfl;rfl;rfl;intro w2 ho p1;have hb2:=zam hb ho (Nat.le_refl _) (Nat.le_of_lt k0.lt)))
        exact bodyPost_ret (v:=.tuple #[numR false (.slice none 0 0) 0,.bool false]) (zei (p:=2) (q:=3) Tryz.results219 _ (.bool false) rfl rfl p1) rfl ⟨hb2,fun _=>rfl,fun h=>by rw [HBD.out] at h;cases h⟩
    ·obtain rfl:i=R.size:=by omega
     have hlen:=HZ.out
     have HSA:Hid (Seen r p):=Lib.hid (by have:=HS.out;rwa [← hlen,List.take_length] at this)
     clear HS
     by_cases e0:(R.size:Int)=0
     ·have hbad:okP r=false:=by rw [HSA.out.all];simp;omega
      have HBD:=Lib.hid hbad
      clear hbad HSA
      go_wp2_with ((with_reducible refine zba (m:=false) (u:=.slice none 0 0) (sd:=0) (.tmp 2) (.tmp 62) w.heap.size k0 rfl ?_ ?_ ?_ ?_ ?_);rfl;rfl;rfl;rfl;intro w2 ho p1;have hb2:=zam hb ho (Nat.le_refl _) (Nat.le_of_lt k0.lt))
      exact bodyPost_ret (v:=.tuple #[numR false (.slice none 0 0) 0,.bool false]) (zei (p:=2) (q:=3) Tryz.results219 _ (.bool false) rfl rfl p1) rfl ⟨hb2,fun _=>rfl,fun h=>by rw [HBD.out] at h;cases h⟩
     ·by_cases e1:p=0
      ·have hbad:okP r=false:=by rw [HSA.out.all];simp;omega
       have HBD:=Lib.hid hbad
       clear hbad HSA
       go_wp2_with ((with_reducible refine zba (m:=false) (u:=.slice none 0 0) (sd:=0) (.tmp 2) (.tmp 62) w.heap.size k0 rfl ?_ ?_ ?_ ?_ ?_);rfl;rfl;rfl;rfl;intro w2 ho p1;have hb2:=zam hb ho (Nat.le_refl _) (Nat.le_of_lt k0.lt))
       exact bodyPost_ret (v:=.tuple #[numR false (.slice none 0 0) 0,.bool false]) (zei (p:=2) (q:=3) Tryz.results219 _ (.bool false) rfl rfl p1) rfl ⟨hb2,fun _=>rfl,fun h=>by rw [HBD.out] at h;cases h⟩
      ·by_cases e2:p=(R.size:Int) - 1
       ·have hbad:okP r=false:=by rw [HSA.out.all];simp;omega
        have HBD:=Lib.hid hbad
        clear hbad HSA
        go_wp2_with ((with_reducible refine zba (m:=false) (u:=.slice none 0 0) (sd:=0) (.tmp 2) (.tmp 62) w.heap.size k0 rfl ?_ ?_ ?_ ?_ ?_);rfl;rfl;rfl;rfl;intro w2 ho p1;have hb2:=zam hb ho (Nat.le_refl _) (Nat.le_of_lt k0.lt))
        exact bodyPost_ret (v:=.tuple #[numR false (.slice none 0 0) 0,.bool false]) (zei (p:=2) (q:=3) Tryz.results219 _ (.bool false) rfl rfl p1) rfl ⟨hb2,fun _=>rfl,fun h=>by rw [HBD.out] at h;cases h⟩
       ·have hok:okP r=true:=by rw [HSA.out.all];exact decide_eq_true ⟨by omega,e1,by rw [hlen];exact e2⟩
        have HP:=Lib.hid (And.intro hok HSA.out.parts)
        obtain ⟨i0,hi0,hz0,hz1,hz2⟩:=info_parts z1u
        have hpb:-1≤p∧p < R.size:=hp
        clear hok hp hlt hi
        have e2b:(p == (R.size:Int) - 1)=false:=by simpa using e2
        go_wp2_with fail
        go_loopg [7] R.size (fun gg s7 wx=>∃ (i:Int) (v:Value) (zs:List Nat),i+1=gg∧i < R.size∧s7=.int .i64 i∧Hid (zs=revD ((r.drop (i+1).toNat).filter (· != 46)))∧wx.ownsRow (w.heap.size+2) 3 1 v zs.length (zax zs)∧Rec wx w.heap.size false (.slice none 0 0) 0∧Rec wx (w.heap.size+1) N v 0∧Below w.heap.size w wx∧zs.length≤1000000000)
        case atStart=>exact ⟨(R.size:Int) - 1,.slice none 0 0,[],by omega,by omega,rfl,Lib.hid (by rw [List.drop_eq_nil_of_le (by have:=HZ.out;omega)];rfl),World.ownsRow_nil _ _ _ _,k0,k1,hb,by simp⟩
        case round=>
         clear k0 k1 hb
         obtain ⟨i,v,zs,hi,hin,rfl,HD2,hown,k0,k1,hb,hzl⟩:=hrel
         by_cases hge:i ≥ 0
         ·obtain ⟨k,rfl⟩:=Int.eq_ofNat_of_zero_le hge
          have hk:k < R.size:=by omega
          have hkl:k < r.length:=by rw [HZ.out];exact hk
          obtain ⟨c,hc⟩:∃ c,c=R[k]:=⟨_,rfl⟩
          have hdrop:r.drop k=c::r.drop (k+1):=by
           have e:c=r[k]:=by
            rw [hc,zll R k hk]
            have e2:R.data.toList=r:=by rw [HR.out]
            simp [e2]
           rw [e];exact List.drop_eq_getElem_cons hkl
          have HDR:=Lib.hid hdrop
          clear hdrop hkl
          by_cases h46:(R[k].toNat:Int)=46
          ·have c46:c=46:=by rw [hc];exact UInt8.toNat_inj.1 (by show R[k].toNat=46;omega)
           go_wp2_with fail
           go_roundg (gk - 1)
           case measure=>omega
           case rel=>exact ⟨(k:Int) - 1,v,zs,by omega,by omega,by go_num,Lib.hid (by
            rw [HD2.out,show ((k:Int) - 1+1).toNat=k by omega,show ((k:Int)+1).toNat=k+1 by omega,HDR.out,c46];rfl),hown,k0,k1,hb,hzl⟩
          ·have cN:=k1.c1
           have n46:c≠46:=fun e=>h46 (by rw [← hc,e];rfl)
           have hcd:za8 c=true:=HSA.out.mem c (by have:=HDR.out;exact List.mem_of_mem_drop (i:=k) (by rw [this];exact List.mem_cons_self)) n46
           obtain ⟨d,hd⟩:∃ d:Nat,d=c.toNat - 48:=⟨_,rfl⟩
           have hdg:=(zc6 c).1 hcd
           have hd1:(R[k].toNat:Int) - 48=d:=by rw [← hc];omega
           have hd9:d≤9:=by omega
           have hw1:IntKind.u8.wrap (d:Int)=d:=by unfold IntKind.wrap;simp [IntKind.bits,IntKind.signed];omega
           have hw2:IntKind.i64.wrap (d:Int)=d:=IntWalk.i64_in _ (by omega)
           have hrev:zs++[d]=revD ((r.drop k).filter (· != 46)):=by
            rw [HDR.out,List.filter_cons_of_pos (by simpa using n46),znx,← hd,HD2.out,show ((k:Int)+1).toNat=k+1 by omega]
           have HRV:=Lib.hid hrev
           have hzb:(zs++[d]).length≤1000000000:=by
            rw [hrev,zig]
            have h1:=List.length_filter_le (· != (46:UInt8)) (r.drop k)
            have h2:(r.drop k).length=r.length - k:=List.length_drop
            have h3:=HZ.out
            omega
           have hszw:w.heap.size+2≤wr.heap.size:=by have:=k1.lt;omega
           clear hrev hd hdg hcd n46 hc HDR HSA
           have cN2:(wr.alloc (.cells #[.int .i64 (d:Int)] 3)).cell? ⟨w.heap.size+1,1,none⟩=some v:=(k1.alloc _).c1
           go_wp2_with fail
           go_region_law (first
            |(refine step_append_lies _ (by rfl) _ _ _ (by rfl) (w.heap.size+2) 3 i0 _ 1 8 Tryz.underlying26 hi0 hz0 hz1 hz2 rfl (by omega) v zs.length (zax zs) (by rfl) ((hown.alloc _).drew)
               ⟨wr.heap.size,0,none⟩ 1 1 [.int .i64 (d:Int)] (by rfl) (by rfl) (World.news_of_block (cs:=#[.int .i64 (d:Int)]) (t:=3) (fr:=(0,0)) (by exact heap_alloc_new wr _)) (by simp [Value.oneCell'])
               (by omega) (by unfold maxLen;omega) (by omega) (by simp;omega) (wr.heap.size+1) (by simp) ?_;intro gg cap w1 hown1 hgrow hat hlt
              have q1:Rec w1 (w.heap.size+1) N v 0:=zrm hgrow k1 hown (by omega)
              have q0:Rec w1 w.heap.size false (.slice none 0 0) 0:=zrm hgrow k0 hown (by omega)
              have hbq:Below w.heap.size w w1:=zwb hgrow hb hb.size hown (by omega)
              have qc:=q1.c1
              have qf:w1.frozen? ⟨w.heap.size+1,1,none⟩=false:=zdt q1 1))
           all_goals
            have own2:(w1.setCell ⟨w.heap.size+1,1,none⟩ (.slice (some ⟨gg,0,none⟩) (zs.length+1) cap)).ownsRow (w.heap.size+2) 3 1 (.slice (some ⟨gg,0,none⟩) (zs.length+1) cap) (zs++[d]).length (zax (zs++[d])):=by
             rw [zuo,List.length_append]
             exact ownsRow_setCell_below hown1 (Nat.lt_succ_self _) _
            have b2:=hbq.setCell (p:=⟨w.heap.size+1,1,none⟩) (Nat.le_succ _) (.slice (some ⟨gg,0,none⟩) (zs.length+1) cap)
            have r1:=q1.set1 (.slice (some ⟨gg,0,none⟩) (zs.length+1) cap)
            have r0:=q0.other 1 (.slice (some ⟨gg,0,none⟩) (zs.length+1) cap) (b:=w.heap.size+1) (by omega)
            clear qc qf q1 q0 hown1 hgrow hat hlt cN cN2 hown
            go_wp2_with fail
            go_roundg (gk - 1)
            case measure=>omega
            case rel=>exact ⟨(k:Int) - 1,_,zs++[d],by omega,by omega,by go_num,Lib.hid (by rw [show ((k:Int) - 1+1).toNat=k by omega];exact HRV.out),own2,r0,r1,b2,hzb⟩
         ·obtain rfl:i=-1:=by omega
          have hzz:zs=revD ((Lib.cut r [46]).1++(Lib.cut r [46]).2.1):=by
           rw [HD2.out,← HP.out.2.1];rfl
          have hvone:v.oneCell'=true:=by
           rcases hown.2 with ⟨e,_⟩ | ⟨g,cap,cur,e,_⟩ <;> rw [e] <;> rfl
          have hsc0:=HP.out.2.2
          have hlr:=HZ.out
          by_cases hp0:p ≥ 0
          ·have hsc:((Lib.cut r [46]).2.1.length:Int)=(R.size:Int) - 1 - p:=by rw [hsc0,if_neg (by omega)];omega
           have c2:=k1.c2
           have f2:wr.frozen? ⟨w.heap.size+1,2,none⟩=false:=zdt k1 2
           have k1b:=k1.set2 ((R.size:Int) - 1 - p)
           have k0b:=k0.other 2 (.int .i64 ((R.size:Int) - 1 - p)) (b:=w.heap.size+1) (by omega)
           have ownb:=ownsRow_setCell_below hown (a:=⟨w.heap.size+1,2,none⟩) (Nat.lt_succ_self _) (.int .i64 ((R.size:Int) - 1 - p))
           have hbb:=hb.setCell (p:=⟨w.heap.size+1,2,none⟩) (Nat.le_succ _) (.int .i64 ((R.size:Int) - 1 - p))
           clear hsc0
           go_wp2_with (first
            |((with_reducible refine zck (.tmp 4) (w.heap.size+1) k1b ?_ ?_ ?_ ?_);rfl;rfl;rfl)
            |((with_reducible refine zba (m:=N) (u:=v) (sd:=(R.size:Int) - 1 - p) (.tmp 2) (.tmp 92) w.heap.size k0b hvone ?_ ?_ ?_ ?_ ?_);rfl;rfl;rfl;rfl;intro w2 ho p1;have hb2:=zam hbb ho (Nat.le_refl _) (Nat.le_of_lt k0b.lt);have own2:=zrn ownb ho (by omega)))
           exact bodyPost_ret (v:=.tuple #[numR N v (Lib.cut r [46]).2.1.length,.bool true]) (zei (p:=2) (q:=3) Tryz.results219 _ (.bool true) rfl rfl (by rw [← hsc] at p1;exact p1)) rfl ⟨hb2,(fun h=>by rw [HP.out.1] at h;cases h),fun _=>⟨v,rfl,by rw [← hzz];exact zde own2 rfl⟩⟩
          ·have hsc:((Lib.cut r [46]).2.1.length:Int)=0:=by rw [hsc0,if_pos (by omega)]
           have k0b:=k0
           clear hsc0
           go_wp2_with (first
            |((with_reducible refine zck (.tmp 4) (w.heap.size+1) k1 ?_ ?_ ?_ ?_);rfl;rfl;rfl)
            |((with_reducible refine zba (m:=N) (u:=v) (sd:=0) (.tmp 2) (.tmp 92) w.heap.size k0b hvone ?_ ?_ ?_ ?_ ?_);rfl;rfl;rfl;rfl;intro w2 ho p1;have hb2:=zam hb ho (Nat.le_refl _) (Nat.le_of_lt k0b.lt);have own2:=zrn hown ho (by omega)))
           exact bodyPost_ret (v:=.tuple #[numR N v (Lib.cut r [46]).2.1.length,.bool true]) (zei (p:=2) (q:=3) Tryz.results219 _ (.bool true) rfl rfl (by rw [← hsc] at p1;exact p1)) rfl ⟨hb2,(fun h=>by rw [HP.out.1] at h;cases h),fun _=>⟨v,rfl,by rw [← hzz];exact zde own2 rfl⟩⟩
def bAt (ds:List Nat) (j:Nat):UInt8:=UInt8.ofNat (48+dig ds j)
def dn (ds:List Nat) (lo:Nat):Nat→List UInt8
 | 0=>[]
 | n+1=>bAt ds (lo+n)::dn ds lo n
theorem zh1 {ds:List Nat} (h:zcb ds) (j:Nat):(bAt ds j).toNat=48+dig ds j:=by
 have:=h j
 unfold bAt;rw [UInt8.toNat_ofNat'];omega
theorem bAt_dig {ds:List Nat} (h:zcb ds) (j:Nat):za8 (bAt ds j)=true:=by
 rw [zc6,zh1 h];have:=h j;omega
theorem zyw {ds:List Nat} (h:zcb ds) (j:Nat):bAt ds j=48↔dig ds j=0:=by
 constructor
 ·intro e
  have:=zh1 h j
  rw [e] at this
  have h2:(48:UInt8).toNat=48:=rfl
  omega
 ·intro e;unfold bAt;rw [e];rfl
theorem zpf (ds:List Nat) (lo n:Nat):(dn ds lo n).length=n:=by
 induction n with
 | zero=>rfl
 | succ n ih=>simp [dn,ih]
theorem zyx {ds:List Nat} (h:zcb ds) (lo n:Nat):(dn ds lo n).all za8=true:=by
 induction n with
 | zero=>rfl
 | succ n ih=>simp [dn,ih,bAt_dig h]
theorem z30 {ds:List Nat} (h:zcb ds) (lo n:Nat):valD (dn ds lo n)*10 ^ lo+vT lo (dig ds)=vT (lo+n) (dig ds):=by
 induction n with
 | zero=>simp [dn,valD]
 | succ n ih=>
   simp only [dn,valD,zpf,zh1 h]
   show _=vT (lo+n) (dig ds)+dig ds (lo+n)*10 ^ (lo+n)
   rw [← ih,Nat.add_sub_cancel_left,Nat.add_mul,Nat.pow_add,Nat.mul_assoc,Nat.mul_comm (10 ^ n)]
   omega
theorem zyy {ds:List Nat} (h:zcb ds) (n:Nat):valD (dn ds 0 n)=vT n (dig ds):=by
 have:=z30 h 0 n
 simp [vT] at this
 exact this
theorem zrp (ds:List Nat) (lo m:Nat):∀ n,dn ds lo (m+n)=dn ds (lo+m) n++dn ds lo m
 | 0=>by simp [dn]
 | n+1=>by
   show bAt ds (lo+(m+n))::dn ds lo (m+n)=_
   rw [zrp ds lo m n]
   show _=bAt ds (lo+m+n)::dn ds (lo+m) n++dn ds lo m
   rw [Nat.add_assoc lo m n];rfl
theorem zlr {ds:List Nat} (lo:Nat):∀ n,(∀ j,lo≤j→j < lo+n→dig ds j=0)→dn ds lo n=List.replicate n 48
 | 0,_=>rfl
 | n+1,h=>by
   show bAt ds (lo+n)::dn ds lo n=_
   rw [zlr lo n (fun j a b=>h j a (by omega)),List.replicate_succ]
   unfold bAt;rw [h (lo+n) (by omega) (by omega)];rfl
theorem znz {l:List UInt8} (h:∀ c r,l=c::r→c≠48):Lib.trimLeftB l 48=l:=by
 cases l with
 | nil=>rfl
 | cons c r=>
   unfold Lib.trimLeftB
   rw [List.dropWhile_cons,if_neg (by simpa using h c r rfl)]
theorem zup {ds:List Nat} (hs:zcb ds) (lo m k:Nat) (h0:∀ j,lo+m≤j→j < lo+(m+k)→dig ds j=0) (h1:m=0∨dig ds (lo+m - 1)≠0):Lib.trimLeftB (dn ds lo (m+k)) 48=dn ds lo m:=by
 rw [zrp,zlr (lo+m) k (fun j a b=>h0 j a (by omega)),zf2]
 apply znz
 intro c r e hc
 cases m with
 | zero=>cases e
 | succ m=>
   have e1:c=bAt ds (lo+m):=(List.cons.inj e).1.symm
   rw [hc] at e1
   rcases h1 with h | h
   ·cases h
   ·exact h (by rw [show lo+(m+1) - 1=lo+m by omega];exact (zyw hs _).1 e1.symm)
theorem zwc {l:List UInt8} (h:∀ r c,l=r++[c]→c≠48):Lib.trimRightB l 48=l:=by
 unfold Lib.trimRightB
 have:Lib.trimLeftB l.reverse 48=l.reverse:=znz fun c r e=>h r.reverse c (by rw [← List.reverse_reverse l,e];simp)
 unfold Lib.trimLeftB at this
 rw [this,List.reverse_reverse]
theorem z1x {ds:List Nat} (hs:zcb ds) (lo k m:Nat) (h0:∀ j,lo≤j→j < lo+k→dig ds j=0) (h1:m=0∨dig ds (lo+k)≠0):Lib.trimRightB (dn ds lo (k+m)) 48=dn ds (lo+k) m:=by
 rw [zrp,zlr lo k h0,zf3]
 apply zwc
 intro r c e hc
 cases m with
 | zero=>simp [dn] at e
 | succ m=>
   rw [Nat.add_comm m 1,zrp] at e
   have e2:=List.append_inj_right' e (by simp [dn])
   have e1:bAt ds (lo+k)=c:=by
    have:=(List.cons.inj e2).1
    rw [show lo+k+0=lo+k from rfl] at this
    exact this
   rw [hc] at e1
   rcases h1 with h | h
   ·omega
   ·exact h ((zyw hs _).1 e1)
def zrq (neg:Bool) (ds:List Nat) (sc:Nat):Option (List UInt8):=wr neg (dn ds sc (ds.length - sc)) (dn ds 0 sc)
theorem ztc {ds:List Nat} (hs:zcb ds) (sc:Nat):za4 ds=valD (dn ds sc (ds.length - sc))*10 ^ sc+valD (dn ds 0 sc):=by
 rw [zyy hs,z30 hs,zdl _ (by omega)]
structure Ends (ds:List Nat) (sc low high:Nat):Prop where
 l:low≤sc
 lz:∀ j,j < low→dig ds j=0
 ln:low=sc∨dig ds low≠0
 h:sc+1≤high
 hz:∀ j,high≤j→dig ds j=0
 hn:high=sc+1∨dig ds (high - 1)≠0
theorem Ends.trimR {ds:List Nat} {sc low high:Nat} (h:Ends ds sc low high) (hs:zcb ds):Lib.trimRightB (dn ds 0 sc) 48=dn ds low (sc - low):=by
 have e:=z1x hs 0 low (sc - low) (fun j _ b=>h.lz j (by omega)) (by
  rcases h.ln with k | k
  ·left;omega
  ·right;rwa [Nat.zero_add])
 have hl:=h.l
 rw [show low+(sc - low)=sc by omega,Nat.zero_add] at e
 exact e
theorem Ends.trimL {ds:List Nat} {sc low high:Nat} (h:Ends ds sc low high) (hs:zcb ds):Lib.trimLeftB (dn ds sc (ds.length - sc)) 48=if dig ds (high - 1)=0 then [] else dn ds sc (high - sc):=by
 have hh:=h.h
 by_cases h0:dig ds (high - 1)=0
 ·rw [if_pos h0]
  have e:high=sc+1:=by rcases h.hn with k | k
                       ·exact k
                       ·exact absurd h0 k
  have:=zup hs sc 0 (ds.length - sc) (fun j a _=>by
   by_cases k:j=sc
   ·rw [k,← h0,e];rfl
   ·exact h.hz j (by omega)) (.inl rfl)
  rwa [Nat.zero_add] at this
 ·rw [if_neg h0]
  have hl:high≤ds.length:=by
   rcases Nat.lt_or_ge (high - 1) ds.length with k | k
   ·omega
   ·exact absurd (zep k) h0
  have:=zup hs sc (high - sc) (ds.length - high) (fun j a _=>h.hz j (by omega)) (.inr (by rw [show sc+(high - sc) - 1=high - 1 by omega];exact h0))
  rwa [show high - sc+(ds.length - high)=ds.length - sc by omega] at this
theorem Ends.orL {ds:List Nat} {sc low high:Nat} (h:Ends ds sc low high) (hs:zcb ds):orN (Lib.trimLeftB (dn ds sc (ds.length - sc)) 48)=dn ds sc (high - sc)∧
 ((Lib.trimLeftB (dn ds sc (ds.length - sc)) 48).length > 40↔high - sc > 40):=by
 have hh:=h.h
 rw [h.trimL hs]
 by_cases h0:dig ds (high - 1)=0
 ·rw [if_pos h0]
  have e:high=sc+1:=by rcases h.hn with k | k
                       ·exact k
                       ·exact absurd h0 k
  have e1:dig ds sc=0:=by rw [← h0,e];rfl
  rw [e,show sc+1 - sc=1 by omega]
  refine ⟨?_,by simp⟩
  show [48]=[bAt ds (sc+0)]
  rw [(zyw hs (sc+0)).2 e1]
 ·rw [if_neg h0,zpf]
  refine ⟨?_,Iff.rfl⟩
  obtain ⟨k,hk⟩:∃ k,high - sc=k+1:=⟨high - sc - 1,by omega⟩
  rw [hk];rfl
theorem Ends.form {ds:List Nat} {sc low high:Nat} (h:Ends ds sc low high) (hs:zcb ds) (neg:Bool):
 zrq neg ds sc=if high - sc > 40∨sc - low > 20 then none else some ((if neg && !decide (za4 ds=0) then [45] else [])++(dn ds sc (high - sc)++46::(if low=sc then [48] else dn ds low (sc - low)))):=by
 obtain ⟨o1,o2⟩:=h.orL hs
 have t2:=h.trimR hs
 have hl:=h.l
 have hx:=zm4 (zyx hs sc (ds.length - sc))
 have hy:=zm5 (zyx hs 0 sc)
 have hv:=ztc hs sc
 unfold zrq wr
 simp only
 have c1:(40 < (Lib.trimLeftB (dn ds sc (ds.length - sc)) 48).length∨20 < (Lib.trimRightB (dn ds 0 sc) 48).length)↔(high - sc > 40∨sc - low > 20):=by
  rw [t2,zpf];exact or_congr o2 Iff.rfl
 have c2:(!(Lib.trimLeftB (dn ds sc (ds.length - sc)) 48++Lib.trimRightB (dn ds 0 sc) 48).isEmpty)=!decide (za4 ds=0):=by
  congr 1
  rw [Bool.eq_iff_iff,decide_eq_true_iff,List.isEmpty_iff,List.append_eq_nil_iff,hx,hy,hv,Nat.add_eq_zero_iff,Nat.mul_eq_zero]
  have hp:(10:Nat) ^ sc≠0:=Nat.pos_iff_ne_zero.1 (Nat.pow_pos (by decide))
  constructor
  ·rintro ⟨a,b⟩;exact ⟨.inl a,b⟩
  ·rintro ⟨a | a,b⟩
   ·exact ⟨a,b⟩
   ·exact absurd a hp
 rw [c2,o1]
 have c3:orN (Lib.trimRightB (dn ds 0 sc) 48)=if low=sc then [48] else dn ds low (sc - low):=by
  rw [t2]
  by_cases e:low=sc
  ·rw [if_pos e,e,Nat.sub_self];rfl
  ·rw [if_neg e]
   obtain ⟨k,hk⟩:∃ k,sc - low=k+1:=⟨sc - low - 1,by omega⟩
   rw [hk];rfl
 rw [c3]
 by_cases hc:high - sc > 40∨sc - low > 20
 ·rw [if_pos hc,if_pos (c1.2 hc)]
 ·rw [if_neg hc,if_neg (fun k=>hc (c1.1 k))]
def nval (neg:Bool) (ds:List Nat) (sc:Nat):Int:=sv neg (za4 ds*10 ^ (54 - sc))
theorem dn_revD (a b:List UInt8) (ha:a.all za8=true) (hb:b.all za8=true):dn (revD (a++b)) b.length a.length=a∧dn (revD (a++b)) 0 b.length=b:=by
 have hall:(a++b).all za8=true:=by rw [List.all_append,ha,hb];rfl
 have key:∀ (l:List UInt8),l.all za8=true→dn (revD l) 0 l.length=l:=by
  intro l hl
  apply zer _ _ (zyx (zkv l hl) _ _) hl (zpf _ _ _)
  rw [zyy (zkv l hl)]
  have:=zrl l
  unfold za4 at this
  rwa [zig] at this
 have h1:=key (a++b) hall
 rw [List.length_append,Nat.add_comm,zrp,Nat.zero_add] at h1
 exact List.append_inj h1 (zpf _ _ _)
theorem zyz (neg:Bool) (a b:List UInt8) (ha:a.all za8=true) (hb:b.all za8=true):zrq neg (revD (a++b)) b.length=wr neg a b:=by
 obtain ⟨h1,h2⟩:=dn_revD a b ha hb
 unfold zrq
 rw [zig,List.length_append,Nat.add_sub_cancel,h1,h2]
structure zkw (w:World) (neg:Bool) (v:Value) (sc:Nat) (s6:Value) (l:List UInt8) (wr:World):Prop where
 own:wr.ownsRow (w.heap.size+1) 5 1 s6 l.length (vals l)
 rc:Rec wr w.heap.size neg v sc
 bel:Below w.heap.size w wr
theorem zkw.app {w wr w1:World} {neg:Bool} {v s6 v':Value} {sc n:Nat} {l:List UInt8} {o:Obj} {c:UInt8} {x:Int} (h:zkw w neg v sc s6 l wr) (hx:(c.toNat:Int)=x)
 (hown:w1.ownsRow (w.heap.size+1) 5 1 v' n (vals l++[.int .u8 x])) (hn:n=l.length+1) (hg:(wr.alloc o).grownBy w1 s6.ownBlock):zkw w neg v sc v' (l++[c]) w1:=by
 have hne:some w.heap.size≠s6.ownBlock:=fun e=>by have:=(h.own.lt _ e.symm).1;omega
 have hb:Below w.heap.size w w1:=(h.bel.alloc h.bel.size o).grown hg (by have:=h.bel.size;simp;omega) (fun k hk=>by have:=(h.own.lt k hk).1;omega)
 refine ⟨?_,(hg.block _ (zaa (h.rc.alloc o)) hne).trans (h.rc.alloc o),hb⟩
 subst hx hn
 rw [List.length_append]
 unfold vals at hown ⊢
 simpa using hown
theorem zkw.conv {w wr:World} {neg:Bool} {v s6:Value} {sc:Nat} {l:List UInt8} (h:zkw w neg v sc s6 l wr) (hne:l≠[]):
 ∃ g cap,s6=.slice (some ⟨g,0,none⟩) l.length cap∧(convert 101 9 (.slice (some ⟨g,0,none⟩) l.length cap)).run Tryz.prog wr=.ok (.string (bs l)) wr:=by
 have hl:0 < l.length:=List.length_pos_iff.2 hne
 rcases h.own.2 with ⟨e,h0⟩ | ⟨g,cap,cur,e,_,_⟩
 ·exact absurd (List.length_eq_zero_iff.1 h0) hne
 ·refine ⟨g,cap,e,?_⟩
  have hown:=h.own
  subst e
  exact run_convert_bytes_back (P:=Tryz.prog) wr 101 9 5 ⟨g,0,none⟩ cap l Tryz.underlying101 Tryz.underlying5 Tryz.underlying9 (fun j hj=>by
   rw [Addr.add_mid,Nat.zero_add,hown.cellAt j (by omega)]
   unfold vals
   rw [List.getElem?_map,List.getElem?_eq_getElem hj]
   rfl)
theorem refForm (neg:Bool) (v:Value) (ds:List Nat) (sc:Nat) (w:World) (h:Ints w v ds) (hs:zcb ds) (l1:sc≤1000000000) (l2:ds.length≤1000000000):
 Calls Tryz.prog 220 #[numR neg v sc] w fun e w'=>e=.returned (said (zrq neg ds sc))∧Below w.heap.size w w':=by
 unfold numR
 obtain ⟨i0,hi,hz0,hz1,hz2⟩:=info_parts zfw
 obtain ⟨t,er,hv0⟩:=zm8 (zrq neg ds sc)
 rw [hv0]
 have HV0:=Lib.hid hv0
 have HI:=Lib.hid h
 have HS:=Lib.hid hs
 have HF:=h.form
 obtain ⟨p,cap,rfl⟩:=HF
 obtain ⟨n,hn⟩:∃ n,n=ds.length:=⟨_,rfl⟩
 rw [← hn] at l2 ⊢
 have HN:=Lib.hid hn
 have k0:Rec (w.alloc (.cells #[.bool neg,.slice p ds.length cap,.int .i64 sc] 224)) w.heap.size neg (.slice p ds.length cap) sc:=zaf _ _ rfl
 have hb0:Below w.heap.size w (w.alloc (.cells #[.bool neg,.slice p ds.length cap,.int .i64 sc] 224)):=(Below.refl _ _).alloc (Nat.le_refl _) _
 rw [← hn] at k0 hb0
 have K0:=Lib.hid (And.intro k0 hb0)
 clear h hs hv0 hn k0 hb0
 go_enter Tryz.func220,Tryz.ntmps220
 go_upto_block 0 with fail
 go_cut [4] (fun s4 wx=>∃ low:Nat,s4=.int .i64 low∧wx=w.alloc (.cells #[.bool neg,.slice p n cap,.int .i64 sc] 224)∧low≤sc∧Aside ((∀ j,j < low→dig ds j=0)∧(low=sc∨dig ds low≠0)))
 case first=>
  go_wp2_with fail
  go_loopg [4] sc (fun gg s4 wr=>∃ low:Nat,low+gg=sc∧s4=.int .i64 low∧wr=w.alloc (.cells #[.bool neg,.slice p n cap,.int .i64 sc] 224)∧Aside (∀ j,j < low→dig ds j=0))
  case atStart=>exact ⟨0,by omega,rfl,rfl,fun j hj=>absurd hj (Nat.not_lt_zero j)⟩
  case round=>
   obtain ⟨low,hl,rfl,rfl,hz⟩:=hrel
   have HZ:=Lib.hid hz.out
   clear hz
   by_cases h1:(low:Int) < sc
   ·obtain ⟨x,hx⟩:∃ x,x=dig ds low:=⟨_,rfl⟩
    have K1:=Lib.hid hx
    have IW:Hid (Ints (w.alloc (.cells #[.bool neg,.slice p n cap,.int .i64 sc] 224)) (.slice p n cap) ds):=Lib.hid (by have:=HI.out;rw [← HN.out] at this;exact this.below K0.out.2)
    by_cases h2:(x:Int)=0
    ·have hz2:∀ j,j < low+1→dig ds j=0:=fun j hj=>by
      rcases Nat.lt_or_ge j low with h3 | h3
      ·exact HZ.out j h3
      ·rw [show j=low by omega,← hx];omega
     have HZ2:=Lib.hid hz2
     clear hz2 hx HZ
     go_wp2_with (go_at_call 248;(with_reducible refine (zd1 _ ds low x _ IW.out K1).mono ?_);rintro e w' ⟨rfl,rfl⟩)
     go_roundg (gk - 1)
     case measure=>omega
     case rel=>exact ⟨low+1,by omega,by go_num,rfl,HZ2.out⟩
    ·have hx2:dig ds low≠0:=by rw [← hx];omega
     have HX2:=Lib.hid hx2
     have h2b:((x:Int) == 0)=false:=by simpa using h2
     clear hx hx2
     go_wp2_with (go_at_call 248;(with_reducible refine (zd1 _ ds low x _ IW.out K1).mono ?_);rintro e w' ⟨rfl,rfl⟩)
     go_meet
     case rel=>exact ⟨low,rfl,rfl,by omega,HZ.out,.inr HX2.out⟩
   ·go_wp2_with fail
    go_meet
    case rel=>exact ⟨low,rfl,rfl,by omega,HZ.out,.inl (by omega)⟩
 case rest=>
  obtain ⟨low,rfl,rfl,hlow,hz⟩:=hcut
  have HL:=Lib.hid hz.out
  clear hz
  go_upto_block 2 with fail
  go_cut [5] (fun s5 wx=>∃ high:Nat,s5=.int .i64 high∧wx=w.alloc (.cells #[.bool neg,.slice p n cap,.int .i64 sc] 224)∧high≤n∧Aside ((∀ j,high≤j→dig ds j=0)∧(high≤sc+1∨dig ds (high - 1)≠0)))
  case first=>
   go_wp2_with fail
   go_loopg [5] n (fun gg s5 wr=>∃ high:Nat,high=gg∧s5=.int .i64 high∧wr=w.alloc (.cells #[.bool neg,.slice p n cap,.int .i64 sc] 224)∧high≤n∧Aside (∀ j,high≤j→dig ds j=0))
   case atStart=>exact ⟨n,rfl,rfl,rfl,Nat.le_refl _,fun j hj=>zep (by rw [← HN.out];exact hj)⟩
   case round=>
    obtain ⟨high,rfl,rfl,rfl,hh,hz⟩:=hrel
    have HZ:=Lib.hid hz.out
    clear hz
    by_cases h1:(high:Int) > sc+1
    ·obtain ⟨k,hk⟩:∃ k:Nat,(high:Int) - 1=k:=⟨high - 1,by omega⟩
     have hk2:high=k+1:=by omega
     have HK:=Lib.hid hk2
     clear hk2
     have hcell:∃ b off,p=some ⟨b,off,none⟩∧w.cell? ⟨b,off+k,none⟩=some (.int .i64 (dig ds k)):=by
      rcases HI.out with ⟨e,e2⟩ | ⟨b,off,cap2,e,hc,_⟩
      ·have:=HN.out;rw [e2] at this;simp at this;omega
      ·injection e with e1 e2 e3
       exact ⟨b,off,e1,hc k (by rw [← HN.out];omega)⟩
     obtain ⟨b,off,rfl,hc⟩:=hcell
     have c1:=(K0.out.2.cell (p:=⟨b,off+k,none⟩) (World.block_lt_of_cell? w _ hc)).trans hc
     obtain ⟨x,hx⟩:∃ x,x=dig ds k:=⟨_,rfl⟩
     rw [← hx] at c1
     clear hc
     by_cases h2:(x:Int)=0
     ·have hz2:∀ j,k≤j→dig ds j=0:=fun j hj=>by
       rcases Nat.lt_or_ge k j with h3 | h3
       ·exact HZ.out j (by omega)
       ·rw [show j=k by omega,← hx];omega
      have HZ2:=Lib.hid hz2
      clear hz2 hx HZ
      rw [h2] at c1
      go_wp2_with fail
      go_roundg k
      case measure=>omega
      case rel=>exact ⟨k,rfl,rfl,rfl,by omega,HZ2.out⟩
     ·have hx2:dig ds k≠0:=by rw [← hx];omega
      have HX2:=Lib.hid hx2
      have h2b:((x:Int) == 0)=false:=by simpa using h2
      clear hx hx2
      go_wp2_with fail
      go_meet
      case rel=>exact ⟨high,rfl,rfl,by omega,HZ.out,.inr (by rw [show high - 1=k by omega];exact HX2.out)⟩
    ·go_wp2_with fail
     go_meet
     case rel=>exact ⟨high,rfl,rfl,by omega,HZ.out,.inl (by omega)⟩
  case rest=>
   obtain ⟨h0,rfl,rfl,hh0,hz⟩:=hcut
   have HH:=Lib.hid hz.out
   clear hz
   go_upto_if 44 with fail
   go_cut [5] (fun s5 wx=>∃ high:Nat,s5=.int .i64 high∧wx=w.alloc (.cells #[.bool neg,.slice p n cap,.int .i64 sc] 224)∧high≤2000000001∧sc+1≤high∧Hid (Ends ds sc low high))
   case first=>
    by_cases h1:(h0:Int)≤sc
    ·have HE:Hid (Ends ds sc low (sc+1)):=Lib.hid ⟨hlow,HL.out.1,HL.out.2,Nat.le_refl _,fun j hj=>HH.out.1 j (by omega),.inl rfl⟩
     go_wp2_with fail
     go_meet
     case rel=>exact ⟨sc+1,by go_num,rfl,by omega,Nat.le_refl _,HE⟩
    ·have HE:Hid (Ends ds sc low h0):=Lib.hid ⟨hlow,HL.out.1,HL.out.2,by omega,HH.out.1,by rcases HH.out.2 with k | k;left;omega;exact .inr k⟩
     go_wp2_with fail
     go_meet
     case rel=>exact ⟨h0,rfl,rfl,by omega,by omega,HE⟩
   case rest=>
    clear HL HH hh0
    obtain ⟨high,rfl,rfl,hh,hsc,HE⟩:=hcut
    have hform:=HE.out.form HS.out neg
    by_cases hov:high - sc > 40∨sc - low > 20
    ·rw [if_pos hov] at hform
     have hr:t=bs []∧er=2:=by
      have:=HV0.out
      rw [hform] at this
      simp [said] at this
      exact ⟨this.1.symm,this.2.symm⟩
     obtain ⟨rfl,rfl⟩:=hr
     clear hform
     by_cases hov1:(high:Int) - sc > 40
     ·clear hov
      go_wp2_with fail
      go_ret2
      exact ⟨rfl,K0.out.2⟩
     ·have hov2:(sc:Int) - low > 20:=by omega
      clear hov
      go_wp2_with fail
      go_ret2
      exact ⟨rfl,K0.out.2⟩
    ·rw [if_neg hov] at hform
     obtain ⟨T,hT⟩:∃ T,T=((if (neg && !decide (za4 ds=0))=true then [45] else [])++(dn ds sc (high - sc)++46::(if low=sc then [48] else dn ds low (sc - low)))):=⟨_,rfl⟩
     rw [← hT] at hform
     have hr:t=bs T∧er=0:=by
      have:=HV0.out
      rw [hform] at this
      simp [said] at this
      exact ⟨this.1.symm,this.2.symm⟩
     obtain ⟨rfl,rfl⟩:=hr
     have HT:=Lib.hid hT
     clear hform hT HV0
     have o1:(high:Int) - sc≤40:=by omega
     have o2:(sc:Int) - low≤20:=by omega
     clear hov
     obtain ⟨d,hd⟩:∃ d:Bool,d=decide (za4 ds=0):=⟨_,rfl⟩
     obtain ⟨S,hS⟩:∃ S:List UInt8,S=if (neg && !d)=true then [45] else []:=⟨_,rfl⟩
     have HD:=Lib.hid hd
     have HSS:=Lib.hid hS
     have hsd:S=if (neg && !decide (za4 ds=0))=true then [45] else []:=by rw [hS,hd]
     have HSD:=Lib.hid hsd
     clear hsd
     have hS1:S.length≤1:=by rw [hS];split <;> simp
     clear hd hS
     go_upto_region 12 with fail
     go_cut [67] (fun s67 wx=>s67=.bool (neg && !d)∧wx=w.alloc (.cells #[.bool neg,.slice p n cap,.int .i64 sc] 224))
     case first=>
      have IW:Hid (Ints (w.alloc (.cells #[.bool neg,.slice p n cap,.int .i64 sc] 224)) (.slice p n cap) ds):=Lib.hid (by have:=HI.out;rw [← HN.out] at this;exact this.below K0.out.2)
      have hn63:ds.length≤9223372036854775807:=by have:=HN.out;omega
      have HN63:=Lib.hid hn63
      clear hn63
      cases neg with
      | false=>
        go_wp2_with fail
        go_meet
        case rel=>exact ⟨rfl,rfl⟩
      | true=>
        cases d with
        | false=>
          go_wp2_with (go_at_call 215;(with_reducible refine (znt _ ds _ IW.out HN63.out false HD.out).mono ?_);rintro e w' ⟨rfl,rfl⟩)
          go_meet
          case rel=>exact ⟨rfl,rfl⟩
        | true=>
          go_wp2_with (go_at_call 215;(with_reducible refine (znt _ ds _ IW.out HN63.out true HD.out).mono ?_);rintro e w' ⟨rfl,rfl⟩)
          go_meet
          case rel=>exact ⟨rfl,rfl⟩
     case rest=>
      obtain ⟨rfl,rfl⟩:=hcut
      obtain ⟨m,hm⟩:∃ m:Bool,m=(neg && !d):=⟨_,rfl⟩
      rw [← hm] at HSS ⊢
      have HM:=Lib.hid hm
      clear hm
      go_upto_if 67 with fail
      go_cut [6] (fun s6 wx=>zkw w neg (.slice p n cap) sc s6 S wx)
      case first=>
       have F0:zkw w neg (.slice p n cap) sc (.slice none 0 0) [] (w.alloc (.cells #[.bool neg,.slice p n cap,.int .i64 sc] 224)):=⟨World.ownsRow_nil _ _ _ _,K0.out.1,K0.out.2⟩
       have FH:=Lib.hid F0
       clear F0
       cases m with
       | false=>
         have e:S=[]:=by rw [HSS.out];rfl
         go_wp2_with fail
         go_meet
         case rel=>rw [e];exact FH.out
       | true=>
         have e:S=[45]:=by rw [HSS.out];rfl
         have hown:=FH.out.own
         have HE1:=Lib.hid e
         clear e
         go_wp2_with (at_builtin;refine wpList_append_own _ rfl _ _ 101 rfl (w.heap.size+1) 5 i0 (.int .u8 0) 1 1 Tryz.underlying101 hi hz0 hz1 hz2 rfl (by decide) _ _ _ rfl (hown.alloc _) ⟨w.heap.size+1,0,none⟩ 1 1 [.int .u8 45] rfl rfl ?_ ?_ ?_ ?_ ?_ ?_)
         all_goals (try (first | rfl |(unfold maxLen;omega) | omega |(have:=FH.out.bel.size;simp;omega) |(intro j u hj;match j,hj with | 0,hj=>(simp at hj;subst hj;simp [Addr.add])) |(intro u hu;simp at hu;subst hu;rfl)))
         ·intro v' w1 hown' hgrow _
          have F1:=FH.out.app (c:=45) rfl hown' rfl hgrow
          clear hown' hgrow hown
          go_wp2_with fail
          go_meet
          case rel=>rw [HE1.out];exact F1
      case rest=>
       obtain ⟨G,hG⟩:∃ G:List UInt8,G=S++dn ds sc (high - sc):=⟨_,rfl⟩
       have HG:=Lib.hid hG
       have hGl:G.length≤41:=by rw [hG,List.length_append,zpf];omega
       have HGL:=Lib.hid hGl
       have HX:=HS.out
       have HSX:=Lib.hid HX
       clear hG hGl HX HSS HD HM K0
       rename_i s6
       have FC:=Lib.hid hcut
       clear hcut
       go_wp2_with fail
       go_loopg [6,7] (high - sc) (fun gg s6 s7 wr=>∃ (l:List UInt8) (i:Int),i+1=sc+gg∧s7=.int .i64 i∧l.length+gg≤41∧zkw w neg (.slice p n cap) sc s6 l wr∧Hid (l++dn ds sc gg=G))
       case atStart=>exact ⟨S,_,by omega,rfl,by omega,FC.out,Lib.hid HG.out.symm⟩
       case round=>
        clear FC
        obtain ⟨l,i,hig,rfl,hlen,F,HL⟩:=hrel
        have c1:=F.rc.c1
        have c2:=F.rc.c2
        by_cases h1:i ≥ sc
        ·obtain ⟨j,rfl⟩:=Int.eq_ofNat_of_zero_le (show 0≤i by omega)
         obtain ⟨x,hx⟩:∃ x,x=dig ds j:=⟨_,rfl⟩
         have hx9:=HSX.out j
         rw [← hx] at hx9
         have hcx:((bAt ds j).toNat:Int)=48+x:=by rw [zh1 HSX.out,← hx];omega
         have hlist:l++[bAt ds j]++dn ds sc (gk - 1)=G:=by
          have:=HL.out
          rw [show gk=gk - 1+1 by omega] at this
          rw [← this,List.append_assoc]
          show l++(bAt ds j::dn ds sc (gk - 1))=l++(bAt ds (sc+(gk - 1))::dn ds sc (gk - 1))
          rw [show sc+(gk - 1)=j by omega]
         have HC:=Lib.hid (And.intro hcx hlist)
         have K1:=Lib.hid hx
         have hw1:IntKind.u8.wrap (48+(x:Int))=48+x:=by unfold IntKind.wrap;simp [IntKind.bits,IntKind.signed];omega
         have IW:Hid (Ints wr (.slice p n cap) ds):=Lib.hid (by have:=HI.out;rw [← HN.out] at this;exact this.below F.bel)
         have hown:=F.own
         have hsz:=F.bel.size
         have hgt:=F.rc.lt
         clear hcx hlist hx
         go_wp2_with (first
          |(go_at_call 248;(with_reducible refine (zd1 _ ds j x _ IW.out K1).mono ?_);rintro e w' ⟨rfl,rfl⟩)
          |(at_builtin;refine wpList_append_own _ rfl _ _ 101 rfl (w.heap.size+1) 5 i0 (.int .u8 0) 1 1 Tryz.underlying101 hi hz0 hz1 hz2 rfl (by decide) _ _ _ rfl (hown.alloc _) ⟨wr.heap.size,0,none⟩ 1 1 [.int .u8 (48+(x:Int))] rfl rfl ?_ ?_ ?_ ?_ ?_ ?_))
         all_goals (try (first | rfl |(unfold maxLen;omega) | omega |(have:=F.bel.size;simp;omega) |(intro j u hj;match j,hj with | 0,hj=>(simp at hj;subst hj;simp [Addr.add])) |(intro u hu;simp at hu;subst hu;rfl)))
         ·intro v' w1 hown' hgrow _
          have F1:=F.app HC.out.1 hown' rfl hgrow
          clear hown' hgrow hown c1 c2 hw1
          go_wp2_with fail
          go_roundg (gk - 1)
          case measure=>omega
          case rel=>exact ⟨l++[bAt ds j],(j:Int) - 1,by omega,by go_num,by simp;omega,F1,Lib.hid HC.out.2⟩
        ·have hl:l=G:=by
          have:=HL.out
          rw [show gk=0 by omega] at this
          rw [← this];exact (List.append_nil l).symm
         have HLG:=Lib.hid hl
         have hown:=F.own
         have hsz:=F.bel.size
         have hgt:=F.rc.lt
         clear hl
         go_wp2_with (at_builtin;refine wpList_append_own _ rfl _ _ 101 rfl (w.heap.size+1) 5 i0 (.int .u8 0) 1 1 Tryz.underlying101 hi hz0 hz1 hz2 rfl (by decide) _ _ _ rfl (hown.alloc _) ⟨wr.heap.size,0,none⟩ 1 1 [.int .u8 46] rfl rfl ?_ ?_ ?_ ?_ ?_ ?_)
         all_goals (try (first | rfl |(unfold maxLen;omega) | omega |(have:=F.bel.size;simp;omega) |(intro j u hj;match j,hj with | 0,hj=>(simp at hj;subst hj;simp [Addr.add])) |(intro u hu;simp at hu;subst hu;rfl)))
         ·intro v' w1 hown' hgrow _
          have F1:=F.app (c:=46) rfl hown' rfl hgrow
          have FC:=Lib.hid F1
          have d2:=F1.rc.c2
          obtain ⟨G2,hG2⟩:∃ G2:List UInt8,G2=l++[46]++dn ds low (sc - low):=⟨_,rfl⟩
          have HG2:=Lib.hid hG2
          have hlb:(l++[46]).length≤42:=by rw [List.length_append,HLG.out];have:=HGL.out;simp;omega
          have HLB:=Lib.hid hlb
          clear hlb hG2 F1 hown' hgrow hown c1 c2 F HL hlen hig
          go_wp2_with fail
          clear d2
          go_loopg [6,8] (sc - low) (fun gg s6 s8 wq=>∃ (l2:List UInt8) (i2:Int),i2+1=low+gg∧s8=.int .i64 i2∧l2.length+gg≤62∧zkw w neg (.slice p n cap) sc s6 l2 wq∧Hid (l2++dn ds low gg=G2))
          case atStart=>exact ⟨l++[46],_,by omega,rfl,by have:=HLB.out;omega,FC.out,Lib.hid HG2.out.symm⟩
          case round=>
           clear FC
           obtain ⟨l2,i2,hig2,rfl,hlen2,F2,HL2⟩:=hrel
           have c1:=F2.rc.c1
           have c2:=F2.rc.c2
           by_cases h2:i2 ≥ low
           ·obtain ⟨j,rfl⟩:=Int.eq_ofNat_of_zero_le (show 0≤i2 by omega)
            obtain ⟨x,hx⟩:∃ x,x=dig ds j:=⟨_,rfl⟩
            have hx9:=HSX.out j
            rw [← hx] at hx9
            have hcx:((bAt ds j).toNat:Int)=48+x:=by rw [zh1 HSX.out,← hx];omega
            have hlist:l2++[bAt ds j]++dn ds low (gk - 1)=G2:=by
             have:=HL2.out
             rw [show gk=gk - 1+1 by omega] at this
             rw [← this,List.append_assoc]
             show l2++(bAt ds j::dn ds low (gk - 1))=l2++(bAt ds (low+(gk - 1))::dn ds low (gk - 1))
             rw [show low+(gk - 1)=j by omega]
            have HC:=Lib.hid (And.intro hcx hlist)
            have K1:=Lib.hid hx
            have hw1:IntKind.u8.wrap (48+(x:Int))=48+x:=by unfold IntKind.wrap;simp [IntKind.bits,IntKind.signed];omega
            have IW:Hid (Ints wr (.slice p n cap) ds):=Lib.hid (by have:=HI.out;rw [← HN.out] at this;exact this.below F2.bel)
            have hown:=F2.own
            have hsz:=F2.bel.size
            have hgt:=F2.rc.lt
            clear hcx hlist hx
            go_wp2_with (first
             |(go_at_call 248;(with_reducible refine (zd1 _ ds j x _ IW.out K1).mono ?_);rintro e w' ⟨rfl,rfl⟩)
             |(at_builtin;refine wpList_append_own _ rfl _ _ 101 rfl (w.heap.size+1) 5 i0 (.int .u8 0) 1 1 Tryz.underlying101 hi hz0 hz1 hz2 rfl (by decide) _ _ _ rfl (hown.alloc _) ⟨wr.heap.size,0,none⟩ 1 1 [.int .u8 (48+(x:Int))] rfl rfl ?_ ?_ ?_ ?_ ?_ ?_))
            all_goals (try (first | rfl |(unfold maxLen;omega) | omega |(have:=F2.bel.size;simp;omega) |(intro j u hj;match j,hj with | 0,hj=>(simp at hj;subst hj;simp [Addr.add])) |(intro u hu;simp at hu;subst hu;rfl)))
            ·intro v' w1 hown' hgrow _
             have F1:=F2.app HC.out.1 hown' rfl hgrow
             clear hown' hgrow hown c1 c2 hw1
             go_wp2_with fail
             go_roundg (gk - 1)
             case measure=>omega
             case rel=>exact ⟨l2++[bAt ds j],(j:Int) - 1,by omega,by go_num,by simp;omega,F1,Lib.hid HC.out.2⟩
           ·have hl2:l2=G2:=by
             have:=HL2.out
             rw [show gk=0 by omega] at this
             rw [← this];exact (List.append_nil l2).symm
            have HLG2:=Lib.hid hl2
            clear hl2
            by_cases hls:(low:Int)=sc
            ·have hT:l2++[48]=T:=by
              rw [HLG2.out,HG2.out,HLG.out,HG.out,HT.out,if_pos (show low=sc by omega),show sc - low=0 by omega]
              show S++_++[46]++[]++[48]=_
              rw [HSD.out];simp
             have HTT:=Lib.hid hT
             have hown:=F2.own
             have hsz:=F2.bel.size
             have hgt:=F2.rc.lt
             clear hT
             go_wp2_with (at_builtin;refine wpList_append_own _ rfl _ _ 101 rfl (w.heap.size+1) 5 i0 (.int .u8 0) 1 1 Tryz.underlying101 hi hz0 hz1 hz2 rfl (by decide) _ _ _ rfl (hown.alloc _) ⟨wr.heap.size,0,none⟩ 1 1 [.int .u8 48] rfl rfl ?_ ?_ ?_ ?_ ?_ ?_)
             all_goals (try (first | rfl |(unfold maxLen;omega) | omega |(have:=F2.bel.size;simp;omega) |(intro j u hj;match j,hj with | 0,hj=>(simp at hj;subst hj;simp [Addr.add])) |(intro u hu;simp at hu;subst hu;rfl)))
             ·intro v' w1 hown' hgrow _
              have F1:=F2.app (c:=48) rfl hown' rfl hgrow
              obtain ⟨g,cap3,rfl,hcv⟩:=F1.conv (by simp)
              obtain ⟨X,hX⟩:∃ X,X=bs (l2++[48]):=⟨_,rfl⟩
              rw [← hX] at hcv
              have HXX:=Lib.hid hX
              have hbf:=F1.bel
              clear hX F1 hown' hgrow hown c1 c2
              generalize (l2++[48]).length=L at*
              go_wp2_with fail
              go_ret2
              exact ⟨by rw [HXX.out,HTT.out];rfl,hbf⟩
            ·have hT:l2=T:=by
              rw [HLG2.out,HG2.out,HLG.out,HG.out,HT.out,if_neg (show ¬ low=sc by omega),HSD.out];simp
             have HTT:=Lib.hid hT
             have hne:l2≠[]:=by rw [HLG2.out,HG2.out];simp
             obtain ⟨g,cap3,rfl,hcv⟩:=F2.conv hne
             obtain ⟨X,hX⟩:∃ X,X=bs l2:=⟨_,rfl⟩
             rw [← hX] at hcv
             have HXX:=Lib.hid hX
             have hbf:=F2.bel
             clear hX F2 hT hne c1
             generalize l2.length=L at*
             have hlsb:((low:Int) == (sc:Int))=false:=by simpa using hls
             go_wp2_with fail
             go_ret2
             exact ⟨by rw [HXX.out,HTT.out];rfl,hbf⟩
end Go.Proofs.YteclpnfckjfibaaGreatDoor
