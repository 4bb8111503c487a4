/- Texts of one kind, one behind the other: each says ahead of itself what it shows. -/
import Derived.Test.YtanbgdhmfjgihaaGreatDoorTak
import Derived.WalkKit
import Derived.OwnWalk
import Derived.Deep.QuietTactic
import Derived.BigQuiet
import Derived.Laws.AppendOwnNone
namespace Go.Proofs.YtanbgdhmfjgihaaGreatDoor
open Go.RowKit
set_option maxHeartbeats 12800000
set_option maxRecDepth 20000
theorem zug:(Tryz.prog.info? 3).map (fun i=>(i.zero,i.size,i.bytes))=some (some (.int .i64 0),1,8):=by kernel_rfl
def zam (ds:List Nat):List Value:=ds.map fun (d:Nat)=>Value.int .i64 (d:Int)
theorem zkq (ds:List Nat):(zam ds).length=ds.length:=by simp [zam]
theorem zl6 {ds:List Nat} {d j:Nat} (h:j < ds.length):dig (ds++[d]) j=dig ds j:=by
 simp [dig,List.getD,List.getElem?_append_left h]
theorem zl7 (ds:List Nat) (d:Nat):dig (ds++[d]) ds.length=d:=by
 simp [dig,List.getD]
theorem zkr {ds:List Nat} {d:Nat} (h:zbp ds) (hd:d≤9):zbp (ds++[d]):=by
 intro j
 rcases Nat.lt_trichotomy j ds.length with k | k | k
 ·rw [zl6 k];exact h j
 ·rw [k,zl7];exact hd
 ·rw [zdi (by simp;omega)];omega
theorem zuh (ds:List Nat) (d:Nat):vT (ds.length+1) (dig (ds++[d]))=vT ds.length (dig ds)+d*10 ^ ds.length:=by
 show vT ds.length (dig (ds++[d]))+dig (ds++[d]) ds.length*10 ^ ds.length=_
 rw [vT_eq (dig (ds++[d])) (dig ds) ds.length (fun j hj=>zl6 hj),zl7]
theorem zch {w:World} {base n:Nat} {v:Value} {ds:List Nat} (h:w.ownsRow base 3 1 v n (zam ds)) (hn:n=ds.length):Ints w v ds:=by
 subst hn
 rcases h.2 with ⟨e,h0⟩ | ⟨g,cap,cur,e,_,hk,_⟩
 ·exact .inl ⟨e,List.length_eq_zero_iff.1 h0⟩
 ·refine .inr ⟨g,0,cap,e,fun i hi=>?_,cur,hk⟩
  subst e
  have:=h.cellAt i (by omega)
  rw [Nat.zero_add,this]
  unfold zam dig
  rw [List.getElem?_map,List.getElem?_eq_getElem hi]
  simp [List.getD,hi]
structure zk8 (xs ys:List Nat) (i c:Nat) (zs:List Nat):Prop where
 len:zs.length=i
 small:zbp zs
 car:c≤1
 val:vT i (dig zs)+c*10 ^ i=vT i (dig xs)+vT i (dig ys)
 done:xs.length < i→ys.length < i→c=0
theorem zk8.start (xs ys:List Nat):zk8 xs ys 0 0 []:=⟨rfl,fun j=>by simp [dig],by omega,rfl,fun h=>absurd h (by omega)⟩
theorem zk8.step {xs ys zs:List Nat} {i c n:Nat} (h:zk8 xs ys i c zs) (hx:zbp xs) (hy:zbp ys) (hn:n=dig xs i+dig ys i+c):zk8 xs ys (i+1) (n / 10) (zs++[n % 10]):=by
 have h1:=hx i
 have h2:=hy i
 have h3:=h.car
 refine ⟨by simp [h.len],zkr h.small (by omega),by omega,?_,?_⟩
 ·have e:=zuh zs (n % 10)
  rw [h.len] at e
  rw [e]
  show _=(vT i (dig xs)+dig xs i*10 ^ i)+(vT i (dig ys)+dig ys i*10 ^ i)
  have v:=h.val
  rw [Nat.pow_succ]
  have e2:n / 10*(10 ^ i*10)=(n / 10*10)*10 ^ i:=by rw [Nat.mul_comm (10 ^ i) 10,Nat.mul_assoc]
  have e3:(n % 10)*10 ^ i+(n / 10*10)*10 ^ i=n*10 ^ i:=by rw [← Nat.add_mul];congr 1;omega
  have e4:n*10 ^ i=dig xs i*10 ^ i+dig ys i*10 ^ i+c*10 ^ i:=by rw [hn,Nat.add_mul,Nat.add_mul]
  omega
 ·intro a b
  have d1:=zdi (ds:=xs) (j:=i) (by omega)
  have d2:=zdi (ds:=ys) (j:=i) (by omega)
  omega
theorem zk8.all {xs ys zs:List Nat} {i:Nat} (h:zk8 xs ys i 0 zs) (hx:xs.length≤i) (hy:ys.length≤i):zav zs=zav xs+zav ys:=by
 have v:=h.val
 rw [zcn xs hx,zcn ys hy] at v
 unfold zav
 rw [h.len]
 unfold zav at v
 omega
theorem refAdd (u v:Value) (xs ys:List Nat) (w:World) (hu:Ints w u xs) (hv:Ints w v ys) (hx:zbp xs) (hy:zbp ys) (lx:xs.length≤1000000000) (ly:ys.length≤1000000000):
 Calls Tryz.prog 122 #[u,v] w fun e w'=>∃ z zs,e=.returned z∧Ints w' z zs∧zbp zs∧Aside (zav zs=zav xs+zav ys)∧zs.length≤xs.length+ys.length+1∧Below w.heap.size w w':=by
 obtain ⟨i0,hi,hz0,hz1,hz2⟩:=info_parts zug
 obtain ⟨p,cap,eu⟩:=hu.form
 obtain ⟨p2,cap2,ev⟩:=hv.form
 have HU:=Lib.hid hu
 have HV:=Lib.hid hv
 have HX:=Lib.hid hx
 have HY:=Lib.hid hy
 clear hu hv hx hy
 obtain ⟨n,hn⟩:∃ n,n=xs.length:=⟨_,rfl⟩
 obtain ⟨m,hm⟩:∃ m,m=ys.length:=⟨_,rfl⟩
 rw [← hn] at eu lx
 rw [← hm] at ev ly
 subst eu
 subst ev
 have HN:=Lib.hid (And.intro hn hm)
 rw [← hn,← hm]
 clear hn hm
 go_enter Tryz.func122,Tryz.ntmps122
 go_wp2_with fail
 go_loopg [5,6,7] (n+m+1) (fun gg s5 s6 s7 wr=>∃ (i c:Nat) (zs:List Nat),i+gg=n+m+1∧s6=.int .i64 c∧s7=.int .i64 i∧c≤1∧wr.ownsRow w.heap.size 3 1 s5 i (zam zs)∧Hid (zk8 xs ys i c zs)∧Below w.heap.size w wr)
 case atStart=>exact ⟨0,0,[],by omega,rfl,rfl,by omega,World.ownsRow_nil _ _ _ _,Lib.hid (zk8.start xs ys),Below.refl _ _⟩
 case round=>
  obtain ⟨i,c,zs,hig,rfl,rfl,hc1,hown,HA,hbel⟩:=hrel
  have hsm:=HA.out
  have hx9:=HX.out i
  have hy9:=HY.out i
  obtain ⟨x,hx⟩:∃ x,x=dig xs i:=⟨_,rfl⟩
  obtain ⟨y,hy⟩:∃ y,y=dig ys i:=⟨_,rfl⟩
  rw [← hx] at hx9
  rw [← hy] at hy9
  obtain ⟨t,ht⟩:∃ t,t=x+y+c:=⟨_,rfl⟩
  have ht1:(x:Int)+y+c=t:=by omega
  have ht2:t≤19:=by omega
  have HS:Hid (zk8 xs ys (i+1) (t / 10) (zs++[t % 10])):=Lib.hid (hsm.step HX.out HY.out (by rw [ht,hx,hy]))
  have K1:=Lib.hid hx
  have K2:=Lib.hid hy
  have U1:=Lib.hid (HU.out.below hbel)
  have V1:=Lib.hid (HV.out.below hbel)
  have hdone:(c:Int) > 0→i≤n+m:=fun hc=>by
   have:=hsm.done
   have hN:=HN.out
   omega
  clear hx hy ht hsm
  by_cases h1:(i:Int) < n
  ·go_wp2_with (first
    |(go_at_call 158;(with_reducible refine (zcz _ xs i x _ U1.out K1).mono ?_);rintro e w' ⟨rfl,rfl⟩)
    |(go_at_call 158;(with_reducible refine (zcz _ ys i y _ V1.out K2).mono ?_);rintro e w' ⟨rfl,rfl⟩)
    |(at_builtin;refine wpList_append_own _ rfl _ _ 73 rfl w.heap.size 3 i0 (.int .i64 0) 1 8 Tryz.underlying73 hi hz0 hz1 hz2 rfl (by decide) _ _ _ rfl (hown.alloc _) ⟨wr.heap.size,0,none⟩ 1 1 [.int .i64 ((t:Int) % 10)] rfl rfl ?_ ?_ ?_ ?_ ?_ ?_))
   ·intro j u hj
    match j,hj with
    | 0,hj=>simp at hj;subst hj;simp [Addr.add]
   ·intro u hu;simp at hu;subst hu;rfl
   ·unfold maxLen;omega
   ·omega
   ·have:=hbel.size;simp;omega
   ·intro v' w1 hown' hgrow _
    have hb':Below w.heap.size w w1:=(hbel.alloc hbel.size _).grown hgrow (by have:=hbel.size;simp;omega) (fun k hk=>(hown.lt k hk).1)
    have hown2:w1.ownsRow w.heap.size 3 1 v' (i+1) (zam (zs++[t % 10])):=by
     unfold zam at hown' ⊢
     simpa using hown'
    clear hown' hgrow hown
    go_wp2_with fail
    go_roundg (gk - 1)
    case measure=>omega
    case rel=>exact ⟨i+1,t / 10,zs++[t % 10],by omega,by go_num,by go_num,by omega,hown2,HS,hb'⟩
  ·by_cases h2:(i:Int) < m
   ·go_wp2_with (first
     |(go_at_call 158;(with_reducible refine (zcz _ xs i x _ U1.out K1).mono ?_);rintro e w' ⟨rfl,rfl⟩)
     |(go_at_call 158;(with_reducible refine (zcz _ ys i y _ V1.out K2).mono ?_);rintro e w' ⟨rfl,rfl⟩)
     |(at_builtin;refine wpList_append_own _ rfl _ _ 73 rfl w.heap.size 3 i0 (.int .i64 0) 1 8 Tryz.underlying73 hi hz0 hz1 hz2 rfl (by decide) _ _ _ rfl (hown.alloc _) ⟨wr.heap.size,0,none⟩ 1 1 [.int .i64 ((t:Int) % 10)] rfl rfl ?_ ?_ ?_ ?_ ?_ ?_))
    ·intro j u hj
     match j,hj with
     | 0,hj=>simp at hj;subst hj;simp [Addr.add]
    ·intro u hu;simp at hu;subst hu;rfl
    ·unfold maxLen;omega
    ·omega
    ·have:=hbel.size;simp;omega
    ·intro v' w1 hown' hgrow _
     have hb':Below w.heap.size w w1:=(hbel.alloc hbel.size _).grown hgrow (by have:=hbel.size;simp;omega) (fun k hk=>(hown.lt k hk).1)
     have hown2:w1.ownsRow w.heap.size 3 1 v' (i+1) (zam (zs++[t % 10])):=by
      unfold zam at hown' ⊢
      simpa using hown'
     clear hown' hgrow hown
     go_wp2_with fail
     go_roundg (gk - 1)
     case measure=>omega
     case rel=>exact ⟨i+1,t / 10,zs++[t % 10],by omega,by go_num,by go_num,by omega,hown2,HS,hb'⟩
   ·by_cases h3:(c:Int) > 0
    ·go_wp2_with (first
      |(go_at_call 158;(with_reducible refine (zcz _ xs i x _ U1.out K1).mono ?_);rintro e w' ⟨rfl,rfl⟩)
      |(go_at_call 158;(with_reducible refine (zcz _ ys i y _ V1.out K2).mono ?_);rintro e w' ⟨rfl,rfl⟩)
      |(at_builtin;refine wpList_append_own _ rfl _ _ 73 rfl w.heap.size 3 i0 (.int .i64 0) 1 8 Tryz.underlying73 hi hz0 hz1 hz2 rfl (by decide) _ _ _ rfl (hown.alloc _) ⟨wr.heap.size,0,none⟩ 1 1 [.int .i64 ((t:Int) % 10)] rfl rfl ?_ ?_ ?_ ?_ ?_ ?_))
     ·intro j u hj
      match j,hj with
      | 0,hj=>simp at hj;subst hj;simp [Addr.add]
     ·intro u hu;simp at hu;subst hu;rfl
     ·unfold maxLen;omega
     ·omega
     ·have:=hbel.size;simp;omega
     ·intro v' w1 hown' hgrow _
      have hb':Below w.heap.size w w1:=(hbel.alloc hbel.size _).grown hgrow (by have:=hbel.size;simp;omega) (fun k hk=>(hown.lt k hk).1)
      have hown2:w1.ownsRow w.heap.size 3 1 v' (i+1) (zam (zs++[t % 10])):=by
       unfold zam at hown' ⊢
       simpa using hown'
      clear hown' hgrow hown
      go_wp2_with fail
      go_roundg (gk - 1)
      case measure=>omega
      case rel=>exact ⟨i+1,t / 10,zs++[t % 10],by omega,by go_num,by go_num,by omega,hown2,HS,hb'⟩
    ·obtain rfl:c=0:=by omega
     have hz:=zch hown (HA.out.len.symm)
     have hval:Aside (zav zs=zav xs+zav ys):=HA.out.all (by have:=HN.out;omega) (by have:=HN.out;omega)
     have hlen:zs.length≤n+m+1:=by have:=HA.out.len;omega
     have hsmall:=HA.out.small
     clear HS K1 K2 hown
     go_wp2_with fail
     go_ret
     exact ⟨_,rfl,zs,hz,hsmall,hval,hlen,hbel⟩
theorem zx8 (f:Nat→Nat) (n:Nat):∀ m,n≤m→vT m f < 10 ^ n→vT m f=vT n f
 | 0,h,_=>by rw [Nat.le_zero.1 h]
 | m+1,h,k=>by
   by_cases e:n=m+1
   ·rw [e]
   ·have h1:10 ^ n≤10 ^ m:=Nat.pow_le_pow_right (by omega) (by omega)
    have k':vT m f+f m*10 ^ m < 10 ^ n:=k
    have h2:f m=0:=by
     rcases Nat.eq_zero_or_pos (f m) with z | z
     ·exact z
     ·have:1*10 ^ m≤f m*10 ^ m:=Nat.mul_le_mul_right _ z
      omega
    have e2:vT (m+1) f=vT m f:=by show vT m f+f m*10 ^ m=_;rw [h2];simp
    rw [e2]
    exact zx8 f n m (by omega) (by rw [e2] at k;exact k)
theorem zmy {w:World} {base:Nat} {e:TypeId} {size:Nat} {v:Value} {n:Nat} {xs:List Value} (h:w.ownsRow base e size v n xs) (k:Nat):(w.drewN k).ownsRow base e size v n xs:=h
structure zk9 (xs ys:List Nat) (i c:Nat) (zs:List Nat):Prop where
 len:zs.length=i
 small:zbp zs
 car:c≤1
 val:vT i (dig zs)+vT i (dig ys)=vT i (dig xs)+c*10 ^ i
theorem zk9.start (xs ys:List Nat):zk9 xs ys 0 0 []:=⟨rfl,fun j=>by simp [dig],by omega,rfl⟩
theorem zk9.step {xs ys zs:List Nat} {i c d c':Nat} (h:zk9 xs ys i c zs) (hd:d≤9) (hc:c'≤1) (hn:dig xs i+10*c'=dig ys i+c+d):zk9 xs ys (i+1) c' (zs++[d]):=by
 refine ⟨by simp [h.len],zkr h.small hd,hc,?_⟩
 have e:=zuh zs d
 rw [h.len] at e
 rw [e]
 show _+(vT i (dig ys)+dig ys i*10 ^ i)=(vT i (dig xs)+dig xs i*10 ^ i)+_
 have v:=h.val
 have e2:c'*10 ^ (i+1)=(10*c')*10 ^ i:=by rw [Nat.pow_succ,Nat.mul_comm (10 ^ i) 10,← Nat.mul_assoc,Nat.mul_comm c' 10]
 have e3:dig xs i*10 ^ i+(10*c')*10 ^ i=dig ys i*10 ^ i+c*10 ^ i+d*10 ^ i:=by rw [← Nat.add_mul,hn,Nat.add_mul,Nat.add_mul]
 omega
theorem zk9.all {xs ys zs:List Nat} {c:Nat} (h:zk9 xs ys xs.length c zs) (hx:zbp xs) (hy:zbp ys) (hle:zav ys≤zav xs):zav zs+zav ys=zav xs:=by
 have v:=h.val
 have lx:vT xs.length (dig xs) < 10 ^ xs.length:=zwj _ hx _
 have lz:vT xs.length (dig zs) < 10 ^ xs.length:=zwj _ h.small _
 have ez:zav zs=vT xs.length (dig zs):=by unfold zav;rw [h.len]
 have ex:zav xs=vT xs.length (dig xs):=rfl
 have ey:zav ys=vT xs.length (dig ys):=by
  have e:=zcn ys (m:=xs.length+ys.length) (by omega)
  rw [← e]
  exact zx8 _ _ _ (by omega) (by rw [e];omega)
 have hc:=h.car
 have h0:c=0:=by
  rcases Nat.eq_zero_or_pos c with z | z
  ·exact z
  ·obtain rfl:c=1:=by omega
   rw [Nat.one_mul] at v
   omega
 subst h0
 rw [ez,ex,ey]
 omega
theorem zx9 (u v:Value) (xs ys:List Nat) (w:World) (hu:Ints w u xs) (hv:Ints w v ys) (hx:zbp xs) (hy:zbp ys) (hle:zav ys≤zav xs) (lx:xs.length≤1000000000):
 Calls Tryz.prog 124 #[u,v] w fun e w'=>∃ z zs,e=.returned z∧Ints w' z zs∧zbp zs∧Aside (zav zs+zav ys=zav xs)∧zs.length=xs.length∧Below w.heap.size w w':=by
 obtain ⟨p2,cap2,ev⟩:=hv.form
 have HV:=Lib.hid hv
 have HX:=Lib.hid hx
 have HY:=Lib.hid hy
 have HL:=Lib.hid hle
 clear hv hx hy hle
 obtain ⟨m,hm⟩:∃ m,m=ys.length:=⟨_,rfl⟩
 rw [← hm] at ev
 subst ev
 clear hm
 rcases hu with ⟨rfl,rfl⟩ | ⟨b,off,cap,rfl,hc,hty⟩
 ·go_enter Tryz.func124,Tryz.ntmps124
  go_wp2_with fail
  go_loopg [5,6,7] 0 (fun gg s5 s6 s7 wr=>gg=0∧s5=.slice none 0 0∧s6=.int .i64 0∧s7=.int .i64 0∧wr=w)
  case atStart=>exact ⟨rfl,rfl,rfl,rfl,rfl⟩
  case round=>
   obtain ⟨_,rfl,rfl,rfl,rfl⟩:=hrel
   go_wp2_with fail
   go_ret
   have h0:=HL.out
   have hv0:zav ys=0:=Nat.le_zero.1 h0
   exact ⟨_,[],rfl,.inl ⟨rfl,rfl⟩,fun j=>by simp [dig],by unfold Aside;rw [hv0];rfl,rfl,Below.refl _ _⟩
 ·obtain ⟨i0,hi,hz0,hz1,hz2⟩:=info_parts zug
  have HC:=Lib.hid hc
  clear hc
  obtain ⟨n,hn⟩:∃ n,n=xs.length:=⟨_,rfl⟩
  have HN:=Lib.hid hn
  rw [← hn] at lx ⊢
  clear hn
  go_enter Tryz.func124,Tryz.ntmps124
  go_wp2_with fail
  go_loopg [5,6,7] n (fun gg s5 s6 s7 wr=>∃ (i c:Nat) (zs:List Nat),i+gg=n∧s6=.int .i64 c∧s7=.int .i64 i∧c≤1∧wr.ownsRow w.heap.size 3 1 s5 i (zam zs)∧Hid (zk9 xs ys i c zs)∧Below w.heap.size w wr)
  case atStart=>exact ⟨0,0,[],by omega,rfl,rfl,by omega,World.ownsRow_nil _ _ _ _,Lib.hid (zk9.start xs ys),Below.refl _ _⟩
  case round=>
   obtain ⟨i,c,zs,hig,rfl,rfl,hc1,hown,HA,hbel⟩:=hrel
   by_cases h1:(i:Int) < n
   ·have hx9:=HX.out i
    have hy9:=HY.out i
    have c0:=HC.out i (by have:=HN.out;omega)
    have c1:wr.cell? ⟨b,off+i,none⟩=some (.int .i64 (dig xs i)):=(hbel.cell (p:=⟨b,off+i,none⟩) (World.block_lt_of_cell? w _ c0)).trans c0
    clear c0
    obtain ⟨x,hx⟩:∃ x,x=dig xs i:=⟨_,rfl⟩
    obtain ⟨y,hy⟩:∃ y,y=dig ys i:=⟨_,rfl⟩
    rw [← hx] at hx9 c1
    rw [← hy] at hy9
    have K2:=Lib.hid hy
    have V1:Hid (∀ k,Ints (wr.drewN k) (.slice p2 m cap2) ys):=Lib.hid (fun k=>(HV.out.below hbel).below (zim (Below.refl _ _) k))
    have HS:∀ d c':Nat,d≤9→c'≤1→x+10*c'=y+c+d→zk9 xs ys (i+1) c' (zs++[d]):=fun d c' a b e=>HA.out.step a b (by rw [← hx,← hy];exact e)
    have HS:=Lib.hid HS
    clear hx hy
    go_wp2_with fail
    go_quiet ((go_at_call 158;exact Calls.quiet_of_same ((zcz _ ys i y _ (V1.out _) K2).mono fun _ _ h=>⟨h.1,h.2.symm⟩)))
    have hown:=zmy hown nq
    have hbel:=zim hbel nq
    generalize wr.drewN nq=wq at*
    clear c1 V1 K2
    by_cases hneg:(x:Int) - y - c < 0
    ·obtain ⟨d,hd⟩:∃ d:Nat,d+y+c=x+10:=⟨x+10 - y - c,by omega⟩
     have hd1:(x:Int) - y - c+10=d:=by omega
     have HD:=Lib.hid (HS.out d 1 (by omega) (by omega) (by omega))
     clear HS
     go_wp2_with (at_builtin;refine wpList_append_own _ rfl _ _ 73 rfl w.heap.size 3 i0 (.int .i64 0) 1 8 Tryz.underlying73 hi hz0 hz1 hz2 rfl (by decide) _ _ _ rfl (hown.alloc _) ⟨wq.heap.size,0,none⟩ 1 1 [.int .i64 ((d:Nat):Int)] rfl rfl ?_ ?_ ?_ ?_ ?_ ?_)
     ·intro j u hj
      match j,hj with
      | 0,hj=>simp at hj;subst hj;simp [Addr.add]
     ·intro u hu;simp at hu;subst hu;rfl
     ·unfold maxLen;omega
     ·omega
     ·have:=hbel.size;simp;omega
     ·intro v' w1 hown' hgrow _
      have hb':Below w.heap.size w w1:=(hbel.alloc hbel.size _).grown hgrow (by have:=hbel.size;simp;omega) (fun k hk=>(hown.lt k hk).1)
      have hown2:w1.ownsRow w.heap.size 3 1 v' (i+1) (zam (zs++[d])):=by
       unfold zam at hown' ⊢
       simpa using hown'
      clear hown' hgrow hown
      go_wp2_with fail
      go_roundg (gk - 1)
      case measure=>omega
      case rel=>exact ⟨i+1,1,zs++[d],by omega,rfl,by go_num,by omega,hown2,HD,hb'⟩
    ·obtain ⟨d,hd⟩:∃ d:Nat,d+y+c=x:=⟨x - y - c,by omega⟩
     have hd1:(x:Int) - y - c=d:=by omega
     have HD:=Lib.hid (HS.out d 0 (by omega) (by omega) (by omega))
     clear HS
     go_wp2_with (at_builtin;refine wpList_append_own _ rfl _ _ 73 rfl w.heap.size 3 i0 (.int .i64 0) 1 8 Tryz.underlying73 hi hz0 hz1 hz2 rfl (by decide) _ _ _ rfl (hown.alloc _) ⟨wq.heap.size,0,none⟩ 1 1 [.int .i64 ((d:Nat):Int)] rfl rfl ?_ ?_ ?_ ?_ ?_ ?_)
     ·rfl
     ·unfold maxLen;omega
     ·omega
     ·have:=hbel.size;simp;omega
     ·intro v' w1 hown' hgrow _
      have hb':Below w.heap.size w w1:=(hbel.alloc hbel.size _).grown hgrow (by have:=hbel.size;simp;omega) (fun k hk=>(hown.lt k hk).1)
      have hown2:w1.ownsRow w.heap.size 3 1 v' (i+1) (zam (zs++[d])):=by
       unfold zam at hown' ⊢
       simpa using hown'
      clear hown' hgrow hown
      go_wp2_with fail
      go_roundg (gk - 1)
      case measure=>omega
      case rel=>exact ⟨i+1,0,zs++[d],by omega,rfl,by go_num,by omega,hown2,HD,hb'⟩
   ·obtain rfl:i=n:=by omega
    have hN:=HN.out
    subst hN
    have hz:=zch hown (HA.out.len.symm)
    have hval:Aside (zav zs+zav ys=zav xs):=HA.out.all HX.out HY.out HL.out
    have hlen:=HA.out.len
    have hsmall:=HA.out.small
    clear hown HC
    go_wp2_with fail
    go_ret
    exact ⟨_,rfl,zs,hz,hsmall,hval,hlen,hbel⟩
def numR (neg:Bool) (v:Value) (sc:Nat):Value:=.agg #[.bool neg,v,.int .i64 sc]
theorem zpx (k:Nat) (ds:List Nat) (j:Nat):dig (List.replicate k 0++ds) j=if j < k then 0 else dig ds (j - k):=by
 unfold dig
 simp only [List.getD]
 by_cases h:j < k
 ·rw [if_pos h,List.getElem?_append_left (by simpa using h)]
  simp [h]
 ·rw [if_neg h,List.getElem?_append_right (by simp;omega)]
  simp
theorem zof {k:Nat} {ds:List Nat} (h:zbp ds):zbp (List.replicate k 0++ds):=fun j=>by
 rw [zpx];split
 ·omega
 ·exact h _
theorem zq7 (f g:Nat→Nat) (k:Nat) (h0:∀ j,j < k→f j=0) (h:∀ j,f (k+j)=g j):∀ n,vT (k+n) f=vT n g*10 ^ k
 | 0=>by
   show vT k f=0*_
   rw [Nat.zero_mul]
   have:∀ m,m≤k→vT m f=0:=fun m=>by
    induction m with
    | zero=>intro _;rfl
    | succ m ih=>intro hm;show vT m f+f m*10 ^ m=0;rw [ih (by omega),h0 m (by omega)];simp
   exact this k (Nat.le_refl _)
 | n+1=>by
   show vT (k+n) f+f (k+n)*10 ^ (k+n)=(vT n g+g n*10 ^ n)*10 ^ k
   rw [zq7 f g k h0 h n,h n,Nat.add_mul,Nat.pow_add,Nat.mul_comm (10 ^ k),Nat.mul_assoc]
theorem zpy (k:Nat) (ds:List Nat):(List.replicate k 0++ds).length=k+ds.length:=by simp
theorem zks (k:Nat) (ds:List Nat):zav (List.replicate k 0++ds)=zav ds*10 ^ k:=by
 unfold zav
 rw [zpy]
 exact zq7 _ _ k (fun j hj=>by rw [zpx,if_pos hj]) (fun j=>by rw [zpx,if_neg (by omega)];congr 1;omega) _
theorem zog (k:Nat):(madeCells #[Value.int .i64 0] k).toList=zam (List.replicate k 0):=by
 unfold madeCells zam
 apply List.ext_getElem
 ·simp
 ·intro i h1 h2
  simp [Nat.mod_one]
theorem zq8 (a b:List Nat):zam (a++b)=zam a++zam b:=by simp [zam]
theorem zui (neg:Bool) (v:Value) (ds:List Nat) (sc scale:Nat) (w:World) (h:Ints w v ds) (hs:sc≤scale) (l1:scale≤1000000000) (l2:ds.length≤1000000000):
 Calls Tryz.prog 121 #[numR neg v sc,.int .i64 scale] w fun e w'=>∃ z,e=.returned z∧Ints w' z (List.replicate (scale - sc) 0++ds)∧Below w.heap.size w w':=by
 unfold numR
 obtain ⟨i0,hi,hz0,hz1,hz2⟩:=info_parts zug
 obtain ⟨k,hk⟩:∃ k,scale=sc+k:=⟨scale - sc,by omega⟩
 rw [show scale - sc=k by omega]
 have hk1:(scale:Int) - sc=k:=by omega
 clear hk
 have hb0:Below w.heap.size w (w.alloc (.cells #[.bool neg,v,.int .i64 sc] 131)):=(Below.refl _ _).alloc (Nat.le_refl _) _
 rcases h with ⟨rfl,rfl⟩ | ⟨b,off,cap,rfl,hc,hty⟩
 ·go_enter Tryz.func121,Tryz.ntmps121
  go_wp2_with (refine wpList_make_full _ rfl (.tmp 9) (.tmp 9) 73 rfl w.heap.size 3 i0 (.int .i64 0) 1 Tryz.underlying73 hi hz0 hz1 .i64 .i64 _ _ k rfl rfl rfl rfl ?_ ?_ ?_ ?_)
  ·rw [hz2];omega
  ·unfold maxLen;omega
  ·simp
  intro w1 hown hgrow
  have hb1:=hb0.grown hgrow (by simp) (fun _ h=>by cases h)
  have hb':=(Below.refl (w.heap.size+1) (w.alloc (.cells #[.bool neg,.slice none 0 0,.int .i64 sc] 131))).grown hgrow (by simp) (fun _ h=>by cases h)
  have cD:w1.cell? ⟨w.heap.size,1,none⟩=some (.slice none 0 0):=(hb'.cell (p:=⟨w.heap.size,1,none⟩) (Nat.lt_succ_self _)).trans (zab (zah _ _ rfl) _ rfl)
  clear hb'
  rw [zog] at hown
  go_wp2_with (refine wpList_append_own_none rfl (.tmp 11) (.tmp 13) 73 rfl w.heap.size 3 i0 1 Tryz.underlying73 hi _ k _ rfl hown rfl ?_)
  go_ret
  exact ⟨_,rfl,by rw [List.append_nil];exact zch hown (by simp),hb1⟩
 ·have HC:=Lib.hid hc
  clear hc
  go_enter Tryz.func121,Tryz.ntmps121
  go_wp2_with (refine wpList_make_full _ rfl (.tmp 9) (.tmp 9) 73 rfl w.heap.size 3 i0 (.int .i64 0) 1 Tryz.underlying73 hi hz0 hz1 .i64 .i64 _ _ k rfl rfl rfl rfl ?_ ?_ ?_ ?_)
  ·rw [hz2];omega
  ·unfold maxLen;omega
  ·simp
  intro w1 hown hgrow
  have hb1:=hb0.grown hgrow (by simp) (fun _ h=>by cases h)
  have hb':=(Below.refl (w.heap.size+1) (w.alloc (.cells #[.bool neg,.slice (some ⟨b,off,none⟩) ds.length cap,.int .i64 sc] 131))).grown hgrow (by simp) (fun _ h=>by cases h)
  have cD:w1.cell? ⟨w.heap.size,1,none⟩=some (.slice (some ⟨b,off,none⟩) ds.length cap):=(hb'.cell (p:=⟨w.heap.size,1,none⟩) (Nat.lt_succ_self _)).trans (zab (zah _ _ rfl) _ rfl)
  clear hb'
  rw [zog] at hown
  have hnews:∀ j u,(zam ds)[j]?=some u→w1.cell? ((⟨b,off,none⟩:Addr).add j)=some u:=fun j u hj=>by
   have hl:j < ds.length:=by
    have:=(List.getElem?_eq_some_iff.1 hj).1
    rwa [zkq] at this
   have c0:=HC.out j hl
   have e:(⟨b,off,none⟩:Addr).add j=⟨b,off+j,none⟩:=by unfold Addr.add;split <;> simp_all
   rw [e,(hb1.cell (p:=⟨b,off+j,none⟩) (World.block_lt_of_cell? w _ c0)).trans c0,← hj]
   unfold zam dig
   rw [List.getElem?_map,List.getElem?_eq_getElem hl]
   simp [List.getD,hl]
  have HW:=Lib.hid hnews
  clear hnews
  go_wp2_with (at_builtin;refine wpList_append_own _ rfl (.tmp 11) (.tmp 13) 73 rfl w.heap.size 3 i0 (.int .i64 0) 1 8 Tryz.underlying73 hi hz0 hz1 hz2 rfl (by decide) _ k _ rfl hown ⟨b,off,none⟩ ds.length cap (zam ds) rfl (by simp [zam]) HW.out ?_ ?_ ?_ ?_ ?_)
  ·intro u hu
   simp [zam] at hu
   obtain ⟨x,_,rfl⟩:=hu
   rfl
  ·unfold maxLen;omega
  ·omega
  ·exact hb1.size
  ·intro v' w2 hown' hgrow' _
   have hb2:Below w.heap.size w w2:=hb1.grown hgrow' hb1.size (fun k hk=>(hown.lt k hk).1)
   rw [← zq8] at hown'
   clear hown hgrow
   go_wp2_with fail
   go_ret
   exact ⟨_,rfl,zch hown' (by simp),hb2⟩
theorem zpz (x t:List UInt8) (h:x.all za1=true):Lib.cut (x++t) [46]=(x++(Lib.cut t [46]).1,(Lib.cut t [46]).2.1,(Lib.cut t [46]).2.2):=by
 induction x with
 | nil=>rfl
 | cons c r ih=>
   rw [List.all_cons,Bool.and_eq_true] at h
   have hc:c≠46:=fun e=>by rw [e] at h;exact absurd h.1 (by decide)
   rw [List.cons_append,zms c _ hc,ih h.2]
   rfl
def okP (r:List UInt8):Bool:=digs (Lib.cut r [46]).1 && (!(Lib.cut r [46]).2.2 || digs (Lib.cut r [46]).2.1)
theorem zoh (l:List UInt8):zcg l=if okP (sgn l).2 then some ((sgn l).1,(Lib.cut (sgn l).2 [46]).1,(Lib.cut (sgn l).2 [46]).2.1) else none:=rfl
def Seen (t:List UInt8) (p:Int):Prop:=
 (p=-1∧t.all za1=true)∨∃ x y,t=x++46::y∧p=x.length∧x.all za1=true∧y.all za1=true
theorem Seen.start:Seen [] (-1):=.inl ⟨rfl,rfl⟩
theorem Seen.digit {t:List UInt8} {p:Int} {c:UInt8} (h:Seen t p) (hc:za1 c=true):Seen (t++[c]) p:=by
 rcases h with ⟨e,h⟩ | ⟨x,y,e,hp,hx,hy⟩
 ·exact .inl ⟨e,by rw [List.all_append,h];simp [hc]⟩
 ·exact .inr ⟨x,y++[c],by rw [e];simp,hp,hx,by rw [List.all_append,hy];simp [hc]⟩
theorem Seen.point {t:List UInt8} {p:Int} (h:Seen t p) (hp:p < 0):Seen (t++[46]) t.length:=by
 rcases h with ⟨_,h⟩ | ⟨x,y,_,e,_⟩
 ·exact .inr ⟨t,[],rfl,rfl,h,rfl⟩
 ·omega
theorem Seen.bound {t:List UInt8} {p:Int} (h:Seen t p):-1≤p∧p < t.length∨p=-1:=by
 rcases h with ⟨e,_⟩ | ⟨x,y,e,hp,_⟩
 ·exact .inr e
 ·left;rw [e,hp];simp;omega
theorem zuj {x:List UInt8} {c:UInt8} (hc:za1 c=false) (t:List UInt8):digs (x++c::t)=false:=by
 unfold digs
 rw [List.all_append,List.all_cons,hc]
 simp
theorem Seen.bad {t u:List UInt8} {p:Int} {c:UInt8} (h:Seen t p) (hc:za1 c=false) (hp:c≠46∨0≤p):okP (t++c::u)=false:=by
 unfold okP
 rcases h with ⟨e,h⟩ | ⟨x,y,e,hp',hx,hy⟩
 ·have hn:c≠46:=by rcases hp with k | k
                   ·exact k
                   ·omega
  rw [zpz t _ h,zms c u hn]
  simp only
  rw [zuj hc]
  rfl
 ·rw [e,show x++46::y++c::u=x++46::(y++c::u) by simp,zmt x _ hx]
  simp only
  rw [zuj hc]
  simp
theorem Seen.all {t:List UInt8} {p:Int} (h:Seen t p):okP t=decide (t.length≠0∧p≠0∧p≠(t.length:Int) - 1):=by
 unfold okP
 rcases h with ⟨e,h⟩ | ⟨x,y,e,hp',hx,hy⟩
 ·have:=zpz t [] h
  rw [List.append_nil,zts,List.append_nil] at this
  rw [this,e]
  unfold digs
  cases t with
  | nil=>rfl
  | cons c r=>simp [h]
 ·rw [e,zmt x y hx,hp']
  simp only
  unfold digs
  rw [hx,hy]
  cases x with
  | nil=>simp
  | cons c r=>
    cases y with
    | nil=>simp
    | cons d q=>simp;omega
theorem Seen.parts {t:List UInt8} {p:Int} (h:Seen t p):(t.filter (· != 46))=(Lib.cut t [46]).1++(Lib.cut t [46]).2.1∧((Lib.cut t [46]).2.1.length:Int)=if p < 0 then 0 else (t.length:Int) - 1 - p:=by
 have keep:∀ l:List UInt8,l.all za1=true→l.filter (· != 46)=l:=fun l hl=>by
  rw [List.filter_eq_self]
  intro c hc
  have:=List.all_eq_true.1 hl c hc
  simp only [bne_iff_ne,ne_eq]
  intro e;rw [e] at this;exact absurd this (by decide)
 rcases h with ⟨e,h⟩ | ⟨x,y,e,hp',hx,hy⟩
 ·have:=zpz t [] h
  rw [List.append_nil,zts,List.append_nil] at this
  rw [this,e]
  simp [keep t h]
 ·rw [e,zmt x y hx,hp']
  simp only [List.filter_append,keep x hx]
  rw [List.filter_cons_of_neg (by simp),keep y hy]
  refine ⟨rfl,?_⟩
  rw [if_neg (by omega)]
  simp;omega
def revD (l:List UInt8):List Nat:=(l.map fun c=>c.toNat - 48).reverse
theorem zkt (c:UInt8) (l:List UInt8):revD (c::l)=revD l++[c.toNat - 48]:=by simp [revD]
theorem ze3 (l:List UInt8):(revD l).length=l.length:=by simp [revD]
theorem zoi (l:List UInt8):zav (revD l)=valD l:=by
 induction l with
 | nil=>rfl
 | cons c r ih=>
   have e:=zuh (revD r) (c.toNat - 48)
   rw [zkt]
   unfold zav
   rw [show (revD r++[c.toNat - 48]).length=(revD r).length+1 by simp,e]
   show zav (revD r)+_=_
   rw [ih,ze3]
   show _=(c.toNat - 48)*10 ^ r.length+valD r
   omega
theorem zg7 (l:List UInt8) (h:l.all za1=true):zbp (revD l):=by
 induction l with
 | nil=>intro j;simp [revD,dig]
 | cons c r ih=>
   rw [List.all_cons,Bool.and_eq_true] at h
   rw [zkt]
   exact zkr (ih h.2) (by have:=(zca c).1 h.1;omega)
theorem zuk (a b:List UInt8) (hb:b.length≤54):ze8 a b=zav (revD (a++b))*10 ^ (54 - b.length):=by
 rw [zoi,zbv,Nat.add_mul]
 unfold ze8
 rw [Nat.mul_assoc,← Nat.pow_add,show b.length+(54 - b.length)=54 by omega]
theorem zh3:(Tryz.prog.info? 131).map (·.size)=some 3:=by kernel_rfl
def Rec (w:World) (g:Nat) (n:Bool) (v:Value) (sc:Int):Prop:=w.heap[g]?=some (.cells #[.bool n,v,.int .i64 sc] 131)
theorem Rec.lt {w:World} {g:Nat} {n:Bool} {v:Value} {sc:Int} (h:Rec w g n v sc):g < w.heap.size:=zac h
theorem Rec.below {w w':World} {g:Nat} {n:Bool} {v:Value} {sc:Int} (h:Rec w g n v sc) (k:Below w.heap.size w w'):Rec w' g n v sc:=(k.block g (zac h)).trans h
theorem Rec.only {w w':World} {g b:Nat} {n:Bool} {v:Value} {sc:Int} (h:Rec w g n v sc) (k:Only b w w') (e:g≠b):Rec w' g n v sc:=(k.block g (zac h) e).trans h
theorem Rec.alloc {w:World} {g:Nat} {n:Bool} {v:Value} {sc:Int} (h:Rec w g n v sc) (o:Obj):Rec (w.alloc o) g n v sc:=zaw _ h
theorem Rec.c0 {w:World} {g:Nat} {n:Bool} {v:Value} {sc:Int} (h:Rec w g n v sc):w.cell? ⟨g,0,none⟩=some (.bool n):=zab h _ rfl
theorem Rec.c1 {w:World} {g:Nat} {n:Bool} {v:Value} {sc:Int} (h:Rec w g n v sc):w.cell? ⟨g,1,none⟩=some v:=zab h _ rfl
theorem Rec.c2 {w:World} {g:Nat} {n:Bool} {v:Value} {sc:Int} (h:Rec w g n v sc):w.cell? ⟨g,2,none⟩=some (.int .i64 sc):=zab h _ rfl
theorem Rec.set0 {w:World} {g:Nat} {n:Bool} {v:Value} {sc:Int} (h:Rec w g n v sc) (m:Bool):Rec (w.setCell ⟨g,0,none⟩ (.bool m)) g m v sc:=zaz h 0 _
theorem Rec.set1 {w:World} {g:Nat} {n:Bool} {v:Value} {sc:Int} (h:Rec w g n v sc) (u:Value):Rec (w.setCell ⟨g,1,none⟩ u) g n u sc:=zaz h 1 _
theorem Rec.set2 {w:World} {g:Nat} {n:Bool} {v:Value} {sc:Int} (h:Rec w g n v sc) (z:Int):Rec (w.setCell ⟨g,2,none⟩ (.int .i64 z)) g n v z:=zaz h 2 _
theorem zbw {ops:Array Oper} {rest:List Oper} {o:Oper} {a:Act} {w:World} {Q:Exit→Act→World→Prop} {n:Bool} {v:Value} {sc:Int} (x:Operand) (g:Nat) (hg:Rec w g n v sc)
 (hgd:o.guard=none) (ho:o.op=.load 131 x) (hx:a.eval x=.pointer (some ⟨g,0,none⟩))
 (h:wpList Tryz.prog ops Q rest (a.put o.dst (.agg #[.bool n,v,.int .i64 sc])) w):wpList Tryz.prog ops Q (o::rest) a w:=
 wpList_load_row hgd 131 x ho g hx 131 _ (0,0) _ hg Tryz.underlying131 rfl (by exact zh3) h
theorem za2 {ops:Array Oper} {rest:List Oper} {o:Oper} {a:Act} {w:World} {Q:Exit→Act→World→Prop} {n m:Bool} {v u:Value} {sc sd:Int} (x y:Operand) (g:Nat) (hg:Rec w g n v sc) (h1:u.oneCell'=true)
 (hgd:o.guard=none) (ho:o.op=.store 131 x y) (hx:a.eval x=.pointer (some ⟨g,0,none⟩)) (hy:a.eval y=.agg #[.bool m,u,.int .i64 sd])
 (h:∀ w',Only g w w'→Rec w' g m u sd→wpList Tryz.prog ops Q rest (a.put o.dst undef) w'):wpList Tryz.prog ops Q (o::rest) a w:=
 wpList_plain hgd fun _ hK=>by
  unfold Oper.wp execOp
  simp only [ho,hx,hy,Instr.storeAt,Instr.sureAddr,Sem.run_bind,Sem.run_pure,Result.andThen_ok,run_storeVar_row (P:=Tryz.prog) w g 131 131 _ #[.bool m,u,.int .i64 sd] hg (by exact zh3) rfl (by simp [h1];exact ⟨rfl,rfl⟩)]
  exact hK _ _ (h _ (Only.setRow w _) (za6 hg))
theorem zc8 {fn:Func} {p q:Tmp} (h:fn.results=#[.cell p 131,.tmp q]) (tmps:Array Value) {w:World} {g:Nat} {n:Bool} {v:Value} {sc:Int} (x:Value)
 (hp:tmps.getD p undef=.pointer (some ⟨g,0,none⟩)) (hq:tmps.getD q undef=x) (hg:Rec w g n v sc):(results fn tmps).run Tryz.prog w=.ok (.tuple #[.agg #[.bool n,v,.int .i64 sc],x]) w:=by
 have hp':tmps[p]?.getD undef=.pointer (some ⟨g,0,none⟩):=by simpa using hp
 have hq':tmps[q]?.getD undef=x:=by simpa using hq
 have hl:=run_loadVar_row (P:=Tryz.prog) w g 131 131 _ (0,0) _ hg Tryz.underlying131 rfl (by exact zh3)
 simp [results,h,hp',hq',asAddr,hl]
theorem zeq {fn:Func} {p:Tmp} (h:fn.results=#[.cell p 131]) (tmps:Array Value) {w:World} {g:Nat} {n:Bool} {v:Value} {sc:Int}
 (hp:tmps.getD p undef=.pointer (some ⟨g,0,none⟩)) (hg:Rec w g n v sc):(results fn tmps).run Tryz.prog w=.ok (.agg #[.bool n,v,.int .i64 sc]) w:=
 results_cell_row h tmps w g 131 _ (0,0) _ hp hg Tryz.underlying131 rfl (by exact zh3)
end Go.Proofs.YtanbgdhmfjgihaaGreatDoor
