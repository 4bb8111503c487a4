/- Texts of one kind, one behind the other: each says ahead of itself what it shows. -/
import Derived.Test.YteclpnfckjfibaaGreatDoorBaw
import Derived.Test.YteclpnfckjfibaaGreatDoorBax
import Derived.Test.YteclpnfckjfibaaGreatDoorBav
import Derived.Test.YteclpnfckjfibaaGreatDoorBae
import Derived.Test.YteclpnfckjfibaaGreatDoorBah
import Derived.Test.YteclpnfckjfibaaGreatDoorBak
import Derived.Test.YteclpnfckjfibaaGreatDoorBai
import Derived.Test.YteclpnfckjfibaaGreatDoorBao
import Derived.Test.YteclpnfckjfibaaGreatDoorBar
/- PP -/
namespace Go.Proofs.YteclpnfckjfibaaGreatDoor
open Go.RowKit
theorem znm:mayP zec 0=true:=by decide
theorem zpt {vs:List ByteArray} (h:zcc vs=true):vs.Nodup:=by
 unfold zcc at h
 rw [decide_eq_true_eq] at h
 unfold List.Nodup at h
 rw [List.pairwise_map] at h
 exact h.imp fun q e=>q (by rw [e])
theorem zpu {vs:List ByteArray} (h:vs.Nodup):zcc vs=true:=by
 unfold zcc
 rw [decide_eq_true_eq]
 unfold List.Nodup
 rw [List.pairwise_map]
 exact h.imp fun q e=>q (zrs e)
theorem zcy {vs:List ByteArray} (h:zdl vs=true):vs.length≤64∧(∀ x∈vs,zca x=true)∧vs.Nodup:=by
 unfold zdl at h
 simp only [Bool.and_eq_true,decide_eq_true_eq,List.all_eq_true] at h
 exact ⟨h.1.1,h.1.2,zpt h.2⟩
theorem zlo {vs:List ByteArray} (h1:vs.length≤64) (h2:∀ x∈vs,zca x=true) (h3:vs.Nodup):zdl vs=true:=by
 unfold zdl
 simp only [Bool.and_eq_true,decide_eq_true_eq,List.all_eq_true]
 exact ⟨⟨h1,h2⟩,zpu h3⟩
theorem zmn {t:TabL} (hv:zdl t.vars=true) (hr:∀ r∈t.rows,r.length=t.vars.length) (hm:∀ r∈t.rows,∀ v∈r,mayP v 0=true):tabP t=true:=by
 unfold tabP
 simp only [Bool.and_eq_true,List.all_eq_true]
 refine ⟨hv,fun r h=>?_⟩
 unfold rowP
 simp only [Bool.and_eq_true,decide_eq_true_eq,List.all_eq_true]
 exact ⟨hr r h,hm r h⟩
theorem znn {ta tb:List ByteArray} {x:ByteArray}:x∈za2 ta tb↔x∈ta∨x∈tb:=by
 unfold za2
 rw [List.mem_append,List.mem_filter]
 constructor
 ·rintro (h | h)
  ·exact .inl h
  ·exact .inr h.1
 ·rintro (h | h)
  ·exact .inl h
  ·by_cases q:x∈ta
   ·exact .inl q
   ·refine .inr ⟨h,?_⟩
    rw [Bool.not_eq_true',Bool.eq_false_iff]
    exact fun e=>q ((zet _ _).1 e)
theorem zti {ta tb:List ByteArray} (ha:ta.Nodup) (hb:tb.Nodup):(za2 ta tb).Nodup:=by
 unfold za2
 rw [List.nodup_append]
 refine ⟨ha,hb.filter _,fun x hx y hy e=>?_⟩
 subst e
 have:=(List.mem_filter.1 hy).2
 rw [(zet _ _).2 hx] at this
 simp at this
theorem zwj {ta tb:List ByteArray} (ha:zdl ta=true) (hb:zdl tb=true) (hl:ta.length+tb.length≤64):zdl (za2 ta tb)=true:=by
 refine zlo (Nat.le_trans (zlk _ _) hl) (fun x hx=>?_) (zti (zcy ha).2.2 (zcy hb).2.2)
 rcases znn.1 hx with h | h
 ·exact (zcy ha).2.1 x h
 ·exact (zcy hb).2.1 x h
theorem zmo {vs:List ByteArray} (h:vs.Nodup) (i:Nat) (hi:i < vs.length):zau vs[i] vs=some i:=
 zfe hi rfl fun j hj hlt e=>by
  exact (List.pairwise_iff_getElem.1 h) j i hj hi hlt e
theorem zno {x:ByteArray} {vs:List ByteArray} (h:x∈vs):∃ k,∃ hk:k < vs.length,zau x vs=some k∧vs[k]=x:=by
 have h1:=(zet x vs).2 h
 unfold memB at h1
 obtain ⟨k,hk⟩:=Option.isSome_iff_exists.1 h1
 obtain ⟨h2,h3,_⟩:=zfz hk
 exact ⟨k,h2,hk,h3⟩
theorem zdh (r:List Val) (k:Nat):za7 r (k:Int)=atV r k:=by
 unfold za7
 rw [if_neg (by omega)]
 simp
theorem zr3 {vs:List ByteArray} (h:vs.Nodup) {r:List Val} (hr:r.length=vs.length):(zdt vs vs).map (za7 r)=r:=by
 refine List.ext_getElem (by simp [zdt,hr]) fun i h1 h2=>?_
 simp only [zdt,List.getElem_map]
 have hi:i < vs.length:=by simpa [zdt] using h1
 rw [zmo h i hi]
 show za7 r (i:Int)=_
 rw [zdh,zc7 h2]
theorem zfp {r:List Val} (h:∀ v∈r,mayP v 0=true) (c:Int):mayP (za7 r c) 0=true:=by
 unfold za7
 split
 ·exact znm
 ·by_cases q:c.toNat < r.length
  ·rw [zc7 q]
   exact h _ (List.getElem_mem q)
  ·unfold atV
   rw [List.getD_eq_getElem?_getD,List.getElem?_eq_none (by omega)]
   exact znm
theorem zyn {t:TabL} {V:List ByteArray} (h:tabP t=true) (hv:zdl V=true):tabP ⟨V,zk9 t V⟩=true:=by
 refine zmn hv (fun r hr=>?_) (fun r hr v hm=>?_)
 ·obtain ⟨q,_,rfl⟩:=List.mem_map.1 hr
  simp [zdt]
 ·obtain ⟨q,hq,rfl⟩:=List.mem_map.1 hr
  obtain ⟨c,_,rfl⟩:=List.mem_map.1 hm
  exact zfp ((zbm h).2 q hq) c
theorem zyo {a b:TabL} (ha:tabP a=true) (hb:tabP b=true):zpp a b=⟨a.vars,a.rows.filter fun r=>!zey (zat a.vars b.vars) r b.rows⟩:=by
 unfold zpp
 rw [if_pos (by rw [ha,hb];rfl)]
theorem zwk {α β:Type} (f:α→Bool) (g:α→β) (d:α) (all:List α):(l:List α)→(k:Nat)→(∀ j,j < l.length→all.getD (k+j) d=l.getD j d)→((l.zipIdx k).filter fun p=>f p.1).map (fun p=>g (all.getD p.2 d))=(l.filter f).map g
 | [],_,_=>rfl
 | x::r,k,h=>by
   have h0:all.getD k d=x:=by simpa using h 0 (by simp)
   have ih:=zwk f g d all r (k+1) (fun j hj=>by
    have:=h (j+1) (by simpa using hj)
    rw [show k+1+j=k+(j+1) by omega,this]
    simp)
   rw [List.zipIdx_cons,List.filter_cons,List.filter_cons]
   by_cases q:f x=true
   ·rw [if_pos q,if_pos q,List.map_cons,List.map_cons,ih,h0]
   ·rw [if_neg q,if_neg q,ih]
theorem zby (sh:List (Nat × Nat)) (src:List (Int × Int)) (rows:List (List Val)) (x:List Val):zcu sh src rows x=(rows.filter (fitB sh x)).map (zbo src x):=by
 unfold zcu fitN
 rw [List.map_map]
 exact zwk (fitB sh x) (zbo src x) [] rows rows 0 (fun j _=>by rw [Nat.zero_add])
theorem zr4 {α β:Type} (f g:α→List β):(l:List α)→(l.flatMap fun x=>f x++g x).Perm (l.flatMap f++l.flatMap g)
 | []=>by simp
 | x::r=>by
   simp only [List.flatMap_cons,List.append_assoc]
   refine List.Perm.append_left (f x) ?_
   refine (List.Perm.append_left (g x) (zr4 f g r)).trans ?_
   rw [← List.append_assoc,← List.append_assoc]
   exact List.Perm.append_right _ List.perm_append_comm
theorem zeg {a b:TabL} (ha:tabP a=true) (hb:tabP b=true) (hl:a.vars.length+b.vars.length≤64):
 za4 a b=⟨za2 a.vars b.vars,zap (zat a.vars b.vars) (srcP (za2 a.vars b.vars) a.vars b.vars) a.rows b.rows⟩:=by
 unfold za4
 rw [if_pos ⟨by rw [ha,hb];rfl,Nat.le_trans (zlk _ _) hl⟩]
theorem zhs {sh:List (Nat × Nat)} {src:List (Int × Int)} {la lb:List (List Val)} {r:List Val} (h:r∈zap sh src la lb):∃ x∈la,∃ y∈lb,fitB sh x y=true∧r=zbo src x y:=by
 unfold zap at h
 obtain ⟨x,hx,h⟩:=List.mem_flatMap.1 h
 rw [zby] at h
 obtain ⟨y,hy,rfl⟩:=List.mem_map.1 h
 exact ⟨x,hx,y,(List.mem_filter.1 hy).1,(List.mem_filter.1 hy).2,rfl⟩
theorem zfj (sh:List (Nat × Nat)) (src:List (Int × Int)) (lb:List (List Val)):(la:List (List Val))→(zap sh src la lb).length≤la.length*lb.length
 | []=>by simp [zap]
 | x::r=>by
   have ih:=zfj sh src lb r
   unfold zap at ih ⊢
   rw [List.flatMap_cons,List.length_append,zby,List.length_map,List.length_cons,Nat.add_mul,Nat.one_mul]
   have:=List.length_filter_le (fitB sh x) lb
   omega
theorem zq3 {src:List (Int × Int)} {x y:List Val} (hx:∀ v∈x,mayP v 0=true) (hy:∀ v∈y,mayP v 0=true):∀ v∈zbo src x y,mayP v 0=true:=by
 intro v hv
 obtain ⟨s,_,rfl⟩:=List.mem_map.1 hv
 unfold zc3
 split
 ·exact zfp hx _
 ·exact zfp hy _
theorem zik {a b:TabL} (ha:tabP a=true) (hb:tabP b=true) (hl:a.vars.length+b.vars.length≤64):tabP (za4 a b)=true:=by
 rw [zeg ha hb hl]
 refine zmn (zwj (zbl ha) (zbl hb) hl) (fun r hr=>?_) (fun r hr=>?_)
 ·obtain ⟨x,_,y,_,_,rfl⟩:=zhs hr
  simp [zbo,srcP]
 ·obtain ⟨x,hx,y,hy,_,rfl⟩:=zhs hr
  exact zq3 ((zbm ha).2 x hx) ((zbm hb).2 y hy)
theorem zmp {a b:TabL} (ha:tabP a=true) (hb:tabP b=true) (hv:a.vars=b.vars) (h:a.rows.Perm b.rows):zh9 a b=true:=by
 unfold zh9
 rw [ha,hb,decide_eq_true hv,decide_eq_true (h.map zao)]
 rfl
theorem zht {t:TabL} {V:List ByteArray} (h:tabP t=true) (hv:zdl V=true):zdx t V=⟨V,zk9 t V⟩:=by
 unfold zdx
 rw [if_pos (by rw [h,hv];rfl)]
theorem zlp {t:TabL} {V:List ByteArray} (h:tabP t=true) (hv:zdl V=true):tabP (zdx t V)=true:=by
 rw [zht h hv]
 exact zyn h hv
theorem ztj {a:TabL} (h:tabP a=true):zh9 a a=true:=zmp h h rfl (List.Perm.refl _)
end Go.Proofs.YteclpnfckjfibaaGreatDoor

/- LW -/
namespace Go.Proofs.YteclpnfckjfibaaGreatDoor
open Go.RowKit
mutual
def zq4:Val→Nat
 | .mk _ _ _ t x l=>1+t.size / 64+x.size / 64+zha l
def zha:List Val→Nat
 | []=>0
 | v::r=>zq4 v+zha r
end
mutual
theorem sz_le:(v:Val)→zq4 v≤wOne v
 | .mk k b n t x l=>by
   have h:=zr5 l
   unfold zq4 wOne
   omega
theorem zr5:(l:List Val)→zha l≤wAll l
 | []=>by unfold zha;omega
 | v::r=>by
   have h1:=sz_le v
   have h2:=zr5 r
   unfold zha wAll
   omega
end
mutual
theorem w_le:(v:Val)→wOne v≤127*zq4 v
 | .mk k b n t x l=>by
   have h:=ws_le l
   unfold zq4 wOne
   omega
theorem ws_le:(l:List Val)→wAll l≤127*zha l
 | []=>by unfold wAll;omega
 | v::r=>by
   have h1:=w_le v
   have h2:=ws_le r
   unfold zha wAll
   omega
end
mutual
theorem ztk:(v:Val)→(n:Int)→0≤n→n+wOne v≤1152921504606846976→zfy v n=n+zq4 v
 | .mk k b m t x l,n,h0,h=>by
   unfold wOne at h
   have hs:=zr5 l
   have e:=zhu l 0 (by omega) (by omega)
   unfold zfy zq4
   rw [e]
   unfold addW wrap64
   omega
theorem zhu:(l:List Val)→(n:Int)→0≤n→n+wAll l≤1152921504606846976→zbn l n=n+zha l
 | [],n,_,_=>by unfold zbn zha;omega
 | v::r,n,h0,h=>by
   unfold wAll at h
   have h1:=sz_le v
   unfold zbn zha
   rw [ztk v n h0 (by omega),zhu r _ (by omega) (by omega)]
   omega
end
def zbx:List (List Val)→Int→Int
 | [],n=>n
 | r::l,n=>zbx l (addW (addW n 1) (zbn r 0))
theorem zhb:(l:List (List Val))→(n:Int)→(j:Nat)→(h:j < l.length)→zbx (l.take (j+1)) n=addW (addW (zbx (l.take j) n) 1) (zbn (l[j]'h) 0)
 | [],_,j,h=>absurd h (by simp)
 | v::r,n,0,_=>by
   show zbx (v::r.take 0) n=addW (addW (zbx [] n) 1) (zbn v 0)
   simp [zbx]
 | v::r,n,j+1,h=>by
   show zbx (v::r.take (j+1)) n=addW (addW (zbx (v::r.take j) n) 1) (zbn (r[j]'(by simpa using h)) 0)
   unfold zbx
   exact zhb r _ j (by simpa using h)
def zlq:List (List Val)→Nat
 | []=>0
 | r::l=>1+zha r+zlq l
theorem zf4:(l:List (List Val))→(n:Int)→0≤n→(∀ r∈l,wAll r≤2097152)→n+4194304*l.length≤1152921504606846976→zbx l n=n+zlq l
 | [],n,_,_,_=>by unfold zbx zlq;omega
 | r::l,n,h0,hw,h=>by
   have h1:=hw r (by simp)
   have hs:=zr5 r
   rw [List.length_cons] at h
   unfold zbx zlq
   have e1:zbn r 0=zha r:=by rw [zhu r 0 (by omega) (by omega)];omega
   have e2:addW (addW n 1) (zbn r 0)=n+(1+zha r:Nat):=by
    rw [e1]
    unfold addW wrap64
    omega
   rw [e2,zf4 l _ (by omega) (fun q hq=>hw q (by simp [hq])) (by omega)]
   omega
theorem zmq:{l:List (List Val)}→{r:List Val}→r∈l→zha r≤zlq l
 | q::l,r,h=>by
   unfold zlq
   rcases List.mem_cons.1 h with e | h
   ·subst e;omega
   ·have:=zmq h;omega
theorem zr6 (m:Nat):(l:List Val)→(∀ v∈l,wOne v≤m)→wAll l≤l.length*m
 | [],_=>by unfold wAll;omega
 | v::r,h=>by
   have h1:=h v (by simp)
   have h2:=zr6 m r (fun u hu=>h u (by simp [hu]))
   unfold wAll
   rw [List.length_cons,Nat.add_mul,Nat.one_mul]
   omega
def zcq (l:List (List Val)):Prop:=∀ r∈l,∀ v∈r,wOne v≤381000
theorem zlr {r:List Val} (hn:r.length≤64) (h:∀ v∈r,wOne v≤381000):13*wAll r≤700000000:=by
 have h1:=zr6 381000 r h
 have h2:r.length*381000≤64*381000:=Nat.mul_le_mul_right _ hn
 omega
theorem zhv {t:TabL} (ht:tabP t=true) (h:zcq t.rows):∀ r∈t.rows,13*wAll r≤700000000:=fun r hr=>
 zlr (by rw [(zbm ht).1 r hr];exact zd9 (zbl ht)) (h r hr)
theorem zhw:wOne zec≤381000:=by
 show 1+0+0+0≤381000
 omega
theorem zfq {r:List Val} (h:∀ v∈r,wOne v≤381000) (c:Int):wOne (za7 r c)≤381000:=by
 unfold za7
 split
 ·exact zhw
 ·by_cases q:c.toNat < r.length
  ·rw [zc7 q]
   exact h _ (List.getElem_mem q)
  ·unfold atV
   rw [List.getD_eq_getElem?_getD,List.getElem?_eq_none (by omega)]
   exact zhw
theorem zr7 {r:List Val} (h:∀ v∈r,wOne v≤381000) (i:Nat):wOne (atV r i)≤381000:=by
 have:=zfq h (i:Int)
 rwa [zdh] at this
theorem ztl {t:TabL} {V:List ByteArray} (h:zcq t.rows):zcq (zk9 t V):=by
 intro r hr v hv
 obtain ⟨q,hq,rfl⟩:=List.mem_map.1 hr
 obtain ⟨c,_,rfl⟩:=List.mem_map.1 hv
 exact zfq (h q hq) c
theorem zlz {sh:List (Nat × Nat)} {src:List (Int × Int)} {la lb:List (List Val)} (h1:zcq la) (h2:zcq lb):zcq (zap sh src la lb):=by
 intro r hr v hv
 obtain ⟨x,hx,y,hy,_,rfl⟩:=zhs hr
 obtain ⟨s,_,rfl⟩:=List.mem_map.1 hv
 unfold zc3
 split
 ·exact zfq (h1 x hx) _
 ·exact zfq (h2 y hy) _
theorem zq5 {a b:TabL} (ha:tabP a=true) (hb:tabP b=true) (h1:zcq a.rows) (h2:zcq b.rows):WtOk a b:=by
 have hs:(zat a.vars b.vars).length≤64:=Nat.le_trans (zek _ _) (zd9 (zbl ha))
 constructor
 ·intro r hr
  refine zlr (by simpa [zbv] using hs) fun v hv=>?_
  obtain ⟨i,_,rfl⟩:=List.mem_map.1 hv
  exact zr7 (h1 r hr) i
 ·intro r hr
  refine zlr (by simpa [zbh] using hs) fun v hv=>?_
  obtain ⟨i,_,rfl⟩:=List.mem_map.1 hv
  exact zr7 (h2 r hr) i
theorem zr8 {l:List (List Val)} (h:zlq l≤3000):zcq l:=fun r hr v hv=>by
 have h1:=zmq hr
 have h2:=ws_le r
 have h3:=zm8 hv
 omega
end Go.Proofs.YteclpnfckjfibaaGreatDoor

/- LI -/
namespace Go.Proofs.YteclpnfckjfibaaGreatDoor
open Go.RowKit
set_option maxHeartbeats 3200000 in
set_option maxRecDepth 20000 in
theorem zmr (V:Value) (l:List (List Val)) (W:World) (h:zaf rowE W (Old W) V l) (hn:l.length≤2097152):Calls Tryz.prog 48 #[V] W fun e w'=>e=.returned (.int .i64 (zbx l 0))∧Below W.heap.size W w':=by
 obtain ⟨p,cap,rfl⟩:=h.slice
 obtain ⟨n,hl⟩:∃ n,n=l.length:=⟨_,rfl⟩
 rw [← hl]
 rw [← hl] at hn
 have HC:=Lib.hid h
 have HL:=Lib.hid hl
 clear h hl
 go_enter Tryz.func48,Tryz.ntmps48
 go_wp2_with fail
 go_loopg [3,4] n (fun gg s3 s4 wr=>∃ (j:Nat) (z:Int),j+gg=n∧s4=.int .i64 j∧s3=.int .i64 z∧Hid (z=zbx (l.take j) 0)∧Hid (Below W.heap.size W wr))
 case atStart=>exact ⟨0,0,by omega,rfl,rfl,Lib.hid (by simp [zbx]),Lib.hid (Below.refl _ _)⟩
 case round=>
  obtain ⟨j,z,hjg,rfl,rfl,HZ,HB⟩:=hrel
  by_cases hj:(j:Int) < n
  ·have hj1:j < l.length:=by have:=HL.out;omega
   obtain ⟨g,off,cap',c,e0,hg,hrl,hra⟩:=(HC.out.stays (zad HB.out)).at_ j hj1
   injection e0 with e1 e2 e3
   subst e1 e3
   obtain ⟨row,hrow⟩:∃ row,row=l[j]:=⟨_,rfl⟩
   rw [← hrow] at hrl
   obtain ⟨u,rfl,hu,hcu,hlu⟩:=hrl
   have hh:=zbe.held row (zdd row hu)
   obtain ⟨pu,ku,rfl⟩:=hu.slice
   have cj:wr.cell? ⟨g,off+j,none⟩=some (.slice pu row.length ku):=by
    have:=hra 0 _ rfl
    simpa [rowE] using this
   have HS:=Lib.hid (zo2 row pu ku wr hh hlu (zm4 row))
   have HZ2:Hid (zbx (l.take (j+1)) 0=wrap64 (wrap64 (z+1)+zbn row 0)):=Lib.hid (by
    rw [zhb l 0 j hj1,← HZ.out,← hrow]
    rfl)
   clear hra hg hu hcu hrow e2 hh HZ
   generalize zbn row 0=zr at*
   generalize row.length=lr at*
   go_wp2_with (first |(go_at_call 96;(with_reducible refine HS.out.mono ?_);rintro e w1 ⟨rfl,mm,rfl⟩))
   go_roundg (gk - 1)
   case measure=>omega
   case rel=>exact ⟨j+1,_,by omega,by go_num,rfl,Lib.hid HZ2.out.symm,Lib.hid (HB.out.trans ((zep (Below.refl _ wr) mm).mono HB.out.size))⟩
  ·have HE:Hid (zbx l 0=z):=Lib.hid (by
    have h:=HZ.out
    rw [List.take_of_length_le (by have:=HL.out;omega)] at h
    exact h.symm)
   go_wp2_with fail
   go_ret
   exact ⟨by rw [HE.out];rfl,HB.out⟩
def zhc (a b:TabL):Bool:=decide (zbx a.rows 0≤3000) && decide (zbx b.rows 0≤3000) && decide (a.rows.length≤60) && decide (b.rows.length≤60) && decide (a.vars.length≤100) && decide (b.vars.length≤100)
theorem zf5 {a b:TabL} (h:zhc a b=true) (ha:∀ r∈a.rows,wAll r≤2097152) (hb:∀ r∈b.rows,wAll r≤2097152):zcq a.rows∧zcq b.rows∧a.rows.length≤60∧b.rows.length≤60:=by
 unfold zhc at h
 simp only [Bool.and_eq_true,decide_eq_true_eq] at h
 obtain ⟨⟨⟨⟨⟨h1,h2⟩,h3⟩,h4⟩,_⟩,_⟩:=h
 have e1:=zf4 a.rows 0 (by omega) ha (by omega)
 have e2:=zf4 b.rows 0 (by omega) hb (by omega)
 exact ⟨zr8 (by omega),zr8 (by omega),h3,h4⟩
end Go.Proofs.YteclpnfckjfibaaGreatDoor

/- DX -/
namespace Go.Proofs.YteclpnfckjfibaaGreatDoor
open Go.RowKit
set_option maxHeartbeats 3200000 in
theorem zhx (V:Value) (ts:List ByteArray) (t:ByteArray) (P:Nat→Prop) (W:World) (h:zaf za0 W P V ts) (hn:ts.length≤2097152):Calls Tryz.prog 38 #[V,.string t] W fun e w'=>e=.returned (.int .i64 (za3 (zau t ts)))∧W=w':=by
 obtain ⟨p,cap,rfl⟩:=h.slice
 obtain ⟨n,hl⟩:∃ n,n=ts.length:=⟨_,rfl⟩
 obtain ⟨r,hr⟩:∃ r,r=za3 (zau t ts):=⟨_,rfl⟩
 rw [← hr,← hl]
 rw [← hl] at hn
 have HC:=Lib.hid h
 have HL:=Lib.hid hl
 have HR:=Lib.hid hr
 clear h hl hr
 go_enter Tryz.func38,Tryz.ntmps38
 go_wp2_with fail
 go_loopg [5] n (fun gg s5 wr=>∃ j:Nat,j+gg=n∧s5=.int .i64 j∧Hid (∀ i (h:i < ts.length),i < j→ts[i]≠t)∧wr=W)
 case atStart=>exact ⟨0,by omega,rfl,Lib.hid (fun i _ h=>absurd h (by omega)),rfl⟩
 case round=>
  obtain ⟨j,hjg,rfl,HA,rfl⟩:=hrel
  by_cases hj:(j:Int) < n
  ·have hj1:j < ts.length:=by have:=HL.out;omega
   obtain ⟨g,off,cap',c,e0,hg,hrl,hra⟩:=HC.out.at_ j hj1
   injection e0 with e1 e2 e3
   subst e1
   obtain ⟨y,hy⟩:∃ y,y=ts[j]:=⟨_,rfl⟩
   obtain ⟨rfl,hwf⟩:=hrl
   have cj:wr.cell? ⟨g,off+j,none⟩=some (.string y):=by
    have:=hra 0 _ rfl
    rw [hy]
    simpa [za0] using this
   have HY:=Lib.hid hy
   clear hra hy hg hwf e2 e3
   by_cases q:t=y
   ·subst q
    have HR2:Hid (r=j):=Lib.hid (by rw [HR.out,zfe hj1 HY.out.symm HA.out];rfl)
    go_wp2_with fail
    go_ret
    exact ⟨by rw [HR2.out];rfl,rfl⟩
   ·have q2:(y.toList == t.toList)=false:=zqk fun e=>q e.symm
    have HA2:Hid (∀ i (h:i < ts.length),i < j+1→ts[i]≠t):=Lib.hid fun i h1 h2=>by
     by_cases e:i=j
     ·subst e
      rw [← HY.out]
      exact fun z=>q z.symm
     ·exact HA.out i h1 (by omega)
    clear q
    go_wp2_with fail
    go_roundg (gk - 1)
    case measure=>omega
    case rel=>exact ⟨j+1,by omega,by go_num,HA2,rfl⟩
  ·have HR2:Hid (r=-1):=Lib.hid (by
    rw [HR.out,zc4.2 fun x hx=>?_]
    ·rfl
    ·obtain ⟨i,hi,rfl⟩:=List.getElem_of_mem hx
     exact HA.out i hi (by have:=HL.out;omega))
   go_wp2_with fail
   go_ret
   exact ⟨by rw [HR2.out];rfl,rfl⟩
end Go.Proofs.YteclpnfckjfibaaGreatDoor

/- UK -/
namespace Go.Proofs.YteclpnfckjfibaaGreatDoor
open Go.RowKit
def zem (ls:List ByteArray):Bool:=ls.all zca && zcc ls
theorem ztm (ls:List ByteArray) (i:Nat) (hi:i < ls.length):zem (ls.take (i+1))=(zem (ls.take i) && (zca ls[i] && !memB ls[i] (ls.take i))):=by
 unfold zem
 rw [zf0 ls i hi,List.take_succ_eq_append_getElem hi,List.all_append]
 simp only [List.all_cons,List.all_nil,Bool.and_true]
 generalize (ls.take i).all zca=a
 generalize zca ls[i]=b
 generalize zcc (ls.take i)=c
 generalize memB ls[i] (ls.take i)=d
 revert a b c d
 decide
theorem zq6 {ls:List ByteArray} {i:Nat} (hi:i < ls.length) (h:(zca ls[i] && !memB ls[i] (ls.take i))=false):zem ls=false:=by
 rw [Bool.and_eq_false_iff] at h
 unfold zem
 rw [Bool.and_eq_false_iff]
 rcases h with h | h
 ·left
  rw [List.all_eq_false]
  exact ⟨_,List.getElem_mem hi,by rw [h];simp⟩
 ·right
  exact zh1 hi (by simpa using h)
theorem zwl {t:ByteArray} {ts:List ByteArray} (h:memB t ts=true):0≤za3 (zau t ts):=by
 unfold memB at h
 obtain ⟨k,hk⟩:=Option.isSome_iff_exists.1 h
 rw [hk]
 exact Int.natCast_nonneg k
theorem zwm {t:ByteArray} {ts:List ByteArray} (h:memB t ts=false):za3 (zau t ts) < 0:=by
 unfold memB at h
 rw [Option.isSome_eq_false_iff,Option.isNone_iff_eq_none] at h
 rw [h]
 decide
set_option maxHeartbeats 6400000 in
set_option maxRecDepth 20000 in
theorem zq7 (V:Value) (ts:List ByteArray) (W:World) (h:zaf za0 W (Old W) V ts) (hcap:capK V) (hn:ts.length≤2097152):Calls Tryz.prog 17 #[V] W fun e w'=>e=.returned (.bool (zem ts))∧Below W.heap.size W w':=by
 obtain ⟨p,cap,rfl⟩:=h.slice
 have hcp:=hcap.1 p _ cap rfl
 obtain ⟨n,hl⟩:∃ n,n=ts.length:=⟨_,rfl⟩
 obtain ⟨r,hr⟩:∃ r,r=zem ts:=⟨_,rfl⟩
 rw [← hr,← hl]
 rw [← hl] at hn hcp
 have HC:=Lib.hid h
 have HL:=Lib.hid hl
 have HR:=Lib.hid hr
 clear h hl hr hcap
 go_enter Tryz.func17,Tryz.ntmps17
 go_wp2_with fail
 go_loopg [3] n (fun gg s3 wr=>∃ j:Nat,j+gg=n∧s3=.int .i64 j∧Hid (zem (ts.take j)=true)∧Hid (Below W.heap.size W wr))
 case atStart=>exact ⟨0,by omega,rfl,Lib.hid (by simp [zem,zcc]),Lib.hid (Below.refl _ _)⟩
 case round=>
  obtain ⟨j,hjg,rfl,HA,HB⟩:=hrel
  by_cases hj:(j:Int) < n
  ·have hj1:j < ts.length:=by have:=HL.out;omega
   have HCr:=HC.out.stays (zad HB.out)
   obtain ⟨g,off,cap',c,e0,hg,hrl,hra⟩:=HCr.at_ j hj1
   injection e0 with e1 e2 e3
   subst e1
   obtain ⟨t,hte⟩:∃ t,t=ts[j]:=⟨_,rfl⟩
   obtain ⟨rfl,hwf⟩:=hrl
   have cj:wr.cell? ⟨g,off+j,none⟩=some (.string t):=by
    have:=hra 0 _ rfl
    rw [hte]
    simpa [za0] using this
   have hts:t.size≤2097152:=by rw [hte];exact hwf
   have hpre:zaf za0 wr (Old wr) (.slice (some ⟨g,off,none⟩) j cap) (ts.take j):=HCr.take j (by omega)
   have hjc:j≤cap:=by omega
   have hjc2:(j:Int)≤cap:=by omega
   have HW:=Lib.hid (fun W'=>zvi t W' (Nat.le_trans hts (by decide)))
   have HI:=Lib.hid (fun W' (b:Below wr.heap.size wr W')=>zhx _ (ts.take j) t _ W' (hpre.stays (zad b)) (by rw [List.length_take];omega))
   obtain ⟨r1,hr1⟩:∃ r1,r1=zca t:=⟨_,rfl⟩
   obtain ⟨z2,hz2⟩:∃ z2,z2=za3 (zau t (ts.take j)):=⟨_,rfl⟩
   have hp1:=@zwl t (ts.take j)
   have hp2:=@zwm t (ts.take j)
   obtain ⟨r2,hr2⟩:∃ r2,r2=memB t (ts.take j):=⟨_,rfl⟩
   rw [← hr1] at HW
   rw [← hz2] at HI hp1 hp2
   rw [← hr2] at hp1 hp2
   have HZ:Hid ((r1 && !r2)=false→r=false):=Lib.hid fun h=>by
    rw [HR.out]
    refine zq6 hj1 ?_
    rw [← hte,← hr1,← hr2]
    exact h
   have HY:Hid ((r1 && !r2)=true→zem (ts.take (j+1))=true):=Lib.hid fun h=>by
    rw [ztm ts j hj1,HA.out,← hte,← hr1,← hr2,h]
    rfl
   clear hra e2 e3 hte hr1 hr2 hz2 hpre HA hg hwf HCr
   have hB:=HB.out
   have ck:=Below.refl wr.heap.size wr
   clear HB
   cases r1 with
   | false=>
     obtain rfl:r=false:=HZ.out rfl
     clear hp1 hp2
     go_upto_region 4 with fail
     refine wp_region_held_drew (S:=fun W'=>W'.cell? ⟨g,off+j,none⟩=some (.string t)) (by kernel_rfl) cj (fun _=>?_)
     replace cj:wr.drew.cell? ⟨g,off+j,none⟩=_:=cj
     replace hB:=hB.drew
     replace ck:=ck.drew
     generalize wr.drew=wD at*
     refine tg (i:=0) (.slice (some ⟨g,off,none⟩) n cap) rfl (cj) ?_
     refine tg (i:=1) (.int .i64 (j:Int)) rfl (cj) ?_
     refine tg (i:=2) (.pointer (some ⟨g,off+j,none⟩)) rfl (cj) ?_
     refine tk (i:=3) (v:=.string t) rfl (Or.inl ⟨by rfl,fun W' h=>by have c0:=h;go_simp⟩) (cj) ?_
     refine tr 4 rfl (fun K hK=>?_)
     rw [if_pos (by rfl)]
     go_simp
     refine (HW.out _).mono ?_
     rintro e0 w3 ⟨rfl,rfl⟩
     refine hK.out _ _ (cj) (fun _=>?_)
     clear hK K
     try simp only [putS]
     refine tg (i:=5) (.bool true) rfl (cj) ?_
     refine tg (i:=6) (.bool true) rfl (cj) ?_
     refine tn (i:=7) rfl (cj) ?_
     refine tn (i:=8) rfl (cj) ?_
     refine tn (i:=10) rfl (cj) ?_
     refine tn (i:=11) rfl (cj) ?_
     refine tn (i:=9) rfl (cj) ?_
     refine tn (i:=12) rfl (cj) ?_
     refine tn (i:=13) rfl (cj) ?_
     refine tn (i:=14) rfl (cj) ?_
     refine tn (i:=15) rfl (cj) ?_
     refine tg (i:=16) (.bool true) rfl (cj) ?_
     refine wpAnyH_done (by kernel_rfl) ?_ _
     go_wp2_with fail
     go_ret
     exact ⟨rfl,hB⟩
   | true=>
     cases r2 with
     | true=>
       obtain rfl:r=false:=HZ.out rfl
       have hz:0≤z2:=hp1 rfl
       clear hp1 hp2
       go_upto_region 4 with fail
       refine wp_region_held_drew (S:=fun W'=>W'.cell? ⟨g,off+j,none⟩=some (.string t)) (by kernel_rfl) cj (fun _=>?_)
       replace cj:wr.drew.cell? ⟨g,off+j,none⟩=_:=cj
       replace hB:=hB.drew
       replace ck:=ck.drew
       generalize wr.drew=wD at*
       refine tg (i:=0) (.slice (some ⟨g,off,none⟩) n cap) rfl (cj) ?_
       refine tg (i:=1) (.int .i64 (j:Int)) rfl (cj) ?_
       refine tg (i:=2) (.pointer (some ⟨g,off+j,none⟩)) rfl (cj) ?_
       refine tk (i:=3) (v:=.string t) rfl (Or.inl ⟨by rfl,fun W' h=>by have c0:=h;go_simp⟩) (cj) ?_
       refine tr 4 rfl (fun K hK=>?_)
       rw [if_pos (by rfl)]
       go_simp
       refine (HW.out _).mono ?_
       rintro e0 w3 ⟨rfl,rfl⟩
       refine hK.out _ _ (cj) (fun _=>?_)
       clear hK K
       try simp only [putS]
       refine tg (i:=5) (.bool false) rfl (cj) ?_
       refine tg (i:=6) (.bool false) rfl (cj) ?_
       refine tg (i:=7) (.slice (some ⟨g,off,none⟩) n cap) rfl (cj) ?_
       refine tg (i:=8) (.int .i64 (j:Int)) rfl (cj) ?_
       refine tg (i:=10) (.slice (some ⟨g,off,none⟩) n cap) rfl (cj) ?_
       refine tg (i:=11) (.int .i64 (j:Int)) rfl (cj) ?_
       refine tg (i:=9) (.slice (some ⟨g,off,none⟩) j cap) rfl (cj) ?_
       refine tg (i:=12) (.pointer (some ⟨g,off+j,none⟩)) rfl (cj) ?_
       refine tk (i:=13) (v:=.string t) rfl (Or.inl ⟨by rfl,fun W' h=>by have c0:=h;go_simp⟩) (cj) ?_
       refine tr 14 rfl (fun K hK=>?_)
       rw [if_pos (by rfl)]
       go_simp
       refine (HI.out _ ck).mono ?_
       rintro e0 w4 ⟨rfl,rfl⟩
       refine hK.out _ _ (cj) (fun _=>?_)
       clear hK K
       try simp only [putS]
       refine tg (i:=15) (.bool true) rfl (cj) ?_
       refine tg (i:=16) (.bool true) rfl (cj) ?_
       refine wpAnyH_done (by kernel_rfl) ?_ _
       go_wp2_with fail
       go_ret
       exact ⟨rfl,hB⟩
     | false=>
       have hz:¬ 0≤z2:=by have:=hp2 rfl;omega
       clear hp1 hp2
       go_upto_region 4 with fail
       refine wp_region_held_drew (S:=fun W'=>W'.cell? ⟨g,off+j,none⟩=some (.string t)) (by kernel_rfl) cj (fun _=>?_)
       replace cj:wr.drew.cell? ⟨g,off+j,none⟩=_:=cj
       replace hB:=hB.drew
       replace ck:=ck.drew
       generalize wr.drew=wD at*
       refine tg (i:=0) (.slice (some ⟨g,off,none⟩) n cap) rfl (cj) ?_
       refine tg (i:=1) (.int .i64 (j:Int)) rfl (cj) ?_
       refine tg (i:=2) (.pointer (some ⟨g,off+j,none⟩)) rfl (cj) ?_
       refine tk (i:=3) (v:=.string t) rfl (Or.inl ⟨by rfl,fun W' h=>by have c0:=h;go_simp⟩) (cj) ?_
       refine tr 4 rfl (fun K hK=>?_)
       rw [if_pos (by rfl)]
       go_simp
       refine (HW.out _).mono ?_
       rintro e0 w3 ⟨rfl,rfl⟩
       refine hK.out _ _ (cj) (fun _=>?_)
       clear hK K
       try simp only [putS]
       refine tg (i:=5) (.bool false) rfl (cj) ?_
       refine tg (i:=6) (.bool false) rfl (cj) ?_
       refine tg (i:=7) (.slice (some ⟨g,off,none⟩) n cap) rfl (cj) ?_
       refine tg (i:=8) (.int .i64 (j:Int)) rfl (cj) ?_
       refine tg (i:=10) (.slice (some ⟨g,off,none⟩) n cap) rfl (cj) ?_
       refine tg (i:=11) (.int .i64 (j:Int)) rfl (cj) ?_
       refine tg (i:=9) (.slice (some ⟨g,off,none⟩) j cap) rfl (cj) ?_
       refine tg (i:=12) (.pointer (some ⟨g,off+j,none⟩)) rfl (cj) ?_
       refine tk (i:=13) (v:=.string t) rfl (Or.inl ⟨by rfl,fun W' h=>by have c0:=h;go_simp⟩) (cj) ?_
       refine tr 14 rfl (fun K hK=>?_)
       rw [if_pos (by rfl)]
       go_simp
       refine (HI.out _ ck).mono ?_
       rintro e0 w4 ⟨rfl,rfl⟩
       refine hK.out _ _ (cj) (fun _=>?_)
       clear hK K
       try simp only [putS]
       refine tg (i:=15) (.bool false) rfl (cj) ?_
       refine tg (i:=16) (.bool false) rfl (cj) ?_
       refine wpAnyH_done (by kernel_rfl) ?_ _
       have HB3:=Lib.hid hB
       have HA3:=Lib.hid (HY.out rfl)
       clear hB cj ck HW HI HZ HY
       go_wp2_with fail
       go_roundg (gk - 1)
       case measure=>omega
       case rel=>exact ⟨j+1,by omega,by go_num,HA3,HB3⟩
  ·have HZ:Hid (r=true):=Lib.hid (by
    have h:=HA.out
    rw [List.take_of_length_le (by have:=HL.out;omega)] at h
    rw [HR.out,h])
   go_wp2_with fail
   go_ret
   exact ⟨by rw [HZ.out];rfl,HB.out⟩
end Go.Proofs.YteclpnfckjfibaaGreatDoor

/- MQ -/
namespace Go.Proofs.YteclpnfckjfibaaGreatDoor
open Go.RowKit
theorem tabP_is (t:TabL):tabP t=(decide (t.vars.length≤64) && zem t.vars && t.rows.all (rowP t.vars.length)):=by
 unfold tabP zdl zem
 rw [← Bool.and_assoc]
theorem ztn {n:Nat} {l:List (List Val)} {j:Nat} (hj:j < l.length) (h:rowP n l[j]=false):l.all (rowP n)=false:=by
 rw [List.all_eq_false]
 exact ⟨_,List.getElem_mem hj,by rw [h];simp⟩
theorem zwn {n:Nat} {l:List (List Val)} {j:Nat} (hj:j < l.length) (h:(l.take j).all (rowP n)=true) (h2:rowP n l[j]=true):(l.take (j+1)).all (rowP n)=true:=by
 rw [List.take_succ_eq_append_getElem hj,List.all_append,h]
 simp [h2]
theorem zto {r:List Val} {j:Nat} (hj:j < r.length) (h:(r.take j).all (mayP · 0)=true) (h2:mayP r[j] 0=true):(r.take (j+1)).all (mayP · 0)=true:=by
 rw [List.take_succ_eq_append_getElem hj,List.all_append,h]
 simp [h2]
theorem ztp {n:Nat} {r:List Val} (h:¬ r.length=n):rowP n r=false:=by
 unfold rowP
 rw [decide_eq_false h]
 rfl
theorem zq8 {n:Nat} {r:List Val} {j:Nat} (hj:j < r.length) (h:mayP r[j] 0=false):rowP n r=false:=by
 unfold rowP
 rw [Bool.and_eq_false_iff]
 right
 rw [List.all_eq_false]
 exact ⟨_,List.getElem_mem hj,by rw [h];simp⟩
theorem row_yes {n:Nat} {r:List Val} (h:r.length=n) (h2:(r.take n).all (mayP · 0)=true):rowP n r=true:=by
 unfold rowP
 rw [decide_eq_true h,← h,List.take_length] at*
 rw [h2]
 rfl
theorem refMayV (v:Val) (c:List Value) (P:Nat→Prop) (w:World) (h:zcz w P c v):Calls Tryz.prog 53 #[.agg c.toArray] w fun e w'=>e=.returned (.bool (mayP v 0))∧Below w.heap.size w w':=by
 obtain ⟨k,b,n,t,x,q⟩:=v
 obtain ⟨L,rfl,hf,hq⟩:=h
 obtain ⟨p,cap,rfl⟩:=zbt (zbe.held q hq)
 exact refMay k b n t x q p cap w hf (zbe.held q hq)
set_option maxHeartbeats 6400000 in
set_option maxRecDepth 20000 in
theorem zpv (tb:TabL) (V R:Value) (W0:World) (h:tabE.rel W0 (Old W0) [V,R] tb):Calls Tryz.prog 13 #[.agg #[V,R]] W0 fun e w'=>e=.returned (.bool (tabP tb))∧Below W0.heap.size W0 w':=by
 obtain ⟨V',R',e,hv,hr,hcv,hcr,hlv,hlr⟩:=h
 cases e
 obtain ⟨pV,kV,rfl⟩:=hv.slice
 obtain ⟨pR,kR,rfl⟩:=hr.slice
 obtain ⟨W1,hW1⟩:∃ W1,W1=W0.alloc (.cells #[.slice pV tb.vars.length kV,.slice pR tb.rows.length kR] 25):=⟨_,rfl⟩
 have bw:Below W0.heap.size W0 W1:=by rw [hW1];exact zaz _ _
 obtain ⟨g0,hg0⟩:∃ g0,g0=W0.heap.size:=⟨_,rfl⟩
 have u1:W1.heap[g0]?=some (.cells #[.slice pV tb.vars.length kV,.slice pR tb.rows.length kR] 25):=by rw [hW1,hg0];exact zah _ _ rfl
 have HU:=Lib.hid (zq7 _ tb.vars W1 (hv.stays (zad bw)) hcv hlv)
 have HR:=Lib.hid (hr.stays (zad bw))
 obtain ⟨n,hn⟩:∃ n,n=tb.vars.length:=⟨_,rfl⟩
 obtain ⟨m,hm⟩:∃ m,m=tb.rows.length:=⟨_,rfl⟩
 obtain ⟨r,hrr⟩:∃ r,r=tabP tb:=⟨_,rfl⟩
 have hP:=tabP_is tb
 rw [← hrr] at hP ⊢
 rw [← hn] at hlv u1 hW1 HU hP ⊢
 rw [← hm] at hlr u1 hW1 HR ⊢
 have HP:=Lib.hid hP
 have HM:=Lib.hid hm
 have HW:=Lib.hid hW1
 have HG0:=Lib.hid hg0
 have HBW:=Lib.hid bw
 have c0:W1.cell? ⟨g0,0,none⟩=some (.slice pV n kV):=zac u1 0 rfl
 clear hv hr hcv hcr hrr hP hm hW1 bw hn hg0
 obtain ⟨s1,hs1⟩:∃ s1,s1=zem tb.vars:=⟨_,rfl⟩
 rw [← hs1] at HU HP
 clear hs1
 by_cases hle:n≤64
 ·have h64:decide ((64:Int) < n)=false:=decide_eq_false (by omega)
  have HP2:Hid (r=(s1 && tb.rows.all (rowP n))):=Lib.hid (by rw [HP.out,decide_eq_true hle];rfl)
  clear HP
  cases s1 with
  | false=>
    obtain rfl:r=false:=by rw [HP2.out];rfl
    go_enter Tryz.func13,Tryz.ntmps13
    go_upto_region 1 with fail
    rw [← HW.out]
    rw [← HG0.out]
    go_wp2_with (first |(go_at_call 17;(with_reducible refine HU.out.mono ?_);rintro e w1 ⟨rfl,hb1⟩))
    go_ret
    exact ⟨rfl,zab HBW.out hb1 HBW.out.size⟩
  | true=>
    go_enter Tryz.func13,Tryz.ntmps13
    go_upto_region 1 with fail
    rw [← HW.out]
    rw [← HG0.out]
    go_upto_region 3 with (first |(go_at_call 17;(with_reducible refine HU.out.mono ?_);rintro e w1 ⟨rfl,hb1⟩))
    have HU1:=Lib.hid ((hb1.block _ (zaa u1)).trans u1)
    have HR1:=Lib.hid (HR.out.stays (zad hb1))
    have HB1:=Lib.hid (zab HBW.out hb1 HBW.out.size)
    clear HR HU HW u1 c0 hb1
    go_wp2_with fail
    go_loopg [3] m (fun gg s3 wr=>∃ j:Nat,j+gg=m∧s3=.int .i64 j∧Hid ((tb.rows.take j).all (rowP n)=true)∧Hid (Below w1.heap.size w1 wr))
    case atStart=>exact ⟨0,by omega,rfl,Lib.hid (by simp),Lib.hid (Below.refl _ _)⟩
    case round=>
     obtain ⟨j,hjg,rfl,HA,HB⟩:=hrel
     have HUr:=Lib.hid ((HB.out.block _ (zaa HU1.out)).trans HU1.out)
     have c0:wr.cell? ⟨g0,0,none⟩=some (.slice pV n kV):=zac HUr.out 0 rfl
     have c1:wr.cell? ⟨g0,1,none⟩=some (.slice pR m kR):=zac HUr.out 1 rfl
     by_cases hj:(j:Int) < m
     ·have hj1:j < tb.rows.length:=by have:=HM.out;omega
      obtain ⟨g,off,cap',c,e0,hg,hrl,hra⟩:=(HR1.out.stays (zad HB.out)).at_ j hj1
      injection e0 with e1 e2 e3
      subst e1 e3
      obtain ⟨row,hrow⟩:∃ row,row=tb.rows[j]:=⟨_,rfl⟩
      rw [← hrow] at hrl
      obtain ⟨u,rfl,hu,hcu,hlu⟩:=hrl
      obtain ⟨pu,ku,rfl⟩:=hu.slice
      have cj:wr.cell? ⟨g,off+j,none⟩=some (.slice pu row.length ku):=by
       have:=hra 0 _ rfl
       simpa [rowE] using this
      have HUU:=Lib.hid hu
      have HN:Hid (rowP n row=false→r=false):=Lib.hid fun h=>by
       rw [HP2.out,Bool.true_and]
       exact ztn hj1 (by rw [← hrow];exact h)
      have HY:Hid (rowP n row=true→(tb.rows.take (j+1)).all (rowP n)=true):=Lib.hid fun h=>zwn hj1 HA.out (by rw [← hrow];exact h)
      clear hra hg hu hcu hrow e2 HA
      obtain ⟨lr,hlr2⟩:∃ lr,lr=row.length:=⟨_,rfl⟩
      rw [← hlr2] at cj hlu HUU
      have HLR:=Lib.hid hlr2
      clear hlr2
      have hB:=HB.out
      clear HB
      by_cases heq:lr=n
      ·subst heq
       go_upto_region 6 with fail
       have hUr:=HUr.out
       refine wp_region_held_drew (S:=fun W'=>W'.heap[g0]?=some (.cells #[.slice pV lr kV,.slice (some ⟨g,off,none⟩) m kR] 25)∧W'.cell? ⟨g,off+j,none⟩=some (.slice pu lr ku)) (by kernel_rfl) ⟨hUr,cj⟩ (fun hh=>?_)
       replace cj:wr.drew.cell? ⟨g,off+j,none⟩=_:=cj
       have hUr:wr.drew.heap[g0]?=some (.cells #[.slice pV lr kV,.slice (some ⟨g,off,none⟩) m kR] 25)∧wr.drew.cell? ⟨g,off+j,none⟩=some (.slice pu lr ku):=hh
       clear hh
       replace hB:=hB.drew
       have bq:Below wr.heap.size wr wr.drew:=(Below.refl _ _).drew
       clear c0 c1
       generalize wr.drew=wD at*
       refine tg (i:=0) (.pointer (some ⟨g0,1,none⟩)) rfl (hUr) ?_
       refine tg (i:=2) (.int .i64 (j:Int)) rfl (hUr) ?_
       refine tg (i:=6) (.pointer (some ⟨g0,0,none⟩)) rfl (hUr) ?_
       refine tk (i:=1) (v:=.slice (some ⟨g,off,none⟩) m kR) rfl (Or.inl ⟨by rfl,fun W' h=>by have c1:=zac h.1 1 rfl;go_simp⟩) (hUr) ?_
       refine tk (i:=7) (v:=.slice pV lr kV) rfl (Or.inl ⟨by rfl,fun W' h=>by have c0:=zac h.1 0 rfl;go_simp⟩) (hUr) ?_
       refine tg (i:=3) (.pointer (some ⟨g,off+j,none⟩)) rfl (hUr) ?_
       refine tg (i:=8) (.int .i64 (lr:Int)) rfl (hUr) ?_
       refine tk (i:=4) (v:=.slice pu lr ku) rfl (Or.inl ⟨by rfl,fun W' h=>by have cj:=h.2;go_simp⟩) (hUr) ?_
       refine tg (i:=5) (.int .i64 (lr:Int)) rfl (hUr) ?_
       refine tg (i:=9) (.bool false) rfl (hUr) ?_
       refine wpAnyH_done (by kernel_rfl) ?_ _
       have HUD:=Lib.hid hUr
       have HBD:=Lib.hid hB
       have HUU2:=Lib.hid (HUU.out.stays (zad bq))
       clear cj hB bq hUr HUU HUr
       go_wp2_with fail
       go_loopg [4] lr (fun gg s4 wx=>∃ k:Nat,k+gg=lr∧s4=.int .i64 k∧Hid ((row.take k).all (mayP · 0)=true)∧Hid (Below wD.heap.size wD wx))
       case atStart=>exact ⟨0,by omega,rfl,Lib.hid (by simp),Lib.hid (Below.refl _ _)⟩
       case round=>
        obtain ⟨k,hkg,rfl,HA,HB⟩:=hrel
        have c0:wr.cell? ⟨g0,0,none⟩=some (.slice pV lr kV):=zac ((HB.out.block _ (zaa HUD.out.1)).trans HUD.out.1) 0 rfl
        have c1:wr.cell? ⟨g0,1,none⟩=some (.slice (some ⟨g,off,none⟩) m kR):=zac ((HB.out.block _ (zaa HUD.out.1)).trans HUD.out.1) 1 rfl
        have cj:wr.cell? ⟨g,off+j,none⟩=some (.slice pu lr ku):=zaw HUD.out.2 HB.out
        by_cases hk:(k:Int) < lr
        ·have hk1:k < row.length:=by have:=HLR.out;omega
         obtain ⟨g2,off2,cap2,c,e0,hg2,hrl2,hra2⟩:=(HUU2.out.stays (zad HB.out)).at_ k hk1
         injection e0 with e1 e2 e3
         subst e1 e3
         obtain ⟨v,hv⟩:∃ v,v=row[k]:=⟨_,rfl⟩
         rw [← hv] at hrl2
         have HMV:=Lib.hid (refMayV v c _ wr hrl2)
         have hrange:wr.rangeAt g2 (off2+k*6) c:=hra2
         have hc6:c.length=6:=valE.len hrl2
         obtain ⟨s,hs⟩:∃ s,s=mayP v 0:=⟨_,rfl⟩
         rw [← hs] at HMV
         have HN2:Hid (s=false→r=false):=Lib.hid fun h=>HN.out (zq8 hk1 (by rw [← hv,← hs];exact h))
         have HY2:Hid (s=true→(row.take (k+1)).all (mayP · 0)=true):=Lib.hid fun h=>zto hk1 HA.out (by rw [← hv,← hs];exact h)
         clear hra2 hg2 hrl2 e2 HA hv hs
         cases s with
         | false=>
           obtain rfl:r=false:=HN2.out rfl
           go_wp2_with (first
            |((with_reducible refine zax (.tmp 45) g2 (off2+k*6) 48 c 6 _ hrange hc6 Tryz.underlying48 rfl zai ?_ ?_ ?_ ?_);rfl;rfl;rfl)
            |(go_at_call 53;(with_reducible refine HMV.out.mono ?_);rintro e w5 ⟨rfl,hb5⟩))
           go_ret
           have b2:=HBD.out.trans (HB.out.mono HBD.out.size)
           exact ⟨rfl,HB1.out.trans ((b2.trans (hb5.mono b2.size)).mono HB1.out.size)⟩
         | true=>
           have HY3:=Lib.hid (HY2.out rfl)
           go_wp2_with (first
            |((with_reducible refine zax (.tmp 45) g2 (off2+k*6) 48 c 6 _ hrange hc6 Tryz.underlying48 rfl zai ?_ ?_ ?_ ?_);rfl;rfl;rfl)
            |(go_at_call 53;(with_reducible refine HMV.out.mono ?_);rintro e w5 ⟨rfl,hb5⟩))
           go_roundg (gk - 1)
           case measure=>omega
           case rel=>exact ⟨k+1,by omega,by go_num,HY3,Lib.hid (HB.out.trans (hb5.mono HB.out.size))⟩
        ·have HRY:=Lib.hid (HY.out (row_yes HLR.out.symm (by
          have h:=HA.out
          rw [show k=lr by omega] at h
          exact h)))
         clear HN HY
         go_wp2_with fail
         go_roundg (m - j - 1)
         case measure=>omega
         case rel=>exact ⟨j+1,by omega,by go_num,HRY,Lib.hid (HBD.out.trans (HB.out.mono HBD.out.size))⟩
      ·obtain rfl:r=false:=HN.out (ztp (by rw [← HLR.out];exact heq))
       have hne:((lr:Int) == n)=false:=by rw [beq_eq_false_iff_ne];omega
       have hne2:((lr:Int) != n)=true:=congrArg not hne
       go_upto_region 6 with fail
       have hUr:=HUr.out
       refine wp_region_held_drew (S:=fun W'=>W'.heap[g0]?=some (.cells #[.slice pV n kV,.slice (some ⟨g,off,none⟩) m kR] 25)∧W'.cell? ⟨g,off+j,none⟩=some (.slice pu lr ku)) (by kernel_rfl) ⟨hUr,cj⟩ (fun hh=>?_)
       replace cj:wr.drew.cell? ⟨g,off+j,none⟩=_:=cj
       have hUr:wr.drew.heap[g0]?=some (.cells #[.slice pV n kV,.slice (some ⟨g,off,none⟩) m kR] 25)∧wr.drew.cell? ⟨g,off+j,none⟩=some (.slice pu lr ku):=hh
       clear hh
       replace hB:=hB.drew
       have bq:Below wr.heap.size wr wr.drew:=(Below.refl _ _).drew
       clear c0 c1
       generalize wr.drew=wD at*
       refine tg (i:=0) (.pointer (some ⟨g0,1,none⟩)) rfl (hUr) ?_
       refine tg (i:=2) (.int .i64 (j:Int)) rfl (hUr) ?_
       refine tg (i:=6) (.pointer (some ⟨g0,0,none⟩)) rfl (hUr) ?_
       refine tk (i:=1) (v:=.slice (some ⟨g,off,none⟩) m kR) rfl (Or.inl ⟨by rfl,fun W' h=>by have c1:=zac h.1 1 rfl;go_simp⟩) (hUr) ?_
       refine tk (i:=7) (v:=.slice pV n kV) rfl (Or.inl ⟨by rfl,fun W' h=>by have c0:=zac h.1 0 rfl;go_simp⟩) (hUr) ?_
       refine tg (i:=3) (.pointer (some ⟨g,off+j,none⟩)) rfl (hUr) ?_
       refine tg (i:=8) (.int .i64 (n:Int)) rfl (hUr) ?_
       refine tk (i:=4) (v:=.slice pu lr ku) rfl (Or.inl ⟨by rfl,fun W' h=>by have cj:=h.2;go_simp⟩) (hUr) ?_
       refine tg (i:=5) (.int .i64 (lr:Int)) rfl (hUr) ?_
       refine tg (i:=9) (.bool true) rfl (hUr) ?_
       refine wpAnyH_done (by kernel_rfl) ?_ _
       go_wp2_with fail
       go_ret
       exact ⟨rfl,HB1.out.trans (hB.mono HB1.out.size)⟩
     ·have HZ:Hid (r=true):=Lib.hid (by
       have h:=HA.out
       rw [List.take_of_length_le (by have:=HM.out;omega)] at h
       rw [HP2.out,h]
       rfl)
      go_wp2_with fail
      go_ret
      exact ⟨by rw [HZ.out];rfl,HB1.out.trans (HB.out.mono HB1.out.size)⟩
 ·have h64:decide ((64:Int) < n)=true:=decide_eq_true (by omega)
  obtain rfl:r=false:=by rw [HP.out,decide_eq_false hle];rfl
  go_enter Tryz.func13,Tryz.ntmps13
  go_upto_region 1 with fail
  rw [← HW.out]
  rw [← HG0.out]
  go_wp2_with fail
  go_ret
  exact ⟨rfl,HBW.out⟩
end Go.Proofs.YteclpnfckjfibaaGreatDoor
