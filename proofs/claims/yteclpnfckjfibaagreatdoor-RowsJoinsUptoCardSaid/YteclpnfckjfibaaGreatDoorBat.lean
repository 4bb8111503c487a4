/- Texts of one kind, one behind the other: each says ahead of itself what it shows. -/
import Derived.Test.YteclpnfckjfibaaGreatDoorBas
import Derived.Test.YteclpnfckjfibaaGreatDoorBao
import Derived.RangeFuncNested
import Derived.RangeFuncBound
import Derived.RangeFuncCalls
import Derived.RangeFuncLeaves
import Derived.Shelf.Abstract
import Derived.Shelf.RegionOpen
import Derived.WalkKit
import Derived.OwnWalkIn
import Derived.TacticsInMore
import Derived.LoopNIn
import Derived.LoopIn
import Derived.Maps.OwnIn
import Derived.Sort.CutIn
/- YB -/
namespace Go.Proofs.YteclpnfckjfibaaGreatDoor
mutual
def zlg:Val→Prop
 | .mk _ _ n t x l=>Fine n t x l.length∧zc5 l
def zc5:List Val→Prop
 | []=>True
 | v::r=>zlg v∧zc5 r
end
mutual
theorem zba.fine {w:World} {g off:Nat}:(v:Val)→zba w g off v→zlg v
 | .mk k b n t x l,h=>by
   unfold zba at h
   obtain ⟨_,_,_,_,_,hf,L,_,hl⟩:=h
   unfold zlg
   exact ⟨hf,Held.fine l hl⟩
theorem Held.fine {w:World} {L:Value}:(l:List Val)→Held w L l→zc5 l
 | [],_=>by unfold zc5;trivial
 | v::r,h=>by
   unfold Held at h
   obtain ⟨g,off,cap,e,hv,hr⟩:=h
   unfold zc5
   exact ⟨zba.fine v hv,zb2.fine r hr⟩
theorem zb2.fine {w:World} {g off:Nat}:(l:List Val)→zb2 w g off l→zc5 l
 | [],_=>by unfold zc5;trivial
 | v::r,h=>by
   unfold zb2 at h
   unfold zc5
   exact ⟨zba.fine v h.1,zb2.fine r h.2⟩
end
theorem znf (n:Int) (h1:-9223372036854775808≤n) (h2:n≤9223372036854775807):ztd (numW (beB n 8))=n:=by
 have h:=zne n 8
 rw [show (256:Int) ^ 8=18446744073709551616 from rfl] at h
 generalize numW (beB n 8)=m at h ⊢
 unfold ztd
 split <;> omega
theorem zg5 {a b:List UInt8} {k:Nat} (h:a.length=k):(a++b).take k=a:=by subst h;exact List.take_left
theorem zg6 {a b:List UInt8} {k:Nat} (h:a.length=k):(a++b).drop k=b:=by subst h;exact List.drop_left
theorem zho (t:ByteArray) (r:List UInt8) (ht:t.size≤1048576):rdT (lenB t++r)=some (t,r):=by
 unfold rdT lenB
 have e1:(beB t.size 4++txtB t++r).take 4=beB t.size 4:=by rw [List.append_assoc];exact zg5 (zbd _ _)
 have e2:(beB t.size 4++txtB t++r).drop 4=txtB t++r:=by rw [List.append_assoc];exact zg6 (zbd _ _)
 have e3:numW (beB t.size 4)=t.size:=by
  have h:=zne t.size 4
  rw [show (256:Int) ^ 4=4294967296 from rfl] at h
  omega
 rw [e1,e2,e3,if_pos ⟨by rw [List.length_append,List.length_append,zbd];omega,ht,by rw [List.length_append,zd6];omega⟩,zg5 (zd6 t),zg6 (zd6 t)]
 rfl
theorem e0 {t:ByteArray} (h:t.size=0):t=E0:=by
 have:t.data=#[]:=Array.size_eq_zero_iff.1 h
 cases t
 simp only at this
 subst this
 rfl
theorem zcf {b:Bool} {n:Int} {t x:ByteArray} {len:Nat} (h:zb7 b n t x len=true):b=false∧n=0∧t.size=0∧x.size=0∧len=0:=by
 unfold zb7 at h
 simp only [Bool.and_eq_true,decide_eq_true_eq,Bool.not_eq_true'] at h
 obtain ⟨⟨⟨⟨h1,h2⟩,h3⟩,h4⟩,h5⟩:=h
 exact ⟨h1,h2,h3,h4,h5⟩
theorem zlh (k:Int) (h0:0≤k) (h1:k≤10):(zb4 k 0).toNat=k.toNat:=by
 have h:=zfm k 0
 rw [show (2:Int) ^ (8*0)=1 from rfl,Int.ediv_one] at h
 omega
theorem zfh {l:List Val} (h:l.length=0):l=[]:=List.length_eq_zero_iff.1 h
theorem zyc {t:ByteArray} (h:chk t.data.toList=true):t.size≤1048576:=by
 have:=chk_len h
 rw [Array.length_toList] at this
 have e:t.data.size=t.size:=rfl
 omega
theorem zpj {t:ByteArray} (h:zco t=true):t.size≤1048576:=by
 unfold zco at h
 exact (of_decide_eq_true h).2.1
theorem zv7 {t:ByteArray} (h:zca t=true):t.size≤1048576:=by
 unfold zca at h
 have:=(of_decide_eq_true h).2.1
 omega
def zv8 (v:Val):Prop:=∀ (d:Nat) (r:List UInt8),d≤60→zlg v→mayP v d=true→rdV (60 - d) (encP v++r)=some (v,r)
theorem zfo (d:Nat) (hd:d≤60):(q:List Val)→(∀ v∈q,zv8 v)→zc5 q→zd2 q d=true→∀ r,rdL (rdV (60 - d)) q.length (zao q++r)=some (q,r)
 | [],_,_,_,r=>by simp [rdL,zao]
 | v::q,hA,hf,hm,r=>by
   unfold zc5 at hf
   unfold zd2 at hm
   rw [Bool.and_eq_true] at hm
   have h1:=hA v (by simp) d (zao q++r) hd hf.1 hm.1
   have h2:=zfo d hd q (fun u hu=>hA u (List.mem_cons_of_mem _ hu)) hf.2 hm.2 r
   rw [List.length_cons]
   unfold rdL zao
   rw [List.append_assoc,h1]
   simp only
   rw [h2]
theorem zyd (f:Nat) (c:UInt8) (r:List UInt8):rdV f (c::r)=rdK (if f=0 then none else some (rdV (f - 1))) c.toNat r:=by
 cases f with
 | zero=>rfl
 | succ f=>rfl
theorem zv9 (v:Val) (k:Int) (b:Bool) (n:Int) (t x:ByteArray) (q:List Val) (ev:v=.mk k b n t x q) (each:∀ u∈q,zv8 u):zv8 v:=by
 subst ev
 intro d r hd hf hm
 unfold zlg at hf
 obtain ⟨hf,hfa⟩:=hf
 unfold mayP zcb at hm
 unfold encP
 rw [List.cons_append,zyd]
 split at hm
 ·rename_i hk
  subst hk
  obtain ⟨rfl,rfl,ht,hx,hq⟩:=zcf hm
  rw [e0 ht,e0 hx,zfh hq,zlh 0 (by decide) (by decide)]
  rfl
 split at hm
 ·rename_i _ hk
  subst hk
  obtain ⟨_,rfl,ht,hx,hq⟩:=zcf hm
  rw [e0 ht,e0 hx,zfh hq,zlh 1 (by decide) (by decide)]
  cases b <;> rfl
 split at hm
 ·rename_i _ _ hk
  subst hk
  obtain ⟨rfl,_,ht,hx,hq⟩:=zcf hm
  rw [e0 ht,e0 hx,zfh hq,zlh 2 (by decide) (by decide)]
  have h8:(beB n 8++r).take 8=beB n 8:=zg5 (zbd _ _)
  have h9:(beB n 8++r).drop 8=r:=zg6 (zbd _ _)
  show (if 8≤(beB n 8++r).length then some (Val.mk 2 false (ztd (numW ((beB n 8++r).take 8))) E0 E0 [],(beB n 8++r).drop 8) else none)=_
  rw [if_pos (by rw [List.length_append,zbd];omega),h8,h9,znf n hf.lo hf.hi]
 split at hm
 ·rename_i _ _ _ hk
  subst hk
  rw [Bool.and_eq_true] at hm
  obtain ⟨hc,hm⟩:=hm
  obtain ⟨rfl,rfl,_,hx,hq⟩:=zcf hm
  rw [e0 hx,zfh hq,zlh 3 (by decide) (by decide)]
  show (match rdT (lenB t++r) with | none=>none | some (t,r')=>some (Val.mk 3 false 0 t E0 [],r'))=_
  rw [zho t r (zyc hc)]
 split at hm
 ·rename_i _ _ _ _ hk
  subst hk
  rw [Bool.and_eq_true] at hm
  obtain ⟨hc,hm⟩:=hm
  obtain ⟨rfl,rfl,_,hx,hq⟩:=zcf hm
  rw [e0 hx,zfh hq,zlh 4 (by decide) (by decide)]
  show (match rdT (lenB t++r) with | none=>none | some (t,r')=>some (Val.mk 4 false 0 t E0 [],r'))=_
  rw [zho t r (of_decide_eq_true hc)]
 split at hm
 ·rename_i _ _ _ _ _ hk
  subst hk
  rw [Bool.and_eq_true,Bool.and_eq_true,Bool.and_eq_true] at hm
  obtain ⟨⟨⟨hl,hdd⟩,he⟩,hm⟩:=hm
  obtain ⟨rfl,rfl,ht,hx,_⟩:=zcf hm
  have hl:=of_decide_eq_true hl
  have hdd:=of_decide_eq_true hdd
  rw [e0 ht,e0 hx,zlh 5 (by decide) (by decide),if_neg (show ¬60 - d=0 by omega)]
  have h4:(beB q.length 4++zao q++r).take 4=beB q.length 4:=by rw [List.append_assoc];exact zg5 (zbd _ _)
  have h5:(beB q.length 4++zao q++r).drop 4=zao q++r:=by rw [List.append_assoc];exact zg6 (zbd _ _)
  have h6:numW (beB q.length 4)=q.length:=by
   have h:=zne q.length 4
   rw [show (256:Int) ^ 4=4294967296 from rfl] at h
   omega
  have h7:=zfo (d+1) hdd q each hfa he r
  rw [show 60 - (d+1)=60 - d - 1 by omega] at h7
  show (if 4≤(beB q.length 4++zao q++r).length∧numW ((beB q.length 4++zao q++r).take 4)≤4096 then (match rdL (rdV (60 - d - 1)) (numW ((beB q.length 4++zao q++r).take 4)) ((beB q.length 4++zao q++r).drop 4) with | none=>none | some (q,r')=>some (Val.mk 5 false 0 E0 E0 q,r')) else none)=_
  rw [h4,h5,h6,if_pos ⟨by rw [List.length_append,List.length_append,zbd];omega,hl⟩,h7]
 split at hm
 ·rename_i _ _ _ _ _ _ hk
  rw [Bool.and_eq_true] at hm
  obtain ⟨_,hm⟩:=hm
  obtain ⟨rfl,_,ht,hx,hq⟩:=zcf hm
  have h8:(beB n 8++r).take 8=beB n 8:=zg5 (zbd _ _)
  have h9:(beB n 8++r).drop 8=r:=zg6 (zbd _ _)
  rcases hk with hk | hk
  ·subst hk
   rw [e0 ht,e0 hx,zfh hq,zlh 6 (by decide) (by decide)]
   show (if 8≤(beB n 8++r).length then some (Val.mk 6 false (ztd (numW ((beB n 8++r).take 8))) E0 E0 [],(beB n 8++r).drop 8) else none)=_
   rw [if_pos (by rw [List.length_append,zbd];omega),h8,h9,znf n hf.lo hf.hi]
  ·subst hk
   rw [e0 ht,e0 hx,zfh hq,zlh 7 (by decide) (by decide)]
   show (if 8≤(beB n 8++r).length then some (Val.mk 7 false (ztd (numW ((beB n 8++r).take 8))) E0 E0 [],(beB n 8++r).drop 8) else none)=_
   rw [if_pos (by rw [List.length_append,zbd];omega),h8,h9,znf n hf.lo hf.hi]
 split at hm
 ·rename_i _ _ _ _ _ _ _ hk
  subst hk
  rw [Bool.and_eq_true] at hm
  obtain ⟨hc,hm⟩:=hm
  obtain ⟨rfl,rfl,_,hx,hq⟩:=zcf hm
  rw [e0 hx,zfh hq,zlh 8 (by decide) (by decide)]
  show (match rdT (lenB t++r) with | none=>none | some (t,r')=>some (Val.mk 8 false 0 t E0 [],r'))=_
  rw [zho t r (zpj hc)]
 split at hm
 ·rename_i _ _ _ _ _ _ _ _ hk
  subst hk
  rw [Bool.and_eq_true] at hm
  obtain ⟨hc,hm⟩:=hm
  obtain ⟨rfl,rfl,_,hx,hq⟩:=zcf hm
  rw [e0 hx,zfh hq,zlh 9 (by decide) (by decide)]
  show (match rdT (lenB t++r) with | none=>none | some (t,r')=>some (Val.mk 9 false 0 t E0 [],r'))=_
  rw [zho t r (zv7 hc)]
 split at hm
 ·rename_i _ _ _ _ _ _ _ _ _ hk
  subst hk
  rw [Bool.and_eq_true,Bool.and_eq_true] at hm
  obtain ⟨ht,hc,hm⟩:=hm
  obtain ⟨rfl,rfl,_,_,hq⟩:=zcf hm
  rw [zfh hq,zlh 10 (by decide) (by decide)]
  show (match rdT (lenB t++lenB x++r) with | none=>none | some (t,r')=>(match rdT r' with | none=>none | some (x,r'')=>some (Val.mk 10 false 0 t x [],r'')))=_
  rw [List.append_assoc,zho t _ (of_decide_eq_true ht)]
  simp only
  rw [zho x r (zpj hc)]
 ·cases hm
mutual
theorem zye:(v:Val)→zv8 v
 | .mk k b n t x q=>zv9 _ k b n t x q rfl (zg7 q)
theorem zg7:(q:List Val)→∀ u∈q,zv8 u
 | [],_,h=>absurd h (by simp)
 | v::r,u,h=>by
   rcases List.mem_cons.1 h with h | h
   ·rw [h];exact zye v
   ·exact zg7 r u h
end
mutual
theorem zqy:(v u:Val)→zc1 v u=true→v=u
 | .mk k b n t x l,.mk k2 b2 n2 t2 x2 l2,h=>by
   unfold zc1 at h
   simp only [Bool.and_eq_true,beq_iff_eq] at h
   obtain ⟨rfl,rfl,rfl,ht,hx,hl,he⟩:=h
   rw [zpi,zpi] at ht hx
   have e1:t=t2:=by cases t;cases t2;simp only at ht;rw [Array.toList_inj.1 ht]
   have e2:x=x2:=by cases x;cases x2;simp only at hx;rw [Array.toList_inj.1 hx]
   rw [e1,e2,zli l l2 hl he]
theorem zli:(l l2:List Val)→l.length=l2.length→zbz l l2=true→l=l2
 | [],[],_,_=>rfl
 | [],_::_,h,_=>absurd h (by simp)
 | _::_,[],h,_=>absurd h (by simp)
 | v::r,u::s,h,he=>by
   unfold zbz at he
   rw [Bool.and_eq_true] at he
   rw [zqy v u he.1,zli r s (by simpa using h) he.2]
end
end Go.Proofs.YteclpnfckjfibaaGreatDoor

/- NP -/
namespace Go.Proofs.YteclpnfckjfibaaGreatDoor
open Go.RowKit
theorem zte (q s:List Val) (hl:q.length=s.length) (f1:zc5 q) (f2:zc5 s) (m1:zd2 q 0=true) (m2:zd2 s 0=true) (h:zao q=zao s):q=s:=by
 have h1:=zfo 0 (by omega) q (zg7 q) f1 m1 []
 have h2:=zfo 0 (by omega) s (zg7 s) f2 m2 []
 rw [h,hl,h2] at h1
 simpa using h1.symm
theorem zng:(l:List Val)→(∀ v∈l,mayP v 0=true)→zd2 l 0=true
 | [],_=>by unfold zd2;rfl
 | v::r,h=>by
   unfold zd2
   rw [h v (by simp),zng r fun u hu=>h u (by simp [hu])]
   rfl
theorem zhp:(l:List Val)→(∀ v∈l,zlg v)→zc5 l
 | [],_=>by unfold zc5;trivial
 | v::r,h=>by
   unfold zc5
   exact ⟨h v (by simp),zhp r fun u hu=>h u (by simp [hu])⟩
theorem zhq {sh:List (Nat × Nat)} {r:List Val} {v:Val} (hin:∀ p∈sh,p.1 < r.length) (h:v∈zbv sh r):v∈r:=by
 unfold zbv at h
 rw [List.map_map] at h
 obtain ⟨p,hp,rfl⟩:=List.mem_map.1 h
 show atV r p.1∈r
 rw [zc7 (hin p hp)]
 exact List.getElem_mem _
theorem zpk:(sh:List (Nat × Nat))→(a b:List Val)→(zbv sh a).all isB=true→(zbh sh b).all isB=true→(fitB sh a b=true↔zbv sh a=zbh sh b)
 | [],a,b,_,_=>by simp [fitB,zbv,zbh]
 | p::sh,a,b,ha,hb=>by
   have ha':isB (atV a p.1)=true∧(zbv sh a).all isB=true:=by simpa [zbv] using ha
   have hb':isB (atV b p.2)=true∧(zbh sh b).all isB=true:=by simpa [zbh] using hb
   have ih:=zpk sh a b ha'.2 hb'.2
   have e1:zbv (p::sh) a=atV a p.1::zbv sh a:=rfl
   have e2:zbh (p::sh) b=atV b p.2::zbh sh b:=rfl
   have e3:fitB (p::sh) a b=(fit1 a b p && fitB sh a b):=rfl
   have e4:fit1 a b p=zc1 (atV a p.1) (atV b p.2):=by simp [fit1,ha'.1,hb'.1]
   have e5:zc1 (atV a p.1) (atV b p.2)=true↔atV a p.1=atV b p.2:=⟨zqy _ _,fun h=>by rw [h];exact zcx _⟩
   rw [e1,e2,e3,e4,Bool.and_eq_true,e5,ih,List.cons.injEq]
def fitN (sh:List (Nat × Nat)) (r:List Val) (rows:List (List Val)):List Nat:=(rows.zipIdx.filter fun p=>fitB sh r p.1).map (·.2)
theorem leI_nat (l:List (List Val × Nat)) (h:l.Pairwise (fun p q=>p.2≤q.2)):(l.map fun p=>(p.2:Int)).Pairwise (fun x y=>leI x y=true):=by
 rw [List.pairwise_map]
 exact h.imp fun h=>by simpa [leI] using h
theorem zyf (rows:List (List Val)) (k:Nat):(rows.zipIdx k).Pairwise (fun p q=>p.2≤q.2):=by
 induction rows generalizing k with
 | nil=>exact List.Pairwise.nil
 | cons a l ih=>
   rw [List.zipIdx_cons]
   refine List.Pairwise.cons (fun p hp=>?_) (ih (k+1))
   have:=(List.mem_zipIdx hp).1
   show k≤p.2
   omega
theorem zwa (sh:List (Nat × Nat)) (rows:List (List Val)) (r:List Val) (hin:∀ x∈rows,∀ p∈sh,p.1 < r.length∧p.2 < x.length) (hA:(zbv sh r).all isB=true)
 (fr:∀ v∈r,zlg v) (fx:∀ x∈rows,∀ v∈x,zlg v) (mr:∀ v∈r,mayP v 0=true) (mx:∀ x∈rows,∀ v∈x,mayP v 0=true) (hsh:∀ p∈sh,p.1 < r.length):
 zv1 sh rows r (zao (zbv sh r))=(fitN sh r rows).map fun i:Nat=>(i:Int):=by
 have key:∀ p∈rows.zipIdx,(zbh sh p.1).all isB=true→(decide (zao (zbh sh p.1)=zao (zbv sh r))=fitB sh r p.1):=fun p hp hb=>by
  have hpr:p.1∈rows:=by
   have:=List.mem_zipIdx' hp
   rw [this.2]
   exact List.getElem_mem _
  have h:=zpk sh r p.1 hA hb
  have ge:zao (zbh sh p.1)=zao (zbv sh r)↔zbv sh r=zbh sh p.1:=⟨fun e=>(zte _ _ (by simp [zbv,zbh]) (zhp _ fun v hv=>fx _ hpr v (zhn (fun p hp=>(hin _ hpr p hp).2) hv)) (zhp _ fun v hv=>fr v (zhq hsh hv)) (zng _ fun v hv=>mx _ hpr v (zhn (fun p hp=>(hin _ hpr p hp).2) hv)) (zng _ fun v hv=>mr v (zhq hsh hv)) e).symm,fun e=>by rw [e]⟩
  rw [Bool.eq_iff_iff,decide_eq_true_iff,ge,h]
 have e1:grp (evI sh rows) (zao (zbv sh r))=((rows.zipIdx.filter fun p=>(zbh sh p.1).all isB && fitB sh r p.1).map fun p=>(p.2:Int)):=by
  unfold grp evI
  have hl:∀ l:List (List Val × Nat),(∀ p∈l,p∈rows.zipIdx)→(((l.filterMap fun p=>if (zbh sh p.1).all isB then some (zao (zbh sh p.1),(p.2:Int)) else none).filter fun e=>decide (e.1=zao (zbv sh r))).map (·.2))=((l.filter fun p=>(zbh sh p.1).all isB && fitB sh r p.1).map fun p=>(p.2:Int)):=by
   intro l
   induction l with
   | nil=>intro _;rfl
   | cons p l ih=>
     intro hm
     have ih:=ih fun q hq=>hm q (by simp [hq])
     have hk:=key p (hm p (by simp))
     rw [List.filterMap_cons,List.filter_cons]
     cases hb:(zbh sh p.1).all isB with
     | false=>
       simp only [Bool.false_eq_true,if_false,Bool.false_and]
       exact ih
     | true=>
       simp only [if_true,Bool.true_and]
       rw [List.filter_cons,hk hb]
       cases fitB sh r p.1 with
       | false=>simp only [Bool.false_eq_true,if_false];exact ih
       | true=>simp only [if_true,List.map_cons];rw [ih]
  exact hl _ fun _ h=>h
 have e2:(zbi sh rows).filter (fun z=>fitB sh r (zfv rows z))=((rows.zipIdx.filter fun p=>!(zbh sh p.1).all isB && fitB sh r p.1).map fun p=>(p.2:Int)):=by
  unfold zbi
  have hl:∀ l:List (List Val × Nat),(∀ p∈l,p∈rows.zipIdx)→((l.filterMap fun p=>if (zbh sh p.1).all isB then none else some (p.2:Int)).filter fun z=>fitB sh r (zfv rows z))=((l.filter fun p=>!(zbh sh p.1).all isB && fitB sh r p.1).map fun p=>(p.2:Int)):=by
   intro l
   induction l with
   | nil=>intro _;rfl
   | cons p l ih=>
     intro hm
     have ih:=ih fun q hq=>hm q (by simp [hq])
     have hro:zfv rows (p.2:Int)=p.1:=by
      have:=List.mem_zipIdx' (hm p (by simp))
      unfold zfv
      rw [Int.toNat_natCast,this.2]
      simp [this.1]
     rw [List.filterMap_cons,List.filter_cons]
     cases hb:(zbh sh p.1).all isB with
     | true=>
       simp only [if_true,Bool.not_true,Bool.false_and,Bool.false_eq_true,if_false]
       exact ih
     | false=>
       simp only [Bool.false_eq_true,if_false,Bool.not_false,Bool.true_and]
       rw [List.filter_cons,hro]
       cases fitB sh r p.1 with
       | false=>simp only [Bool.false_eq_true,if_false];exact ih
       | true=>simp only [if_true,List.map_cons];rw [ih]
  exact hl _ fun _ h=>h
 unfold zv1 fitN
 rw [e1,e2,List.map_map]
 show _=(rows.zipIdx.filter fun p=>fitB sh r p.1).map fun p=>(p.2:Int)
 have f1:(rows.zipIdx.filter fun p=>(zbh sh p.1).all isB && fitB sh r p.1)=(rows.zipIdx.filter fun p=>fitB sh r p.1).filter fun p=>(zbh sh p.1).all isB:=by rw [List.filter_filter]
 have f2:(rows.zipIdx.filter fun p=>!(zbh sh p.1).all isB && fitB sh r p.1)=(rows.zipIdx.filter fun p=>fitB sh r p.1).filter fun p=>!(zbh sh p.1).all isB:=by rw [List.filter_filter]
 have hs:(rows.zipIdx.filter fun p=>fitB sh r p.1).Pairwise (fun p q=>p.2≤q.2):=(zyf rows 0).sublist List.filter_sublist
 rw [f1,f2]
 generalize (rows.zipIdx.filter fun p=>fitB sh r p.1)=F at*
 have hperm:(F.filter (fun p=>(zbh sh p.1).all isB)++F.filter (fun p=>!(zbh sh p.1).all isB)).Perm F:=List.filter_append_perm _ F
 split
 ·rename_i h0
  have h0':F.filter (fun p=>!(zbh sh p.1).all isB)=[]:=List.map_eq_nil_iff.1 h0
  have:F.filter (fun p=>(zbh sh p.1).all isB)=F:=by
   rw [List.filter_eq_self]
   intro p hp
   have:=List.filter_eq_nil_iff.1 h0' p hp
   simpa using this
  rw [this]
 ·refine List.Perm.eq_of_pairwise (le:=fun x y=>leI x y=true) (fun a b _ _ h1 h2=>leI_an a b h1 h2) (List.pairwise_mergeSort leI_tr leI_to _) (leI_nat F hs) ((List.mergeSort_perm _ leI).trans ?_)
  rw [← List.map_append]
  exact hperm.map _
end Go.Proofs.YteclpnfckjfibaaGreatDoor

/- IT -/
namespace Go.Proofs
open Go.Shelf
namespace YteclpnfckjfibaaGreatDoor
open Go.RowKit
attribute [local go_sem] Oper.semAt_some
theorem ze3:∀ f,Fence.wide.fn f:=fun _=>trivial
section
variable {F:Fence} {n:Nat} {ops:Array Oper} {rest:List Oper} {o:Oper} {a:Act} {w:World} {Q:Exit→Act→World→Prop}
theorem zfi (hF:∀ f,F.fn f) (v:Value) (w':World) (hw:Region.wanted o (yielded ops a.tmps)=true) (hd:∀ c,o.op≠.defer c) (hr:(execOp a.eval o).run Tryz.prog w=.ok (.value v) w')
 (h:wpListIn F n Tryz.prog ops Q rest (a.put o.dst v) w'):wpListIn F n Tryz.prog ops Q (o::rest) a w:=
 wpListIn_step fun K hK=>by
  rw [if_pos hw]
  exact ⟨fun f _=>hF f,by rw [Oper.semAt_plain F _ _ hd,hr];exact hK _ _ h⟩
theorem znh (hF:∀ f,F.fn f) (x:Operand) (g off:Nat) (A B:Value) (hr:w.rangeAt g off [A,B])
 (hw:Region.wanted o (yielded ops a.tmps)=true) (ho:o.op=.load 87 x) (hx:a.eval x=.pointer (some ⟨g,off,none⟩))
 (h:wpListIn F n Tryz.prog ops Q rest (a.put o.dst (.agg #[A,B])) w):wpListIn F n Tryz.prog ops Q (o::rest) a w:=
 zfi hF _ _ hw (by rw [ho];intro c hc;cases hc) (by
  unfold execOp
  simp only [ho,hx,Instr.loadAt,Instr.sureAddr,Sem.run_bind,Sem.run_pure,Result.andThen_ok,run_loadVar_mid (P:=Tryz.prog) w g off 87 _ _ hr Tryz.underlying87 rfl zh3]) h
theorem zqz (hF:∀ f,F.fn f) (x:Operand) (g:Nat) (A B R M L:Value) (hg:w.heap[g]?=some (.cells #[A,B,R,M,L] 90))
 (hw:Region.wanted o (yielded ops a.tmps)=true) (ho:o.op=.load 90 x) (hx:a.eval x=.pointer (some ⟨g,0,none⟩))
 (h:wpListIn F n Tryz.prog ops Q rest (a.put o.dst (.agg #[A,B,R,M,L])) w):wpListIn F n Tryz.prog ops Q (o::rest) a w:=
 zfi hF _ _ hw (by rw [ho];intro c hc;cases hc) (by
  unfold execOp
  simp only [ho,hx,Instr.loadAt,Instr.sureAddr,Sem.run_bind,Sem.run_pure,Result.andThen_ok,run_loadVar_row (P:=Tryz.prog) w g 90 90 _ (0,0) _ hg Tryz.underlying90 rfl zfg]) h
end
theorem zpl {α:Type} {J:List α→World→Prop} {B:Nat} (hJ:AbidesFrom B J) {pre:List α} {A C:World} (h:J pre A) (b:Below A.heap.size A C):J pre C:=
 hJ pre A C none h ⟨b.os,b.tape,b.output,b.size,fun k hk _=>b.block k hk⟩ (fun r e=>by cases e)
def KpO (N:Nat) (Ow:World→Nat→Prop) (A B:World):Prop:=
 A.heap.size≤B.heap.size∧(∀ k o,A.heap[k]?=some o→¬ Ow A k→(k < N∨o.isCells=true)→B.heap[k]?=some o)∧∀ k,k < A.heap.size→Ow B k→Ow A k
def OwN (N:Nat) (Ow:World→Nat→Prop):Prop:=∀ (A B:World) (k:Nat),Below N A B→Ow B k→Ow A k
section
variable {N:Nat} {Ow:World→Nat→Prop}
theorem zq0 {A B C:World} (h:KpO N Ow A B) (k:KpO N Ow B C):KpO N Ow A C:=
 ⟨Nat.le_trans h.1 k.1,fun i o e q c=>k.2.1 i o (h.2.1 i o e q c) (fun x=>q (h.2.2 i (Array.getElem?_eq_some_iff.1 e).1 x)) c,fun i hi x=>h.2.2 i hi (k.2.2 i (Nat.lt_of_lt_of_le hi h.1) x)⟩
theorem kpO_b {w:World} (hN:N≤w.heap.size) (ho:OwN N Ow) (W:World) (l:Nat) (o o':Obj) (hl:w.heap.size≤l) (h:W.heap[l]?=some o) (hc:o.isCells=false) (_:o.isWalk=false):KpO N Ow W (W.putObj l o'):=
 have hb:Below N W (W.putObj l o'):=(Below.refl N W).grown (grownBy_putObj' W l o') (by have:=(Array.getElem?_eq_some_iff.1 h).1;omega) (fun k e=>by cases e;omega)
 ⟨hb.size,fun k p e _ c=>by
  have hk:k≠l:=by
   intro q
   subst q
   rw [h] at e
   cases e
   rcases c with c | c
   ·omega
   ·rw [hc] at c;cases c
  exact (World.putObj_heap_other hk).trans e,fun k _ x=>ho _ _ _ hb x⟩
theorem KpO.of_below {A B:World} (b:Below A.heap.size A B) (hN:N≤A.heap.size) (ho:OwN N Ow):KpO N Ow A B:=
 ⟨b.size,fun k o e _ _=>(b.block k (Array.getElem?_eq_some_iff.1 e).1).trans e,fun k _ x=>ho _ _ _ (b.mono hN) x⟩
theorem KpO.refl (A:World):KpO N Ow A A:=⟨Nat.le_refl _,fun _ _ e _ _=>e,fun _ _ x=>x⟩
theorem KpO.cells {A B:World} (h:KpO N Ow A B) {k:Nat} {c:Array Value} {t:TypeId} (e:A.heap[k]?=some (.cells c t)) (q:¬ Ow A k):B.heap[k]?=some (.cells c t):=h.2.1 k _ e q (.inr rfl)
theorem KpO.cell {A B:World} (h:KpO N Ow A B) {k o:Nat} {v:Value} (e:A.cell? ⟨k,o,none⟩=some v) (q:¬ Ow A k):B.cell? ⟨k,o,none⟩=some v:=by
 have hb:=World.block_lt_of_cell? A (a:=⟨k,o,none⟩) e
 cases hh:A.heap[k]? with
 | none=>rw [Array.getElem?_eq_none_iff] at hh;exact absurd hb (by simpa using hh)
 | some ob=>
   refine (World.cell?_of_block (w:=A) (a:=⟨k,o,none⟩) ?_).trans e
   show B.heap[k]?=A.heap[k]?
   rw [hh]
   refine h.2.1 k ob hh q (.inr ?_)
   cases ob with
   | cells c t=>rfl
   | _=>simp [World.cell?,hh] at e
end
abbrev RowN (rows:List (List Val)):={ i:Nat // i < rows.length }
structure CSet (w:World) (N:Nat) (Ow:World→Nat→Prop) (P:Nat→Prop) (sh:List (Nat × Nat)) (rows:List (List Val)) (A B R u:Value) (r:List Val) (us:Nat→Value):Prop where
 ow:OwN N Ow
 hN:N≤w.heap.size
 hP:∀ k,P k→k < N∧¬ Ow w k
 sh:ShIn w P sh A B
 rw_:zaf rowE w P R rows
 u:zaf valE w P u r
 us:∀ i (h:i < rows.length),∃ g off cap,R=.slice (some ⟨g,off,none⟩) rows.length cap∧P g∧w.cell? ⟨g,off+i,none⟩=some (us i)∧zaf valE w P (us i) rows[i]∧rows[i].length≤2097152
theorem CSet.stay {w W:World} {N:Nat} {Ow:World→Nat→Prop} {P:Nat→Prop} {sh:List (Nat × Nat)} {rows:List (List Val)} {A B R u:Value} {r:List Val} {us:Nat→Value} (c:CSet w N Ow P sh rows A B R u r us) (h:KpO N Ow w W):zeb P P w W:=fun k hk=>by
 have hl:k < w.heap.size:=Nat.lt_of_lt_of_le (c.hP k hk).1 c.hN
 refine ⟨hk,?_⟩
 rw [Array.getElem?_eq_getElem hl]
 exact h.2.1 k _ (Array.getElem?_eq_getElem hl) (c.hP k hk).2 (.inl (c.hP k hk).1)
theorem CSet.move {w W:World} {N:Nat} {Ow:World→Nat→Prop} {P:Nat→Prop} {sh:List (Nat × Nat)} {rows:List (List Val)} {A B R u:Value} {r:List Val} {us:Nat→Value} (c:CSet w N Ow P sh rows A B R u r us) (h:KpO N Ow w W):CSet W N Ow P sh rows A B R u r us:=
 have s:=c.stay h
 ⟨c.ow,Nat.le_trans c.hN h.1,fun k hk=>⟨(c.hP k hk).1,fun x=>(c.hP k hk).2 (h.2.2 k (Nat.lt_of_lt_of_le (c.hP k hk).1 c.hN) x)⟩,c.sh.stays s,c.rw_.stays s,c.u.stays s,fun i hi=>by
  obtain ⟨g,off,cap,e,hg,hc,hs,hl⟩:=c.us i hi
  exact ⟨g,off,cap,e,hg,s.cell hg _ hc,hs.stays s,hl⟩⟩
theorem CSet.old {w:World} {N:Nat} {Ow:World→Nat→Prop} {P:Nat→Prop} {sh:List (Nat × Nat)} {rows:List (List Val)} {A B R u:Value} {r:List Val} {us:Nat→Value} (c:CSet w N Ow P sh rows A B R u r us):zeb P (Old w) w w:=fun k hk=>⟨Nat.lt_of_lt_of_le (c.hP k hk).1 c.hN,rfl⟩
section
variable {sh:List (Nat × Nat)} {rows:List (List Val)} {r:List Val}
def fitU (sh:List (Nat × Nat)) (r:List Val) (rows:List (List Val)) (k:Nat):List Nat:=((rows.zipIdx.take k).filter fun p=>fitB sh r p.1).map (·.2)
theorem zpm {k:Nat} (h:k < rows.length):fitU sh r rows (k+1)=fitU sh r rows k++(if fitB sh r rows[k]=true then [k] else []):=by
 unfold fitU
 have hz:k < rows.zipIdx.length:=by simpa using h
 rw [List.take_succ_eq_append_getElem hz,List.filter_append,List.map_append,List.getElem_zipIdx]
 rw [List.filter_cons]
 simp only [List.filter_nil,Nat.zero_add]
 cases fitB sh r rows[k] <;> rfl
theorem zni {k:Nat} (h:k < rows.length) (hj:fitB sh r rows[k]=true):fitU sh r rows (k+1)=fitU sh r rows k++[k]:=by rw [zpm h,if_pos hj]
theorem zwb {k:Nat} (h:k < rows.length) (hj:fitB sh r rows[k]=false):fitU sh r rows (k+1)=fitU sh r rows k:=by rw [zpm h,if_neg (by rw [hj];decide),List.append_nil]
theorem zyg {k:Nat} (h:rows.length≤k):fitU sh r rows k=fitN sh r rows:=by
 unfold fitU fitN
 rw [List.take_of_length_le (by simpa using h)]
theorem zry (k:Nat):fitU sh r rows k <+: fitN sh r rows:=((List.take_prefix k _).filter _).map _
theorem fitU_lt {k:Nat} (h:k < rows.length) (hj:fitB sh r rows[k]=true):(fitU sh r rows k).length < (fitN sh r rows).length:=by
 have h1:=(zry (sh:=sh) (r:=r) (rows:=rows) (k+1)).length_le
 rw [zni h hj] at h1
 simp at h1
 omega
theorem fitN_lt:∀ i∈fitN sh r rows,i < rows.length:=fun i hi=>by
 unfold fitN at hi
 obtain ⟨p,hp,rfl⟩:=List.mem_map.1 hi
 exact (List.mem_zipIdx' (List.mem_filter.1 hp).1).1
theorem zrz:(fitN sh r rows).length≤rows.length:=by
 unfold fitN
 rw [List.length_map]
 refine Nat.le_trans (List.length_filter_le _ _) ?_
 rw [List.length_zipIdx]
 exact Nat.le_refl _
end
def zzu {rows:List (List Val)} (N:Nat) (Ow:World→Nat→Prop) (J Jx:List (RowN rows)→World→Prop) (pre:List (RowN rows)) (x:RowN rows) (W1:World) (e:Ending) (W':World):Prop:=
 (e=.returned (.bool true)∧J (pre++[x]) W'∧KpO N Ow W1 W')∨(e=.returned (.bool false)∧Jx (pre++[x]) W')
def zyh {rows:List (List Val)} (sh:List (Nat × Nat)) (r:List Val) (J Jx:List (RowN rows)→World→Prop) (e:Ending) (W':World):Prop:=
 (∃ v,e=.returned v)∧((∃ xs:List (RowN rows),xs.map Subtype.val=fitN sh r rows∧J xs W')∨∃ pre:List (RowN rows),pre.map Subtype.val <+: fitN sh r rows∧Jx pre W')
def zyi {rows:List (List Val)} (N:Nat) (Ow:World→Nat→Prop) (J:List (RowN rows)→World→Prop) (W1:World) (L:List Nat) (wr:World):Prop:=KpO N Ow W1 wr∧∃ L':List (RowN rows),L'.map Subtype.val=L∧J L' wr
set_option maxHeartbeats 6400000 in
set_option maxRecDepth 20000 in
theorem lookAt (sh:List (Nat × Nat)) (rows:List (List Val)) (A B R L u:Value) (mb:Nat) (r:List Val) (us:Nat→Value) (W:World) (N:Nat) (Ow:World→Nat→Prop) (P:Nat→Prop) (c:CSet W N Ow P sh rows A B R u r us) (oN:∀ k,Ow W k→k < W.heap.size)
 (hin:∀ x∈rows,∀ p∈sh,p.1 < r.length∧p.2 < x.length) (hsn:sh.length≤2097152) (hrn:r.length≤2097152) (hn:rows.length≤2097152) (l:Nat) (J Jx:List (RowN rows)→World→Prop) (hJ:AbidesFrom W.heap.size J) (hJ0:J [] W)
 (hY:∀ m pre (x:RowN rows) W1,J pre W1→pre.length < (fitN sh r rows).length→YieldAt Fence.wide m Tryz.prog l #[us x.1] W1 (zzu N Ow J Jx pre x W1)):
 CallsIn Fence.wide 3 Tryz.prog 128 #[.agg #[A,B,R,.map (some mb),L],u,.func (.yield l) #[] #[]] W (zyh sh r J Jx):=by
 obtain ⟨pA,kA,pB,kB,rfl,rfl⟩:=c.sh.slice
 obtain ⟨pR,kR,rfl⟩:=c.rw_.slice
 obtain ⟨pu,ku,rfl⟩:=c.u.slice
 obtain ⟨W1,hW1⟩:∃ W1,W1=W.alloc (.cells #[.slice pA sh.length kA,.slice pB sh.length kB,.slice pR rows.length kR,.map (some mb),L] 90):=⟨_,rfl⟩
 have b1:Below W.heap.size W W1:=by rw [hW1];exact zaz _ _
 have u1:W1.heap[W.heap.size]?=some (.cells #[.slice pA sh.length kA,.slice pB sh.length kB,.slice pR rows.length kR,.map (some mb),L] 90):=by rw [hW1];exact zah _ _ rfl
 have k1:KpO N Ow W W1:=KpO.of_below b1 c.hN c.ow
 have q1:¬ Ow W1 W.heap.size:=fun x=>absurd (oN _ (c.ow _ _ _ (b1.mono c.hN) x)) (by omega)
 have inv0:Hid (zyi N Ow J W1 (fitU sh r rows 0) W1):=Lib.hid ⟨KpO.refl _,[],rfl,zpl hJ hJ0 b1⟩
 have HC:=Lib.hid (c.move k1)
 have HW:=Lib.hid hW1
 have HU:=Lib.hid (And.intro u1 q1)
 have HJ:=Lib.hid hJ
 have HY:=Lib.hid hY
 have HIN:=Lib.hid hin
 have c2:=zac u1 2 rfl
 clear hW1 b1 u1 k1 q1 hJ hJ0 hY hin c oN
 obtain ⟨nn,hnn⟩:∃ nn,nn=rows.length:=⟨_,rfl⟩
 have HN:=Lib.hid hnn
 clear hnn
 refine callsIn_of_wp Tryz.func128 rfl trivial ?_ rfl
 simp only [Tryz.ntmps128,List.size_toArray,List.length_cons,List.length_nil,Nat.reduceAdd,Nat.reduceSub,Array.replicate_succ,Array.replicate_zero,List.push_toArray,List.append_toArray,List.nil_append,List.cons_append]
 gi_upto_region 1 with fail
 rw [← HW.out,← HN.out]
 rw [← HN.out] at c2
 gi_wp2_with fail
 clear c2
 gi_loopw [11] (fun i wr=>∃ k:Nat,k≤nn∧i=.int .i64 k∧Hid (zyi N Ow J W1 (fitU sh r rows k) wr)) (fun i _=>nn - (intOf i).toNat)
 case atStart=>exact ⟨0,Nat.zero_le _,rfl,inv0⟩
 case round=>
  clear inv0
  obtain ⟨k,hk,rfl,HV⟩:=hrel
  by_cases hlt:(k:Int) < nn
  ·have hk1:k < rows.length:=by have:=HN.out;omega
   have hkp:=HV.out.1
   have cw:=HC.out.move hkp
   obtain ⟨gR,oR,cap,eR,hgR,hcell,hsu,hxl⟩:=cw.us k hk1
   injection eR with eR1 eR2 eR3
   subst eR1
   obtain ⟨pv,rl,kv,huk⟩:∃ pv rl kv,us k=.slice pv rl kv:=by
    obtain ⟨a,b,c⟩:=hsu.slice
    exact ⟨a,_,b,c⟩
   have HUK:=Lib.hid huk
   rw [huk] at hcell hsu
   have u1:=hkp.cells HU.out.1 HU.out.2
   have r01:wr.rangeAt W.heap.size 0 [.slice pA sh.length kA,.slice pB sh.length kB]:=zb5 u1 0 _ (fun j v hv=>by
    match j,hv with
    | 0,e | 1,e=>simpa using e
    | j+2,e=>simp at e)
   obtain ⟨q,hq⟩:∃ q,q=fitB sh r (rows[k]'hk1):=⟨_,rfl⟩
   have HF:Hid (Calls Tryz.prog 86 #[.agg #[.slice pA sh.length kA,.slice pB sh.length kB],.slice pu r.length ku,.slice pv rl kv] wr fun e w'=>e=.returned (.bool q)∧Below wr.heap.size wr w'):=Lib.hid (by rw [hq];exact fitAt sh _ _ _ _ r rows[k] wr (cw.sh.stays cw.old) (cw.u.stays cw.old) (hsu.stays cw.old) (fun p hp=>HIN.out _ (List.getElem_mem hk1) p hp) hsn hrn hxl)
   have HK1:=Lib.hid hk1
   have HCW:=Lib.hid cw
   clear hsu cw hkp u1 hgR hxl huk eR2 eR3
   have HJJ:=Lib.hid hq
   clear hq
   cases q with
   | false=>
     have hj:=HJJ.out.symm
     clear HJJ
     have HJJ:=Lib.hid hj
     clear hj
     gi_wp2_with (first
      |((with_reducible refine znh ze3 (.tmp 15) W.heap.size 0 _ _ r01 ?_ ?_ ?_ ?_);rfl;rfl;rfl)
      |(refine ⟨trivial,?_⟩;gi_at_call 86;(with_reducible refine (callsIn_wide.2 HF.out).mono ?_);rintro e w6 ⟨rfl,hb6⟩))
     have HV6:Hid (zyi N Ow J W1 (fitU sh r rows (k+1)) w6):=Lib.hid (by
      rw [zwb HK1.out HJJ.out]
      obtain ⟨hk0,L',hL',hJ'⟩:=HV.out
      exact ⟨zq0 hk0 (KpO.of_below hb6 HCW.out.hN HCW.out.ow),L',hL',zpl HJ.out hJ' hb6⟩)
     clear hb6 r01 hcell
     refine ⟨fun f h=>(by cases h),?_⟩
     gi_wp2
     go_roundw
     case rel=>exact ⟨k+1,by omega,by go_num,HV6⟩
     case measure=>simp [intOf];omega
   | true=>
     have hj:=HJJ.out.symm
     clear HJJ
     have HJJ:=Lib.hid hj
     clear hj
     have HLEN:=Lib.hid (fitU_lt HK1.out HJJ.out)
     gi_wp2_with (first
      |((with_reducible refine znh ze3 (.tmp 15) W.heap.size 0 _ _ r01 ?_ ?_ ?_ ?_);rfl;rfl;rfl)
      |(refine ⟨trivial,?_⟩;gi_at_call 86;refine Hid.out ?_))
     refine Lib.hid ?_
     refine (callsIn_wide.2 HF.out).mono ?_
     rintro e w6 ⟨rfl,hb6⟩
     obtain ⟨hk0,L',hL',hJ'⟩:=HV.out
     obtain ⟨fn,tmps,assign,body,hy,hR⟩:=HY.out 2 L' ⟨k,HK1.out⟩ _ (zpl HJ.out hJ' hb6) (by have:=HLEN.out;rw [← hL',List.length_map] at this;exact this)
     try dsimp only at hy
     rw [HUK.out] at hy
     have HR:=Lib.hid hR
     have HK6:=Lib.hid (zq0 hk0 (KpO.of_below hb6 HCW.out.hN HCW.out.ow))
     have HL':=Lib.hid hL'
     clear hb6 hR hL' hJ' hk0 r01 hcell
     gi_wp2_with fail
     refine HR.out.mono ?_
     rintro e W3 (⟨rfl,hJ3,hk3⟩ | ⟨rfl,hJx3⟩)
     ·have HV6:Hid (zyi N Ow J W1 (fitU sh r rows (k+1)) W3):=Lib.hid (by
       rw [zni HK1.out HJJ.out]
       exact ⟨zq0 HK6.out hk3,_,by rw [List.map_append,HL'.out];rfl,hJ3⟩)
      clear hJ3 hk3 hy
      gi_wp2
      go_roundw
      case rel=>exact ⟨k+1,by omega,by go_num,HV6⟩
      case measure=>simp [intOf];omega
     ·have HJ3:=Lib.hid hJx3
      have HPR:Hid ((L'++[(⟨k,HK1.out⟩:RowN rows)]).map Subtype.val <+: fitN sh r rows):=Lib.hid (by
       have:=zry (sh:=sh) (r:=r) (rows:=rows) (k+1)
       rw [zni HK1.out HJJ.out] at this
       rw [List.map_append,HL'.out]
       exact this)
      clear hJx3 hy
      gi_wp2
      refine bodyPost_ret (results_none rfl _ _ _) rfl ?_
      exact ⟨⟨_,rfl⟩,.inr ⟨_,HPR.out,HJ3.out⟩⟩
  ·have hfin:∃ L':List (RowN rows),L'.map Subtype.val=fitN sh r rows∧J L' wr:=by
    rw [← zyg (k:=k) (by have:=HN.out;omega)]
    exact HV.out.2
   have HF:=Lib.hid hfin
   clear hfin HV
   gi_wp2
   go_end0
   exact ⟨⟨_,rfl⟩,.inl HF.out⟩
end YteclpnfckjfibaaGreatDoor
end Go.Proofs
