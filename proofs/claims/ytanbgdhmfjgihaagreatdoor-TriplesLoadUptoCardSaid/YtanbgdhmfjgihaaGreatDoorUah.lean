/- Texts of one kind, one behind the other: each says ahead of itself what it shows. -/
import Derived.Test.YtanbgdhmfjgihaaGreatDoorUag
import Derived.Deep.LoopGhost
import Derived.WalkMore
import Derived.Lib.ItoaMem
import Derived.Test.YtanbgdhmfjgihaaGreatDoorUaf
import Derived.Deep.RegionHeld3
import Derived.StillTailTactics
namespace Go.Proofs.YtanbgdhmfjgihaaGreatDoor
open Go.RowKit
set_option maxHeartbeats 12800000
set_option maxRecDepth 20000
theorem Lies.drewN {w:World} {g:Nat} {c:Array Value} {n:Bool} {f:Nat→Nat} (h:Lies w g c n f) (k:Nat):Lies (w.drewN k) g c n f:=h
def Tab (w:World):Prop:=Lib.TabIs Tryz.prog w "internal/strconv.uint64pow10" .u64 Lib.pow10Tab
theorem zvq {P:Program} {w w':World} {name:String} {cs:Array Value} (h:w.var? P name=some cs) (k:Below w.heap.size w w'):w'.var? P name=some cs:=by
 unfold World.var? at*
 cases hg:P.globalNamed name with
 | none=>rw [hg] at h;cases h
 | some g=>
   rw [hg] at h
   simp only [Option.bind_some] at h ⊢
   have hlt:g < w.heap.size:=by
    by_cases e:g < w.heap.size
    ·exact e
    ·rw [Array.getElem?_eq_none (by omega)] at h;cases h
   rw [k.block g hlt];exact h
theorem Tab.below {w w':World} (h:Tab w) (k:Below w.heap.size w w'):Tab w':=by
 exact zvq h k
theorem ofIntAt (n:Int) (h0:-9223372036854775808≤n) (h1:n≤9223372036854775807) (w:World) (hT:Tab w) (X:ByteArray) (hX:X=bs (Lib.itoa n)) (hs:X.size≤20):
 Calls Tryz.prog 207 #[.int .i64 n] w fun e w'=>e=.returned (.string (X++⟨#[46,48]⟩))∧Low w.heap.size w w':=by
 have hc:∀ W,Tab W→Calls Tryz.prog 215 #[.int .i64 n,.int .i64 10] W fun e w'=>e=.returned (.string X)∧Low W.heap.size W w':=fun W hW=>by
  refine (Tryz.strconv_FormatInt_10 n h0 h1 W hW).mono ?_
  rintro e w' ⟨rfl,k,os,rfl⟩
  refine ⟨by rw [hX],?_⟩
  exact (zbz (Low.refl _ _) k).trans ⟨⟨rfl,rfl,rfl,by simp [Sort.grow],fun i hi=>by simp only [Sort.grow];rw [Array.getElem?_append_left (by exact hi)]⟩,Nat.le_refl _⟩
 have HC:=Lib.hid hc
 clear hc hX
 go_enter Tryz.func207,Tryz.ntmps207
 go_wp2_with (go_at_call 215;(with_reducible refine (HC.out _ hT).mono ?_);rintro e w1 ⟨rfl,hb⟩)
 go_ret
 exact ⟨rfl,hb⟩
theorem zt3 {l:List UInt8} (h:∀ c r,l=c::r→c≠48):Lib.trimLeftB l 48=l:=by
 cases l with
 | nil=>rfl
 | cons c r=>
   unfold Lib.trimLeftB
   rw [List.dropWhile_cons,if_neg (by simpa using h c r rfl)]
theorem zqy (u:Nat):(Lib.decDigits u).all zaz=true∧valD (Lib.decDigits u)=u∧Lib.decDigits u≠[]∧(1≤u→(Lib.decDigits u).headD 0≠48):=by
 induction u using Nat.strongRecOn with
 | _ u ih=>
   have hb:∀ k,k < 10→(UInt8.ofNat (48+k)).toNat=48+k:=fun k hk=>by rw [UInt8.toNat_ofNat'];omega
   have hd:∀ k,k < 10→zaz (UInt8.ofNat (48+k))=true:=fun k hk=>by rw [zce,hb k hk];omega
   rw [Lib.decDigits]
   by_cases h:u < 10
   ·rw [dif_pos h]
    refine ⟨by rw [List.all_cons,hd u h];rfl,by (show ((UInt8.ofNat (48+u)).toNat - 48)*10 ^ 0+0=u;rw [hb u h];omega),by simp,fun h1 e=>?_⟩
    have:=hb u h
    have e2:UInt8.ofNat (48+u)=48:=e
    rw [e2] at this
    have h48:(48:UInt8).toNat=48:=rfl
    omega
   ·rw [dif_neg h]
    obtain ⟨a1,a2,a3,a4⟩:=ih (u / 10) (by omega)
    have hm:u % 10 < 10:=Nat.mod_lt _ (by decide)
    refine ⟨by rw [List.all_append,a1,List.all_cons,hd _ hm];rfl,?_,by simp,fun _=>?_⟩
    ·rw [zbx,a2]
     simp [valD,hb _ hm];omega
    ·have:=a4 (by omega)
     cases hl:Lib.decDigits (u / 10) with
     | nil=>exact absurd hl a3
     | cons c r=>rw [hl] at this;exact this
theorem dec_len (u:Nat) (h:u≤9223372036854775808):(Lib.decDigits u).length≤19:=by
 obtain ⟨a1,a2,a3,a4⟩:=zqy u
 by_cases h0:u=0
 ·rw [h0,Lib.decDigits];simp
 ·have a5:=a4 (by omega)
  cases hl:Lib.decDigits u with
  | nil=>exact absurd hl a3
  | cons c r=>
    rw [hl] at a1 a2 a5
    rw [List.all_cons,Bool.and_eq_true] at a1
    have hc:=zmm a1.1
    have hc0:c.toNat≠48:=fun e=>a5 (UInt8.toNat_inj.1 e)
    rcases Nat.lt_or_ge r.length 19 with k | k
    ·simp;omega
    ·exfalso
     have h3:10 ^ 19≤10 ^ r.length:=Nat.pow_le_pow_right (by decide) k
     have h4:1*10 ^ r.length≤(c.toNat - 48)*10 ^ r.length:=Nat.mul_le_mul_right _ (by omega)
     have h5:(c.toNat - 48)*10 ^ r.length+valD r=u:=a2
     omega
theorem zt4 (neg:Bool) (u:Nat) (hu:neg=true→1≤u) (hl:(Lib.decDigits u).length≤40):chk ((if neg then [45] else [])++Lib.decDigits u++[46,48])=true:=by
 obtain ⟨a1,a2,a3,a4⟩:=zqy u
 have hw:wr neg (Lib.decDigits u) [48]=some ((if neg then [45] else [])++Lib.decDigits u++[46,48]):=by
  unfold wr
  have t2:Lib.trimRightB [48] 48=[]:=by decide
  by_cases h0:u=0
  ·have e:Lib.decDigits u=[48]:=by rw [h0,Lib.decDigits];rfl
   have hn:neg=false:=by
    cases neg with
    | false=>rfl
    | true=>exact absurd (hu rfl) (by omega)
   rw [e,hn]
   decide
  ·have t1:Lib.trimLeftB (Lib.decDigits u) 48=Lib.decDigits u:=zt3 fun c r e=>by
    have:=a4 (by omega)
    rw [e] at this;exact this
   simp only [t1,t2,List.append_nil]
   rw [if_neg (by simp;omega)]
   have e2:(Lib.decDigits u).isEmpty=false:=by
    cases hx:Lib.decDigits u with
    | nil=>exact absurd hx a3
    | cons c r=>rfl
   have e3:orN (Lib.decDigits u)=Lib.decDigits u:=by unfold orN;rw [e2];rfl
   rw [e2,e3]
   cases neg <;> simp [orN]
 unfold chk zh1
 have hs:=zez neg (Lib.decDigits u) [48] a1 a3 (by decide) (by decide)
 have e4:(if neg then [45] else [])++Lib.decDigits u++[46,48]=(if neg then [45] else [])++(Lib.decDigits u++46::[48]):=by simp
 rw [e4] at hw ⊢
 rw [hs]
 simp only [Option.map_some]
 rw [hw]
 simp
theorem bs_size (l:List UInt8):(bs l).size=l.length:=by simp [ByteArray.size]
theorem zvr (neg:Bool) (u:Nat):dval ((if neg then [45] else [])++Lib.decDigits u++[46,48])=(if neg then -(u:Int) else u)*10 ^ 54:=by
 obtain ⟨a1,a2,a3,a4⟩:=zqy u
 have hs:=zez neg (Lib.decDigits u) [48] a1 a3 (by decide) (by decide)
 have hl:(if neg then [45] else [])++Lib.decDigits u++[46,48]=(if neg then [45] else [])++(Lib.decDigits u++46::[48]):=by simp
 rw [hl]
 unfold dval zdd damt
 rw [hs]
 show sv neg (zfo (Lib.decDigits u) [48])=_
 have hn:zfo (Lib.decDigits u) [48]=u*10 ^ 54:=by
  unfold zfo
  rw [a2,show valD [48]=0 from rfl,Nat.zero_mul,Nat.add_zero]
 rw [hn]
 unfold sv
 cases neg
 ·simp
 ·simp [Int.neg_mul]
def intT (n:Int):ByteArray:=bs (Lib.itoa n)++⟨#[46,48]⟩
theorem zmo (n:Int) (h0:-9223372036854775808≤n) (h1:n≤9223372036854775807):chk (intT n).data.toList=true∧dval (intT n).data.toList=n*10 ^ 54∧(intT n).size≤100∧(bs (Lib.itoa n)).size≤20:=by
 have key:∀ (neg:Bool) (u:Nat),(if neg then -(u:Int) else u)=n→(neg=true→1≤u)→Lib.itoa n=(if neg then [45] else [])++Lib.decDigits u→u≤9223372036854775808→
  chk (intT n).data.toList=true∧dval (intT n).data.toList=n*10 ^ 54∧(intT n).size≤100∧(bs (Lib.itoa n)).size≤20:=by
  intro neg u hn hu hit hub
  have hlen:=dec_len u hub
  have hT:(intT n).data.toList=(if neg then [45] else [])++Lib.decDigits u++[46,48]:=by
   unfold intT
   rw [ByteArray.data_append,Array.toList_append,hit]
  have hsz:(bs (Lib.itoa n)).size≤20:=by
   rw [bs_size,hit,List.length_append]
   cases neg <;> simp <;> omega
  refine ⟨by rw [hT];exact zt4 neg u hu (by omega),by rw [hT,zvr,hn],?_,hsz⟩
  have h5:(intT n).data.toList.length=(intT n).size:=Array.length_toList
  rw [← h5,hT]
  simp only [List.length_append,List.length_cons,List.length_nil]
  split <;> simp <;> omega
 by_cases hneg:n < 0
 ·obtain ⟨u,hu⟩:∃ u:Nat,n=-(u:Int):=⟨n.natAbs,by omega⟩
  have hit:Lib.itoa n=45::Lib.decDigits u:=by rw [hu];exact Lib.itoa_neg u (by omega)
  exact key true u hu.symm (fun _=>by omega) hit (by omega)
 ·obtain ⟨u,rfl⟩:=Int.eq_ofNat_of_zero_le (Int.not_lt.1 hneg)
  exact key false u rfl (fun h=>by cases h) (Lib.itoa_nonneg u) (by omega)
mutual
def za7:Val→Val→Bool
 | .mk k b n t x l,.mk k2 b2 n2 t2 x2 l2=>(k == k2) && ((b == b2) && ((n == n2) && ((t.toList == t2.toList) && ((x.toList == x2.toList) && ((l.length == l2.length) && za3 l l2)))))
def za3:List Val→List Val→Bool
 | v::r,v2::r2=>za7 v v2 && za3 r r2
 | _,_=>true
end
theorem zfx:(l l2:List Val)→∀ (i:Nat) (h:i < l.length) (h2:i < l2.length),za7 l[i] l2[i]=false→za3 l l2=false
 | [],_,i,h,_,_=>absurd h (by simp)
 | _::_,[],i,_,h2,_=>absurd h2 (by simp)
 | v::r,v2::r2,i,h,h2,e=>by
   unfold za3
   match i,h,h2 with
   | 0,_,_=>rw [show za7 v v2=false from e];rfl
   | i+1,h,h2=>rw [zfx r r2 i (by simpa using h) (by simpa using h2) e,Bool.and_false]
theorem ze0:(l l2:List Val)→(∀ (i:Nat) (h:i < l.length) (h2:i < l2.length),za7 l[i] l2[i]=true)→za3 l l2=true
 | [],_,_=>by unfold za3;rfl
 | _::_,[],_=>by unfold za3;rfl
 | v::r,v2::r2,h=>by
   unfold za3
   rw [show za7 v v2=true from h 0 (by simp) (by simp),Bool.true_and]
   exact ze0 r r2 fun i h1 h2=>h (i+1) (by simpa using h1) (by simpa using h2)
structure zqz (w:World) (g off:Nat) (v:Val) (k:Int) (b:Bool) (n:Int) (t x:ByteArray) (q:List Val) (p:Option Addr) (cap:Nat):Prop where
 e:v=.mk k b n t x q
 c0:w.cell? ⟨g,off,none⟩=some (.int .i64 k)
 c1:w.cell? ⟨g,off+1,none⟩=some (.bool b)
 c2:w.cell? ⟨g,off+2,none⟩=some (.int .i64 n)
 c3:w.cell? ⟨g,off+3,none⟩=some (.string t)
 c4:w.cell? ⟨g,off+4,none⟩=some (.string x)
 c5:w.cell? ⟨g,off+5,none⟩=some (.slice p q.length cap)
 hf:Fine n t x q.length
 hl:Held w (.slice p q.length cap) q
theorem zax.opens {w:World} {g off:Nat}:{v:Val}→zax w g off v→∃ k b n t x q p cap,zqz w g off v k b n t x q p cap
 | .mk k b n t x q,h=>by
   unfold zax at h
   obtain ⟨h0,h1,h2,h3,h4,hf,L,h5,hl⟩:=h
   obtain ⟨p,cap,rfl⟩:=zcn hl
   exact ⟨k,b,n,t,x,q,p,cap,rfl,h0,h1,h2,h3,h4,h5,hf,hl⟩
theorem Held.form {w:World} {p:Option Addr} {cap n:Nat} {v:Val} {r:List Val} (h:Held w (.slice p n cap) (v::r)):∃ g off,p=some ⟨g,off,none⟩∧zaq w g off (v::r):=by
 unfold Held at h
 obtain ⟨g,off,cap',e,hv,hr⟩:=h
 cases e
 refine ⟨g,off,rfl,?_⟩
 unfold zaq
 exact ⟨hv,hr⟩
def zmp (v:Val):Prop:=∀ (W:World) (k:Int) (b:Bool) (n:Int) (t x:ByteArray) (q:List Val) (p:Option Addr) (cap:Nat) (v2:Val) (k2:Int) (b2:Bool) (n2:Int) (t2 x2:ByteArray) (q2:List Val) (p2:Option Addr) (cap2:Nat),
 v=.mk k b n t x q→v2=.mk k2 b2 n2 t2 x2 q2→q.length≤2097152→Held W (.slice p q.length cap) q→Held W (.slice p2 q2.length cap2) q2→
 Calls Tryz.prog 76 #[.agg #[.int .i64 k,.bool b,.int .i64 n,.string t,.string x,.slice p q.length cap],.agg #[.int .i64 k2,.bool b2,.int .i64 n2,.string t2,.string x2,.slice p2 q2.length cap2]] W
  fun e w'=>e=.returned (.bool (za7 v v2))∧Low W.heap.size W w'
theorem zvs (p p2:Option Addr) (n n2 cap cap2:Nat) (w:World) (h:¬ n=n2):
 Calls Tryz.prog 103 #[.slice p n cap,.slice p2 n2 cap2,.func (.func 76) #[] #[]] w fun e w'=>e=.returned (.bool false)∧Low w.heap.size w w':=by
 have h1:((n:Int) != n2)=true:=by simp;omega
 clear h
 go_enter Tryz.func103,Tryz.ntmps103
 go_wp2_with fail
 go_ret
 exact ⟨rfl,Low.refl _ _⟩
theorem zt5 (p p2:Option Addr) (cap cap2:Nat) (w:World):
 Calls Tryz.prog 103 #[.slice p 0 cap,.slice p2 0 cap2,.func (.func 76) #[] #[]] w fun e w'=>e=.returned (.bool true)∧Low w.heap.size w w':=by
 go_enter Tryz.func103,Tryz.ntmps103
 go_wp2_with fail
 go_loopw [17] (fun i wr=>i=.int .i64 0∧wr=w) (fun _ _=>0)
 case atStart=>exact ⟨rfl,rfl⟩
 case round=>
  obtain ⟨rfl,rfl⟩:=hrel
  go_wp2_with fail
  go_ret
  exact ⟨rfl,Low.refl _ _⟩
theorem zt6 (l l2:List Val) (g off cap g2 off2 cap2:Nat) (w:World) (hl:zaq w g off l) (hl2:zaq w g2 off2 l2) (hlen:l2.length=l.length) (hn:l.length≤2097152) (each:∀ v∈l,zmp v):
 Calls Tryz.prog 103 #[.slice (some ⟨g,off,none⟩) l.length cap,.slice (some ⟨g2,off2,none⟩) l.length cap2,.func (.func 76) #[] #[]] w fun e w'=>e=.returned (.bool (za3 l l2))∧Low w.heap.size w w':=by
 have HH:=Lib.hid hl
 have HH2:=Lib.hid hl2
 have HE:=Lib.hid each
 have HL:=Lib.hid hlen
 clear hl hl2 each hlen
 go_enter Tryz.func103,Tryz.ntmps103
 go_wp2_with fail
 go_loopw [17] (fun i wr=>∃ j:Nat,j≤l.length∧i=.int .i64 j∧Low w.heap.size w wr∧∀ (i:Nat) (h:i < l.length) (h2:i < l2.length),i < j→za7 l[i] l2[i]=true) (fun i _=>l.length - (intOf i).toNat)
 case atStart=>exact ⟨0,Nat.zero_le _,rfl,Low.refl _ _,fun _ _ _ h=>absurd h (by omega)⟩
 case round=>
  obtain ⟨j,hj,rfl,hb,hall⟩:=hrel
  have HA:=Lib.hid hall
  clear hall
  by_cases hlt:j < l.length
  ·have hlt2:j < l2.length:=by have:=HL.out;omega
   obtain ⟨k,b,n,t,x,q,p,cp,o1⟩:=((zaq.at_ l off HH.out j hlt).below _ hb.is).opens
   obtain ⟨k2,b2,n2,t2,x2,q2,p2,cp2,o2⟩:=((zaq.at_ l2 off2 HH2.out j hlt2).below _ hb.is).opens
   obtain ⟨c1,hc1⟩:∃ c1,c1=Obj.cells #[.int .i64 k,.bool b,.int .i64 n,.string t,.string x,.slice p q.length cp] 39:=⟨_,rfl⟩
   obtain ⟨c2,hc2⟩:∃ c2,c2=Obj.cells #[.int .i64 k2,.bool b2,.int .i64 n2,.string t2,.string x2,.slice p2 q2.length cp2] 39:=⟨_,rfl⟩
   have bb:=low2 wr c1 c2
   have hc:=HE.out l[j] (List.getElem_mem hlt) ((wr.alloc c1).alloc c2) k b n t x q p cp l2[j] k2 b2 n2 t2 x2 q2 p2 cp2 o1.e o2.e o1.hf.hn (Held.below q o1.hl bb.is) (Held.below q2 o2.hl bb.is)
   obtain ⟨r,hr⟩:∃ r,r=za7 l[j] l2[j]:=⟨_,rfl⟩
   rw [← hr] at hc
   have l0:Six ((wr.alloc c1).alloc c2) wr.heap.size k b n t x p q.length cp:=by rw [hc1];exact (zah _ rfl).alloc _
   have l1:Six ((wr.alloc c1).alloc c2) (wr.heap.size+1) k2 b2 n2 t2 x2 p2 q2.length cp2:=by rw [hc2];exact zah _ (by simp)
   have hs:w.heap.size≤wr.heap.size:=hb.size
   have b0:Low w.heap.size w ((wr.alloc c1).alloc c2):=(hb.alloc hs _).alloc (by simp;omega) _
   have z0:w.heap.size≤((wr.alloc c1).alloc c2).heap.size:=b0.size
   have oo2:zqz (wr.alloc c1) g2 (off2+j*6) l2[j] k2 b2 n2 t2 x2 q2 p2 cp2:=by
    have h1:=low1 wr c1
    have hg:=World.block_lt_of_cell? wr _ o2.c0
    exact ⟨o2.e,(h1.cell (p:=⟨g2,off2+j*6,none⟩) hg).trans o2.c0,(h1.cell (p:=⟨g2,off2+j*6+1,none⟩) hg).trans o2.c1,(h1.cell (p:=⟨g2,off2+j*6+2,none⟩) hg).trans o2.c2,(h1.cell (p:=⟨g2,off2+j*6+3,none⟩) hg).trans o2.c3,
     (h1.cell (p:=⟨g2,off2+j*6+4,none⟩) hg).trans o2.c4,(h1.cell (p:=⟨g2,off2+j*6+5,none⟩) hg).trans o2.c5,o2.hf,Held.below q2 o2.hl h1.is⟩
   have O1:=Lib.hid o1
   have O2:=Lib.hid oo2
   have HR:=Lib.hid hr
   clear o1 o2 oo2 bb hr
   subst hc1 hc2
   cases r with
   | true=>
     go_wp2_with (first
      |((with_reducible refine zay (.tmp 20) g (off+j*6) k b n t x (.slice p q.length cp) O1.out.c0 O1.out.c1 O1.out.c2 O1.out.c3 O1.out.c4 O1.out.c5 ?_ ?_ ?_ ?_);rfl;rfl;rfl)
      |((with_reducible refine zay (.tmp 24) g2 (off2+j*6) k2 b2 n2 t2 x2 (.slice p2 q2.length cp2) O2.out.c0 O2.out.c1 O2.out.c2 O2.out.c3 O2.out.c4 O2.out.c5 ?_ ?_ ?_ ?_);rfl;rfl;rfl)
      |((with_reducible refine zaa (.tmp 8) wr.heap.size l0 ?_ ?_ ?_ ?_);rfl;rfl;rfl)
      |((with_reducible refine zaa (.tmp 9) (wr.heap.size+1) l1 ?_ ?_ ?_ ?_);rfl;rfl;rfl)
      |(go_at_call 76;(with_reducible refine hc.mono ?_);rintro e w3 ⟨rfl,hb3⟩;have b3:=zad b0 hb3 z0))
     go_roundw
     case rel=>
      refine ⟨j+1,by omega,by go_num,b3,fun i hi hi2 hlt'=>?_⟩
      by_cases e:i=j
      ·subst e;exact HR.out.symm
      ·exact HA.out i hi hi2 (by omega)
     case measure=>simp [intOf];omega
   | false=>
     go_wp2_with (first
      |((with_reducible refine zay (.tmp 20) g (off+j*6) k b n t x (.slice p q.length cp) O1.out.c0 O1.out.c1 O1.out.c2 O1.out.c3 O1.out.c4 O1.out.c5 ?_ ?_ ?_ ?_);rfl;rfl;rfl)
      |((with_reducible refine zay (.tmp 24) g2 (off2+j*6) k2 b2 n2 t2 x2 (.slice p2 q2.length cp2) O2.out.c0 O2.out.c1 O2.out.c2 O2.out.c3 O2.out.c4 O2.out.c5 ?_ ?_ ?_ ?_);rfl;rfl;rfl)
      |((with_reducible refine zaa (.tmp 8) wr.heap.size l0 ?_ ?_ ?_ ?_);rfl;rfl;rfl)
      |((with_reducible refine zaa (.tmp 9) (wr.heap.size+1) l1 ?_ ?_ ?_ ?_);rfl;rfl;rfl)
      |(go_at_call 76;(with_reducible refine hc.mono ?_);rintro e w3 ⟨rfl,hb3⟩;have b3:=zad b0 hb3 z0))
     go_ret
     exact ⟨by rw [zfx l l2 j hlt hlt2 HR.out.symm];rfl,b3⟩
  ·go_wp2_with fail
   go_ret
   exact ⟨by rw [ze0 l l2 fun i h h2=>HA.out i h h2 (by omega)];rfl,hb⟩
theorem zyn (l l2:List Val) (p p2:Option Addr) (cap cap2:Nat) (w:World) (hl:Held w (.slice p l.length cap) l) (hl2:Held w (.slice p2 l2.length cap2) l2) (hn:l.length≤2097152) (each:∀ v∈l,zmp v):
 Calls Tryz.prog 103 #[.slice p l.length cap,.slice p2 l2.length cap2,.func (.func 76) #[] #[]] w fun e w'=>e=.returned (.bool ((l.length == l2.length) && za3 l l2))∧Low w.heap.size w w':=by
 by_cases h:l.length=l2.length
 ·rw [show (l.length == l2.length)=true by simpa using h,Bool.true_and,← h]
  cases l with
  | nil=>
    unfold za3
    exact zt5 _ _ _ _ _
  | cons v r=>
    cases l2 with
    | nil=>simp at h
    | cons v2 r2=>
      obtain ⟨g,off,rfl,hh⟩:=hl.form
      obtain ⟨g2,off2,rfl,hh2⟩:=hl2.form
      exact zt6 (v::r) (v2::r2) g off cap g2 off2 cap2 w hh hh2 h.symm hn each
 ·rw [show (l.length == l2.length)=false by simpa using h,Bool.false_and]
  exact zvs p p2 _ _ cap cap2 w h
theorem zvt (v:Val) (k:Int) (b:Bool) (n:Int) (t x:ByteArray) (q:List Val) (ev:v=.mk k b n t x q) (each:∀ u∈q,zmp u):zmp v:=by
 subst ev
 intro W k1 b1 n1 t1 x1 q1 p cap v2 k2 b2 n2 t2 x2 q2 p2 cap2 e1 e2 hn hl hl2
 cases e1
 subst e2
 unfold za7
 obtain ⟨c1,hc1⟩:∃ c1,c1=Obj.cells #[.int .i64 k,.bool b,.int .i64 n,.string t,.string x,.slice p q.length cap] 39:=⟨_,rfl⟩
 obtain ⟨c2,hc2⟩:∃ c2,c2=Obj.cells #[.int .i64 k2,.bool b2,.int .i64 n2,.string t2,.string x2,.slice p2 q2.length cap2] 39:=⟨_,rfl⟩
 have b0:=low2 W c1 c2
 have hc:=zyn q q2 p p2 cap cap2 ((W.alloc c1).alloc c2) (Held.below q hl b0.is) (Held.below q2 hl2 b0.is) hn each
 have l0:Six ((W.alloc c1).alloc c2) W.heap.size k b n t x p q.length cap:=by rw [hc1];exact (zah _ rfl).alloc _
 have l1:Six ((W.alloc c1).alloc c2) (W.heap.size+1) k2 b2 n2 t2 x2 p2 q2.length cap2:=by rw [hc2];exact zah _ (by simp)
 have z0:=b0.size
 have f0:=l0.c0
 have f1:=l0.c1
 have f2:=l0.c2
 have f3:=l0.c3
 have f4:=l0.c4
 have f5:=l0.c5
 have g0:=l1.c0
 have g1:=l1.c1
 have g2:=l1.c2
 have g3:=l1.c3
 have g4:=l1.c4
 have g5:=l1.c5
 clear l0 l1 hl hl2 each hn
 subst hc1 hc2
 cases a0:(k == k2) with
 | false=>
   rw [Bool.false_and]
   go_enter Tryz.func76,Tryz.ntmps76
   go_wp2_with fail
   go_ret
   exact ⟨rfl,b0⟩
 | true=>
   rw [Bool.true_and]
   cases a1:(b == b2) with
   | false=>
     rw [Bool.false_and]
     go_enter Tryz.func76,Tryz.ntmps76
     go_wp2_with fail
     go_ret
     exact ⟨rfl,b0⟩
   | true=>
     rw [Bool.true_and]
     cases a2:(n == n2) with
     | false=>
       rw [Bool.false_and]
       go_enter Tryz.func76,Tryz.ntmps76
       go_wp2_with fail
       go_ret
       exact ⟨rfl,b0⟩
     | true=>
       rw [Bool.true_and]
       cases a3:(t.toList == t2.toList) with
       | false=>
         rw [Bool.false_and]
         go_enter Tryz.func76,Tryz.ntmps76
         go_wp2_with fail
         go_ret
         exact ⟨rfl,b0⟩
       | true=>
         rw [Bool.true_and]
         cases a4:(x.toList == x2.toList) with
         | false=>
           rw [Bool.false_and]
           go_enter Tryz.func76,Tryz.ntmps76
           go_wp2_with fail
           go_ret
           exact ⟨rfl,b0⟩
         | true=>
           rw [Bool.true_and]
           generalize (q.length == q2.length && za3 q q2)=r at hc ⊢
           go_enter Tryz.func76,Tryz.ntmps76
           go_wp2_with (go_at_call 103;(with_reducible refine hc.mono ?_);rintro e w3 ⟨rfl,hb3⟩;replace b0:=zad b0 hb3 z0)
           go_ret
           exact ⟨rfl,b0⟩
mutual
theorem zq0:(v:Val)→zmp v
 | .mk k b n t x q=>zvt _ k b n t x q rfl (zsl q)
theorem zsl:(q:List Val)→∀ u∈q,zmp u
 | [],_,h=>absurd h (by simp)
 | v::r,u,h=>by
   rcases List.mem_cons.1 h with h | h
   ·rw [h];exact zq0 v
   ·exact zsl r u h
end
def numV (k n:Int) (t:ByteArray):Int:=if k=2 then n*10 ^ 54 else if chk t.data.toList then dval t.data.toList else 0
def Says (z:Int) (s:ByteArray):Prop:=chk s.data.toList=true∧dval s.data.toList=z∧s.size < 4294967281
theorem zo4 (n:Int) (h0:-9223372036854775808≤n) (h1:n≤9223372036854775807) (w:World) (hT:Tab w):
 Calls Tryz.prog 207 #[.int .i64 n] w fun e w'=>∃ s,e=.returned (.string s)∧Says (n*10 ^ 54) s∧Low w.heap.size w w':=by
 obtain ⟨f1,f2,f3,f4⟩:=zmo n h0 h1
 refine (ofIntAt n h0 h1 w hT _ rfl f4).mono ?_
 rintro e w' ⟨rfl,hb⟩
 exact ⟨_,rfl,⟨f1,f2,show (intT n).size < _ by omega⟩,hb⟩
theorem zk1 (k:Int) (b:Bool) (n:Int) (t x:ByteArray) (p:Option Addr) (len cap:Nat) (w:World) (hG:Gd w) (hT:Tab w) (hf:Fine n t x len):
 Calls Tryz.prog 194 #[.agg #[.int .i64 k,.bool b,.int .i64 n,.string t,.string x,.slice p len cap]] w fun e w'=>∃ s,e=.returned (.string s)∧Says (numV k n t) s∧Low w.heap.size w w':=by
 have l0:=zah (k:=k) (b:=b) (n:=n) (t:=t) (x:=x) (p:=p) (len:=len) (cap:=cap) w rfl
 have b0:=low1 w (.cells #[.int .i64 k,.bool b,.int .i64 n,.string t,.string x,.slice p len cap] 39)
 have g0:=hG.below b0.is
 have t0:=hT.below b0.is
 have z0:=b0.size
 have f0:=l0.c0
 have f2:=l0.c2
 have f3:=l0.c3
 have HF:=Lib.hid hf
 by_cases h2:k=2
 ·subst h2
  obtain ⟨z,hz⟩:∃ z,z=numV 2 n t:=⟨_,rfl⟩
  have hc:=fun W hW=>zo4 n HF.out.lo HF.out.hi W hW
  have e:numV 2 n t=n*10 ^ 54:=by unfold numV;rw [if_pos rfl]
  rw [← e,← hz] at hc
  rw [← hz]
  have HC:=Lib.hid hc
  clear hc hz e l0 hf
  go_enter Tryz.func194,Tryz.ntmps194
  go_wp2_with (go_at_call 207;(with_reducible refine (HC.out _ t0).mono ?_);rintro e w1 ⟨s,rfl,hs,hb⟩;have HS:=Lib.hid hs;clear hs;replace b0:=zad b0 hb z0)
  go_ret
  exact ⟨s,rfl,HS.out,b0⟩
 ·have e2:(k == 2)=false:=by simpa using h2
  cases hk:chk t.data.toList with
  | true=>
    have e:numV k n t=dval t.data.toList:=by unfold numV;rw [if_neg h2,if_pos hk]
    rw [e]
    have hsay:Hid (Says (dval t.data.toList) t):=Lib.hid ⟨hk,rfl,by have:=hf.ht;omega⟩
    have hc:=fun W hW=>znf t W hW (by have:=hf.ht;omega)
    rw [hk] at hc
    have b9:=b0
    clear h2 e hk l0 hf
    generalize dval t.data.toList=z at hsay ⊢
    go_enter Tryz.func194,Tryz.ntmps194
    go_wp2_with (go_at_call 108;(with_reducible refine (hc _ g0).mono ?_);rintro e w1 ⟨rfl,hb⟩;have c3:=(hb.cell (p:=⟨w.heap.size,3,none⟩) (World.block_lt_of_cell? _ _ f3)).trans f3;replace b9:=zad b0 hb z0)
    go_ret
    exact ⟨t,rfl,hsay.out,b9⟩
  | false=>
    have e:numV k n t=0:=by unfold numV;rw [if_neg h2,if_neg (by simp [hk])]
    rw [e]
    have hc:=fun W hW=>znf t W hW (by have:=hf.ht;omega)
    rw [hk] at hc
    have hd:=fun W hW=>zo4 0 (by omega) (by omega) W hW
    rw [Int.zero_mul] at hd
    have HD:=Lib.hid hd
    have b9:=b0
    clear h2 e hk l0 hf hd
    go_enter Tryz.func194,Tryz.ntmps194
    go_wp2_with (first
     |(go_at_call 108;(with_reducible refine (hc _ g0).mono ?_);rintro e w1 ⟨rfl,hb⟩;have t1:=t0.below hb.is;replace b9:=zad b0 hb z0)
     |(go_at_call 207;(with_reducible refine (HD.out _ t1).mono ?_);rintro e w2 ⟨s,rfl,hs,hb2⟩;have HS:=Lib.hid hs;clear hs;replace b9:=zad b9 hb2 b9.size))
    go_ret
    exact ⟨s,rfl,HS.out,b9⟩
theorem zmq (a b:Int):cmpZ (a*10 ^ 54) (b*10 ^ 54)=cmpZ a b:=by
 obtain ⟨P,hP⟩:∃ P:Int,P=10 ^ 54:=⟨_,rfl⟩
 have hp:0 < P:=by rw [hP];decide
 rw [← hP]
 clear hP
 unfold cmpZ
 by_cases h:a < b
 ·rw [if_pos h,if_pos (Int.mul_lt_mul_of_pos_right h hp)]
 ·rw [if_neg h,if_neg (fun h2=>h (Int.lt_of_mul_lt_mul_right h2 (Int.le_of_lt hp)))]
  by_cases h3:b < a
  ·rw [if_pos h3,if_pos (Int.mul_lt_mul_of_pos_right h3 hp)]
  ·rw [if_neg h3,if_neg (fun h2=>h3 (Int.lt_of_mul_lt_mul_right h2 (Int.le_of_lt hp)))]
theorem znl (a b:Int) (w:World):Calls Tryz.prog 167 #[.int .i64 a,.int .i64 b] w fun e w'=>e=.returned (.int .i64 (cmpZ a b))∧Low w.heap.size w w':=by
 by_cases h:a < b
 ·have e:cmpZ a b=-1:=by unfold cmpZ;rw [if_pos h]
  rw [e]
  clear e
  go_enter Tryz.func167,Tryz.ntmps167
  go_wp2
  go_ret
  exact ⟨rfl,Low.refl _ _⟩
 ·by_cases h2:b < a
  ·have e:cmpZ a b=1:=by unfold cmpZ;rw [if_neg h,if_pos h2]
   rw [e]
   clear e
   go_enter Tryz.func167,Tryz.ntmps167
   go_wp2
   go_ret
   exact ⟨rfl,Low.refl _ _⟩
  ·have e:cmpZ a b=0:=by unfold cmpZ;rw [if_neg h,if_neg h2]
   rw [e]
   obtain rfl:a=b:=by omega
   clear e h2 h
   go_enter Tryz.func167,Tryz.ntmps167
   go_wp2
   go_ret
   exact ⟨rfl,Low.refl _ _⟩
theorem Six.range {w:World} {g:Nat} {k:Int} {b:Bool} {n:Int} {t x:ByteArray} {p:Option Addr} {len cap:Nat} (h:Six w g k b n t x p len cap):w.rangeAt g 0 [.int .i64 k,.bool b,.int .i64 n,.string t,.string x,.slice p len cap]:=by
 have:=zb3 (g:=g) (off:=0) h.c0 h.c1 h.c2 h.c3 h.c4 h.c5
 exact this
theorem zh7 {ops:Array Oper} {S:World→Prop} {op:Oper} {a:Act} {k:Int} {b:Bool} {n:Int} {t x:ByteArray} {p:Option Addr} {len cap:Nat} (hw:Region.wanted op (yielded ops a.tmps)=true) (y:Operand) (ho:op.op=.load 39 y) (g:Nat) (hx:a.eval y=.pointer (some ⟨g,0,none⟩))
 (hS:∀ w,S w→Six w g k b n t x p len cap):YieldsIf Tryz.prog ops S op (.agg #[.int .i64 k,.bool b,.int .i64 n,.string t,.string x,.slice p len cap]) a:=
 yieldsIf_load_mid hw 39 y ho g 0 hx [.int .i64 k,.bool b,.int .i64 n,.string t,.string x,.slice p len cap] _ (fun w h=>(hS w h).range) Tryz.underlying39 rfl zav
theorem cmpSays {z z2:Int} {s s2:ByteArray} (h:Says z s) (h2:Says z2 s2) (w:World) (hG:Gd w):
 Calls Tryz.prog 193 #[.string s,.string s2] w fun e w'=>e=.returned (.int .i64 (cmpZ z z2))∧Low w.heap.size w w':=by
 have:=cmpYes s s2 w hG h.2.2 h2.2.2 h.1 h2.1
 rwa [h.2.1,h2.2.1] at this
theorem zvu (k:Int) (b:Bool) (n:Int) (t x:ByteArray) (p:Option Addr) (len cap:Nat) (k2:Int) (b2:Bool) (n2:Int) (t2 x2:ByteArray) (p2:Option Addr) (len2 cap2:Nat) (w:World) (hG:Gd w) (hT:Tab w) (hf:Fine n t x len) (hf2:Fine n2 t2 x2 len2):
 Calls Tryz.prog 182 #[.agg #[.int .i64 k,.bool b,.int .i64 n,.string t,.string x,.slice p len cap],.agg #[.int .i64 k2,.bool b2,.int .i64 n2,.string t2,.string x2,.slice p2 len2 cap2]] w fun e w'=>e=.returned (.int .i64 (cmpZ (numV k n t) (numV k2 n2 t2)))∧Low w.heap.size w w':=by
 obtain ⟨W0,hW0⟩:∃ W0,W0=(w.alloc (.cells #[.int .i64 k,.bool b,.int .i64 n,.string t,.string x,.slice p len cap] 39)).alloc (.cells #[.int .i64 k2,.bool b2,.int .i64 n2,.string t2,.string x2,.slice p2 len2 cap2] 39):=⟨_,rfl⟩
 have l0:Six W0 w.heap.size k b n t x p len cap:=by rw [hW0];exact (zah _ rfl).alloc _
 have l1:Six W0 (w.heap.size+1) k2 b2 n2 t2 x2 p2 len2 cap2:=by rw [hW0];exact zah _ (by simp)
 have b0:Low w.heap.size w W0:=by rw [hW0];exact low2 _ _ _
 have hB:=fun W=>zi5 2 k b n t x (.slice p len cap) k2 b2 n2 t2 x2 (.slice p2 len2 cap2) W
 have HF:=Lib.hid (And.intro hf hf2)
 have H0:=Lib.hid hW0
 clear hf hf2 hW0
 cases hb:(k == 2 && k2 == 2) with
 | true=>
   rw [Bool.and_eq_true,beq_iff_eq,beq_iff_eq] at hb
   have e:cmpZ (numV k n t) (numV k2 n2 t2)=cmpZ n n2:=by unfold numV;rw [if_pos hb.1,if_pos hb.2,zmq]
   have hbb:(k == 2 && k2 == 2)=true:=by simp [hb.1,hb.2]
   rw [hbb] at hB
   have hc:=fun W=>znl n n2 W
   rw [e]
   rw [show cmpZ n n2=cmpZ n n2 from rfl]
   generalize cmpZ n n2=r at hc ⊢
   clear hb hbb e
   go_enter Tryz.func182,Tryz.ntmps182
   go_wp2_with (first
    |(rw [← H0.out];(with_reducible refine zaa (.tmp 2) w.heap.size l0 ?_ ?_ ?_ ?_);rfl;rfl;rfl)
    |((with_reducible refine zaa (.tmp 3) (w.heap.size+1) l1 ?_ ?_ ?_ ?_);rfl;rfl;rfl)
    |(go_at_call 183;(with_reducible refine (hB _).mono ?_);rintro e w1 ⟨rfl,hb1⟩;have d0:=(l0.below hb1.is).c2;have d1:=(l1.below hb1.is).c2;have b1:=zad b0 hb1 b0.size)
    |(go_at_call 167;(with_reducible refine (hc _).mono ?_);rintro e w2 ⟨rfl,hb2⟩;replace b1:=zad b1 hb2 b1.size))
   go_ret
   exact ⟨rfl,b1⟩
 | false=>
   rw [hb] at hB
   clear hb
   have hc1:=fun W hW hW2=>zk1 k b n t x p len cap W hW hW2 HF.out.1
   have hc2:=fun W hW hW2=>zk1 k2 b2 n2 t2 x2 p2 len2 cap2 W hW hW2 HF.out.2
   generalize numV k n t=z at hc1 ⊢
   generalize numV k2 n2 t2=z2 at hc2 ⊢
   have HC1:=Lib.hid hc1
   have HC2:=Lib.hid hc2
   clear hc1 hc2
   go_enter Tryz.func182,Tryz.ntmps182
   go_wp2_with (first
    |(rw [← H0.out];(with_reducible refine zaa (.tmp 2) w.heap.size l0 ?_ ?_ ?_ ?_);rfl;rfl;rfl)
    |((with_reducible refine zaa (.tmp 3) (w.heap.size+1) l1 ?_ ?_ ?_ ?_);rfl;rfl;rfl)
    |(go_at_call 183;(with_reducible refine (hB _).mono ?_);rintro e w1 ⟨rfl,hb1⟩;have d0:=l0.below hb1.is;have d1:=l1.below hb1.is;have b1:=zad b0 hb1 b0.size))
   refine wp_region_held_drew (S:=fun w'=>Six w' w.heap.size k b n t x p len cap∧Six w' (w.heap.size+1) k2 b2 n2 t2 x2 p2 len2 cap2∧Low w.heap.size w w') (by kernel_rfl) ⟨d0,d1,b1.drew⟩ (fun hHeld=>?_)
   refine tk (i:=0) rfl (zh7 (by rfl) (.tmp 2) rfl w.heap.size rfl (fun _ h=>h.1)) hHeld ?_
   try simp only [Act.put,List.setIfInBounds_toArray,List.set_cons_zero,List.set_cons_succ]
   refine tk (i:=2) rfl (zh7 (by rfl) (.tmp 3) rfl (w.heap.size+1) rfl (fun _ h=>h.2.1)) hHeld ?_
   try simp only [Act.put,List.setIfInBounds_toArray,List.set_cons_zero,List.set_cons_succ]
   obtain ⟨u1,u2,u3⟩:=hHeld
   refine tr 1 rfl (fun K hK=>?_)
   rw [if_pos (by rfl)]
   go_simp
   refine (HC1.out _ (hG.below u3.is) (hT.below u3.is)).mono ?_
   rintro e w3 ⟨s,rfl,hs,hb3⟩
   refine hK.out _ _ ⟨u1.below hb3.is,u2.below hb3.is,zad u3 hb3 u3.size⟩ (fun hHeld=>?_)
   clear hK K u1 u2 u3 hb3
   try simp only [putS]
   obtain ⟨u1,u2,u3⟩:=hHeld
   refine tr 3 rfl (fun K hK=>?_)
   rw [if_pos (by rfl)]
   go_simp
   refine (HC2.out _ (hG.below u3.is) (hT.below u3.is)).mono ?_
   rintro e w4 ⟨s2,rfl,hs2,hb4⟩
   refine hK.out _ _ ⟨u1.below hb4.is,u2.below hb4.is,zad u3 hb4 u3.size⟩ (fun hHeld=>?_)
   clear hK K u1 u2 u3 hb4
   try simp only [putS]
   obtain ⟨u1,u2,u3⟩:=hHeld
   refine tr 4 rfl (fun K hK=>?_)
   rw [if_pos (by rfl)]
   go_simp
   refine (cmpSays hs hs2 _ (hG.below u3.is)).mono ?_
   rintro e w5 ⟨rfl,hb5⟩
   refine hK.out _ _ ⟨u1.below hb5.is,u2.below hb5.is,zad u3 hb5 u3.size⟩ (fun hHeld=>?_)
   clear hK K u1 u2 u3 hb5
   try simp only [putS]
   obtain ⟨u1,u2,u3⟩:=hHeld
   refine tr 5 rfl (fun K hK=>?_)
   go_simp
   refine hK.out _ _ ⟨u1,u2,u3⟩ (fun hHeld=>?_)
   clear hK K hHeld
   try simp only [putS]
   refine wpAnyH_done (by kernel_rfl) ?_ _
   go_wp2_with fail
   go_ret
   exact ⟨rfl,u3⟩
theorem sameAtV (k:Int) (b:Bool) (n:Int) (t x:ByteArray) (q:List Val) (p:Option Addr) (cap:Nat) (k2:Int) (b2:Bool) (n2:Int) (t2 x2:ByteArray) (q2:List Val) (p2:Option Addr) (cap2:Nat) (w:World) (hf:Fine n t x q.length) (hl:Held w (.slice p q.length cap) q) (hl2:Held w (.slice p2 q2.length cap2) q2):
 Calls Tryz.prog 76 #[.agg #[.int .i64 k,.bool b,.int .i64 n,.string t,.string x,.slice p q.length cap],.agg #[.int .i64 k2,.bool b2,.int .i64 n2,.string t2,.string x2,.slice p2 q2.length cap2]] w fun e w'=>e=.returned (.bool (za7 (.mk k b n t x q) (.mk k2 b2 n2 t2 x2 q2)))∧Low w.heap.size w w':=
 zq0 (.mk k b n t x q) w k b n t x q p cap (.mk k2 b2 n2 t2 x2 q2) k2 b2 n2 t2 x2 q2 p2 cap2 rfl rfl hf.hn hl hl2
theorem zqz.below {w w':World} {g off:Nat} {v:Val} {k:Int} {b:Bool} {n:Int} {t x:ByteArray} {q:List Val} {p:Option Addr} {cap:Nat} (o:zqz w g off v k b n t x q p cap) (h:Below w.heap.size w w'):zqz w' g off v k b n t x q p cap:=by
 have hg:=World.block_lt_of_cell? w _ o.c0
 exact ⟨o.e,(h.cell (p:=⟨g,off,none⟩) hg).trans o.c0,(h.cell (p:=⟨g,off+1,none⟩) hg).trans o.c1,(h.cell (p:=⟨g,off+2,none⟩) hg).trans o.c2,(h.cell (p:=⟨g,off+3,none⟩) hg).trans o.c3,
  (h.cell (p:=⟨g,off+4,none⟩) hg).trans o.c4,(h.cell (p:=⟨g,off+5,none⟩) hg).trans o.c5,o.hf,Held.below q o.hl h⟩
theorem zqz.range {w:World} {g off:Nat} {v:Val} {k:Int} {b:Bool} {n:Int} {t x:ByteArray} {q:List Val} {p:Option Addr} {cap:Nat} (o:zqz w g off v k b n t x q p cap):w.rangeAt g off [.int .i64 k,.bool b,.int .i64 n,.string t,.string x,.slice p q.length cap]:=
 zb3 o.c0 o.c1 o.c2 o.c3 o.c4 o.c5
def E3 (a:Int):Prop:=a=0∨a=1∨a=2
mutual
theorem zfe:(v v2:Val)→za7 v v2=za7 v2 v
 | .mk k b n t x l,.mk k2 b2 n2 t2 x2 l2=>by
   unfold za7
   rw [zho l l2,show (k == k2)=(k2 == k) from BEq.comm,show (b == b2)=(b2 == b) from BEq.comm,show (n == n2)=(n2 == n) from BEq.comm,
    show (t.toList == t2.toList)=(t2.toList == t.toList) from BEq.comm,show (x.toList == x2.toList)=(x2.toList == x.toList) from BEq.comm,show (l.length == l2.length)=(l2.length == l.length) from BEq.comm]
theorem zho:(l l2:List Val)→za3 l l2=za3 l2 l
 | [],[]=>rfl
 | [],_::_=>by unfold za3;rfl
 | _::_,[]=>by unfold za3;rfl
 | v::r,v2::r2=>by
   unfold za3
   rw [zfe v v2,zho r r2]
end
mutual
theorem zc5:(v:Val)→za7 v v=true
 | .mk k b n t x l=>by
   unfold za7
   rw [zhp l]
   simp
theorem zhp:(l:List Val)→za3 l l=true
 | []=>by unfold za3;rfl
 | v::r=>by
   unfold za3
   rw [zc5 v,zhp r]
   rfl
end
theorem zfy:(l:List UInt8)→Op.bytesLess l l=false
 | []=>rfl
 | a::x=>by
   unfold Op.bytesLess
   rw [zfy x,Bool.and_false,Bool.or_false]
   simp
theorem zmr:(l m:List UInt8)→Op.bytesLess l m=true→Op.bytesLess m l=false
 | [],[],h=>by cases h
 | [],_::_,_=>rfl
 | _::_,[],h=>by cases h
 | a::x,b::y,h=>by
   unfold Op.bytesLess at h ⊢
   rw [Bool.or_eq_true,Bool.and_eq_true,decide_eq_true_eq,beq_iff_eq] at h
   rw [Bool.or_eq_false_iff,decide_eq_false_iff_not,Bool.and_eq_false_iff,beq_eq_false_iff_ne]
   rcases h with h | ⟨rfl,h⟩
   ·exact ⟨fun g=>absurd (UInt8.lt_iff_toNat_lt.1 g) (by have:=UInt8.lt_iff_toNat_lt.1 h;omega),.inl (fun e=>by rw [e] at h;exact absurd (UInt8.lt_iff_toNat_lt.1 h) (by omega))⟩
   ·exact ⟨fun g=>absurd (UInt8.lt_iff_toNat_lt.1 g) (by omega),.inr (zmr x y h)⟩
end Go.Proofs.YtanbgdhmfjgihaaGreatDoor
