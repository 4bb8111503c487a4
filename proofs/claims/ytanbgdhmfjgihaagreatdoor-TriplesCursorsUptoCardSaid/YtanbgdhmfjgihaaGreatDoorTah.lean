/- Texts of one kind, one behind the other: each says ahead of itself what it shows. -/
import Derived.Test.YtanbgdhmfjgihaaGreatDoorTag
import Derived.Deep.LoopGhost
import Derived.WalkMore
import Derived.Lib.ItoaMem
import Derived.Test.YtanbgdhmfjgihaaGreatDoorTaf
import Derived.Deep.RegionHeld3
import Derived.StillTailTactics
namespace Go.Proofs.YtanbgdhmfjgihaaGreatDoor
open Go.RowKit
set_option maxHeartbeats 12800000
set_option maxRecDepth 20000
theorem Lies.drewN {w:World} {g:Nat} {c:Array Value} {n:Bool} {f:Nat→Nat} (h:Lies w g c n f) (k:Nat):Lies (w.drewN k) g c n f:=h
def Tab (w:World):Prop:=Lib.TabIs Tryz.prog w "internal/strconv.uint64pow10" .u64 Lib.pow10Tab
theorem zt1 {P:Program} {w w':World} {name:String} {cs:Array Value} (h:w.var? P name=some cs) (k:Below w.heap.size w w'):w'.var? P name=some cs:=by
 unfold World.var? at*
 cases hg:P.globalNamed name with
 | none=>rw [hg] at h;cases h
 | some g=>
   rw [hg] at h
   simp only [Option.bind_some] at h ⊢
   have hlt:g < w.heap.size:=by
    by_cases e:g < w.heap.size
    ·exact e
    ·rw [Array.getElem?_eq_none (by omega)] at h;cases h
   rw [k.block g hlt];exact h
theorem Tab.below {w w':World} (h:Tab w) (k:Below w.heap.size w w'):Tab w':=by
 exact zt1 h k
theorem ofIntAt (n:Int) (h0:-9223372036854775808≤n) (h1:n≤9223372036854775807) (w:World) (hT:Tab w) (X:ByteArray) (hX:X=bs (Lib.itoa n)) (hs:X.size≤20):
 Calls Tryz.prog 207 #[.int .i64 n] w fun e w'=>e=.returned (.string (X++⟨#[46,48]⟩))∧Low w.heap.size w w':=by
 have hc:∀ W,Tab W→Calls Tryz.prog 215 #[.int .i64 n,.int .i64 10] W fun e w'=>e=.returned (.string X)∧Low W.heap.size W w':=fun W hW=>by
  refine (Tryz.strconv_FormatInt_10 n h0 h1 W hW).mono ?_
  rintro e w' ⟨rfl,k,os,rfl⟩
  refine ⟨by rw [hX],?_⟩
  exact (zbx (Low.refl _ _) k).trans ⟨⟨rfl,rfl,rfl,by simp [Sort.grow],fun i hi=>by simp only [Sort.grow];rw [Array.getElem?_append_left (by exact hi)]⟩,Nat.le_refl _⟩
 have HC:=Lib.hid hc
 clear hc hX
 go_enter Tryz.func207,Tryz.ntmps207
 go_wp2_with (go_at_call 215;(with_reducible refine (HC.out _ hT).mono ?_);rintro e w1 ⟨rfl,hb⟩)
 go_ret
 exact ⟨rfl,hb⟩
theorem zsk {l:List UInt8} (h:∀ c r,l=c::r→c≠48):Lib.trimLeftB l 48=l:=by
 cases l with
 | nil=>rfl
 | cons c r=>
   unfold Lib.trimLeftB
   rw [List.dropWhile_cons,if_neg (by simpa using h c r rfl)]
theorem zpq (u:Nat):(Lib.decDigits u).all za1=true∧valD (Lib.decDigits u)=u∧Lib.decDigits u≠[]∧(1≤u→(Lib.decDigits u).headD 0≠48):=by
 induction u using Nat.strongRecOn with
 | _ u ih=>
   have hb:∀ k,k < 10→(UInt8.ofNat (48+k)).toNat=48+k:=fun k hk=>by rw [UInt8.toNat_ofNat'];omega
   have hd:∀ k,k < 10→za1 (UInt8.ofNat (48+k))=true:=fun k hk=>by rw [zca,hb k hk];omega
   rw [Lib.decDigits]
   by_cases h:u < 10
   ·rw [dif_pos h]
    refine ⟨by rw [List.all_cons,hd u h];rfl,by (show ((UInt8.ofNat (48+u)).toNat - 48)*10 ^ 0+0=u;rw [hb u h];omega),by simp,fun h1 e=>?_⟩
    have:=hb u h
    have e2:UInt8.ofNat (48+u)=48:=e
    rw [e2] at this
    have h48:(48:UInt8).toNat=48:=rfl
    omega
   ·rw [dif_neg h]
    obtain ⟨a1,a2,a3,a4⟩:=ih (u / 10) (by omega)
    have hm:u % 10 < 10:=Nat.mod_lt _ (by decide)
    refine ⟨by rw [List.all_append,a1,List.all_cons,hd _ hm];rfl,?_,by simp,fun _=>?_⟩
    ·rw [zbv,a2]
     simp [valD];omega
    ·have:=a4 (by omega)
     cases hl:Lib.decDigits (u / 10) with
     | nil=>exact absurd hl a3
     | cons c r=>rw [hl] at this;exact this
theorem dec_len (u:Nat) (h:u≤9223372036854775808):(Lib.decDigits u).length≤19:=by
 obtain ⟨a1,a2,a3,a4⟩:=zpq u
 by_cases h0:u=0
 ·rw [h0,Lib.decDigits];simp
 ·have a5:=a4 (by omega)
  cases hl:Lib.decDigits u with
  | nil=>exact absurd hl a3
  | cons c r=>
    rw [hl] at a1 a2 a5
    rw [List.all_cons,Bool.and_eq_true] at a1
    have hc:=zlu a1.1
    have hc0:c.toNat≠48:=fun e=>a5 (UInt8.toNat_inj.1 e)
    rcases Nat.lt_or_ge r.length 19 with k | k
    ·simp;omega
    ·exfalso
     have h3:10 ^ 19≤10 ^ r.length:=Nat.pow_le_pow_right (by decide) k
     have h4:1*10 ^ r.length≤(c.toNat - 48)*10 ^ r.length:=Nat.mul_le_mul_right _ (by omega)
     have h5:(c.toNat - 48)*10 ^ r.length+valD r=u:=a2
     omega
theorem zsl (neg:Bool) (u:Nat) (hu:neg=true→1≤u) (hl:(Lib.decDigits u).length≤40):chk ((if neg then [45] else [])++Lib.decDigits u++[46,48])=true:=by
 obtain ⟨a1,a2,a3,a4⟩:=zpq u
 have hw:wr neg (Lib.decDigits u) [48]=some ((if neg then [45] else [])++Lib.decDigits u++[46,48]):=by
  unfold wr
  have t2:Lib.trimRightB [48] 48=[]:=by decide
  by_cases h0:u=0
  ·have e:Lib.decDigits u=[48]:=by rw [h0,Lib.decDigits];rfl
   have hn:neg=false:=by
    cases neg with
    | false=>rfl
    | true=>exact absurd (hu rfl) (by omega)
   rw [e,hn]
   decide
  ·have t1:Lib.trimLeftB (Lib.decDigits u) 48=Lib.decDigits u:=zsk fun c r e=>by
    have:=a4 (by omega)
    rw [e] at this;exact this
   simp only [t1,t2,List.append_nil]
   rw [if_neg (by simp;omega)]
   have e2:(Lib.decDigits u).isEmpty=false:=by
    cases hx:Lib.decDigits u with
    | nil=>exact absurd hx a3
    | cons c r=>rfl
   have e3:orN (Lib.decDigits u)=Lib.decDigits u:=by unfold orN;rw [e2];rfl
   rw [e2,e3]
   cases neg <;> simp [orN]
 unfold chk zhk
 have hs:=zem neg (Lib.decDigits u) [48] a1 a3 (by decide) (by decide)
 have e4:(if neg then [45] else [])++Lib.decDigits u++[46,48]=(if neg then [45] else [])++(Lib.decDigits u++46::[48]):=by simp
 rw [e4] at hw ⊢
 rw [hs]
 simp only [Option.map_some]
 rw [hw]
 simp
theorem bs_size (l:List UInt8):(bs l).size=l.length:=by simp [ByteArray.size]
theorem zt2 (neg:Bool) (u:Nat):dval ((if neg then [45] else [])++Lib.decDigits u++[46,48])=(if neg then -(u:Int) else u)*10 ^ 54:=by
 obtain ⟨a1,a2,a3,a4⟩:=zpq u
 have hs:=zem neg (Lib.decDigits u) [48] a1 a3 (by decide) (by decide)
 have hl:(if neg then [45] else [])++Lib.decDigits u++[46,48]=(if neg then [45] else [])++(Lib.decDigits u++46::[48]):=by simp
 rw [hl]
 unfold dval zc2 damt
 rw [hs]
 show sv neg (ze8 (Lib.decDigits u) [48])=_
 have hn:ze8 (Lib.decDigits u) [48]=u*10 ^ 54:=by
  unfold ze8
  rw [a2,show valD [48]=0 from rfl,Nat.zero_mul,Nat.add_zero]
 rw [hn]
 unfold sv
 cases neg
 ·simp
 ·simp [Int.neg_mul]
def intT (n:Int):ByteArray:=bs (Lib.itoa n)++⟨#[46,48]⟩
theorem zlw (n:Int) (h0:-9223372036854775808≤n) (h1:n≤9223372036854775807):chk (intT n).data.toList=true∧dval (intT n).data.toList=n*10 ^ 54∧(intT n).size≤100∧(bs (Lib.itoa n)).size≤20:=by
 have key:∀ (neg:Bool) (u:Nat),(if neg then -(u:Int) else u)=n→(neg=true→1≤u)→Lib.itoa n=(if neg then [45] else [])++Lib.decDigits u→u≤9223372036854775808→
  chk (intT n).data.toList=true∧dval (intT n).data.toList=n*10 ^ 54∧(intT n).size≤100∧(bs (Lib.itoa n)).size≤20:=by
  intro neg u hn hu hit hub
  have hlen:=dec_len u hub
  have hT:(intT n).data.toList=(if neg then [45] else [])++Lib.decDigits u++[46,48]:=by
   unfold intT
   rw [ByteArray.data_append,Array.toList_append,hit]
  have hsz:(bs (Lib.itoa n)).size≤20:=by
   rw [bs_size,hit,List.length_append]
   cases neg <;> simp <;> omega
  refine ⟨by rw [hT];exact zsl neg u hu (by omega),by rw [hT,zt2,hn],?_,hsz⟩
  have h5:(intT n).data.toList.length=(intT n).size:=Array.length_toList
  rw [← h5,hT]
  simp only [List.length_append,List.length_cons,List.length_nil]
  split <;> simp <;> omega
 by_cases hneg:n < 0
 ·obtain ⟨u,hu⟩:∃ u:Nat,n=-(u:Int):=⟨n.natAbs,by omega⟩
  have hit:Lib.itoa n=45::Lib.decDigits u:=by rw [hu];exact Lib.itoa_neg u (by omega)
  exact key true u hu.symm (fun _=>by omega) hit (by omega)
 ·obtain ⟨u,rfl⟩:=Int.eq_ofNat_of_zero_le (Int.not_lt.1 hneg)
  exact key false u rfl (fun h=>by cases h) (Lib.itoa_nonneg u) (by omega)
mutual
def zb8:Val→Val→Bool
 | .mk k b n t x l,.mk k2 b2 n2 t2 x2 l2=>(k == k2) && ((b == b2) && ((n == n2) && ((t.toList == t2.toList) && ((x.toList == x2.toList) && ((l.length == l2.length) && za8 l l2)))))
def za8:List Val→List Val→Bool
 | v::r,v2::r2=>zb8 v v2 && za8 r r2
 | _,_=>true
end
theorem zff:(l l2:List Val)→∀ (i:Nat) (h:i < l.length) (h2:i < l2.length),zb8 l[i] l2[i]=false→za8 l l2=false
 | [],_,i,h,_,_=>absurd h (by simp)
 | _::_,[],i,_,h2,_=>absurd h2 (by simp)
 | v::r,v2::r2,i,h,h2,e=>by
   unfold za8
   match i,h,h2 with
   | 0,_,_=>rw [show zb8 v v2=false from e];rfl
   | i+1,h,h2=>rw [zff r r2 i (by simpa using h) (by simpa using h2) e,Bool.and_false]
theorem zen:(l l2:List Val)→(∀ (i:Nat) (h:i < l.length) (h2:i < l2.length),zb8 l[i] l2[i]=true)→za8 l l2=true
 | [],_,_=>by unfold za8;rfl
 | _::_,[],_=>by unfold za8;rfl
 | v::r,v2::r2,h=>by
   unfold za8
   rw [show zb8 v v2=true from h 0 (by simp) (by simp),Bool.true_and]
   exact zen r r2 fun i h1 h2=>h (i+1) (by simpa using h1) (by simpa using h2)
structure zpr (w:World) (g off:Nat) (v:Val) (k:Int) (b:Bool) (n:Int) (t x:ByteArray) (q:List Val) (p:Option Addr) (cap:Nat):Prop where
 e:v=.mk k b n t x q
 c0:w.cell? ⟨g,off,none⟩=some (.int .i64 k)
 c1:w.cell? ⟨g,off+1,none⟩=some (.bool b)
 c2:w.cell? ⟨g,off+2,none⟩=some (.int .i64 n)
 c3:w.cell? ⟨g,off+3,none⟩=some (.string t)
 c4:w.cell? ⟨g,off+4,none⟩=some (.string x)
 c5:w.cell? ⟨g,off+5,none⟩=some (.slice p q.length cap)
 hf:Fine n t x q.length
 hl:Held w (.slice p q.length cap) q
theorem zay.opens {w:World} {g off:Nat}:{v:Val}→zay w g off v→∃ k b n t x q p cap,zpr w g off v k b n t x q p cap
 | .mk k b n t x q,h=>by
   unfold zay at h
   obtain ⟨h0,h1,h2,h3,h4,hf,L,h5,hl⟩:=h
   obtain ⟨p,cap,rfl⟩:=zdm hl
   exact ⟨k,b,n,t,x,q,p,cap,rfl,h0,h1,h2,h3,h4,h5,hf,hl⟩
theorem Held.form {w:World} {p:Option Addr} {cap n:Nat} {v:Val} {r:List Val} (h:Held w (.slice p n cap) (v::r)):∃ g off,p=some ⟨g,off,none⟩∧zar w g off (v::r):=by
 unfold Held at h
 obtain ⟨g,off,cap',e,hv,hr⟩:=h
 cases e
 refine ⟨g,off,rfl,?_⟩
 unfold zar
 exact ⟨hv,hr⟩
def zlx (v:Val):Prop:=∀ (W:World) (k:Int) (b:Bool) (n:Int) (t x:ByteArray) (q:List Val) (p:Option Addr) (cap:Nat) (v2:Val) (k2:Int) (b2:Bool) (n2:Int) (t2 x2:ByteArray) (q2:List Val) (p2:Option Addr) (cap2:Nat),
 v=.mk k b n t x q→v2=.mk k2 b2 n2 t2 x2 q2→q.length≤2097152→Held W (.slice p q.length cap) q→Held W (.slice p2 q2.length cap2) q2→
 Calls Tryz.prog 76 #[.agg #[.int .i64 k,.bool b,.int .i64 n,.string t,.string x,.slice p q.length cap],.agg #[.int .i64 k2,.bool b2,.int .i64 n2,.string t2,.string x2,.slice p2 q2.length cap2]] W
  fun e w'=>e=.returned (.bool (zb8 v v2))∧Low W.heap.size W w'
theorem zt3 (p p2:Option Addr) (n n2 cap cap2:Nat) (w:World) (h:¬ n=n2):
 Calls Tryz.prog 103 #[.slice p n cap,.slice p2 n2 cap2,.func (.func 76) #[] #[]] w fun e w'=>e=.returned (.bool false)∧Low w.heap.size w w':=by
 have h1:((n:Int) != n2)=true:=by simp;omega
 clear h
 go_enter Tryz.func103,Tryz.ntmps103
 go_wp2_with fail
 go_ret
 exact ⟨rfl,Low.refl _ _⟩
theorem zsm (p p2:Option Addr) (cap cap2:Nat) (w:World):
 Calls Tryz.prog 103 #[.slice p 0 cap,.slice p2 0 cap2,.func (.func 76) #[] #[]] w fun e w'=>e=.returned (.bool true)∧Low w.heap.size w w':=by
 go_enter Tryz.func103,Tryz.ntmps103
 go_wp2_with fail
 go_loopw [17] (fun i wr=>i=.int .i64 0∧wr=w) (fun _ _=>0)
 case atStart=>exact ⟨rfl,rfl⟩
 case round=>
  obtain ⟨rfl,rfl⟩:=hrel
  go_wp2_with fail
  go_ret
  exact ⟨rfl,Low.refl _ _⟩
theorem zsn (l l2:List Val) (g off cap g2 off2 cap2:Nat) (w:World) (hl:zar w g off l) (hl2:zar w g2 off2 l2) (hlen:l2.length=l.length) (hn:l.length≤2097152) (each:∀ v∈l,zlx v):
 Calls Tryz.prog 103 #[.slice (some ⟨g,off,none⟩) l.length cap,.slice (some ⟨g2,off2,none⟩) l.length cap2,.func (.func 76) #[] #[]] w fun e w'=>e=.returned (.bool (za8 l l2))∧Low w.heap.size w w':=by
 have HH:=Lib.hid hl
 have HH2:=Lib.hid hl2
 have HE:=Lib.hid each
 have HL:=Lib.hid hlen
 clear hl hl2 each hlen
 go_enter Tryz.func103,Tryz.ntmps103
 go_wp2_with fail
 go_loopw [17] (fun i wr=>∃ j:Nat,j≤l.length∧i=.int .i64 j∧Low w.heap.size w wr∧∀ (i:Nat) (h:i < l.length) (h2:i < l2.length),i < j→zb8 l[i] l2[i]=true) (fun i _=>l.length - (intOf i).toNat)
 case atStart=>exact ⟨0,Nat.zero_le _,rfl,Low.refl _ _,fun _ _ _ h=>absurd h (by omega)⟩
 case round=>
  obtain ⟨j,hj,rfl,hb,hall⟩:=hrel
  have HA:=Lib.hid hall
  clear hall
  by_cases hlt:j < l.length
  ·have hlt2:j < l2.length:=by have:=HL.out;omega
   obtain ⟨k,b,n,t,x,q,p,cp,o1⟩:=((zar.at_ l off HH.out j hlt).below _ hb.is).opens
   obtain ⟨k2,b2,n2,t2,x2,q2,p2,cp2,o2⟩:=((zar.at_ l2 off2 HH2.out j hlt2).below _ hb.is).opens
   obtain ⟨c1,hc1⟩:∃ c1,c1=Obj.cells #[.int .i64 k,.bool b,.int .i64 n,.string t,.string x,.slice p q.length cp] 39:=⟨_,rfl⟩
   obtain ⟨c2,hc2⟩:∃ c2,c2=Obj.cells #[.int .i64 k2,.bool b2,.int .i64 n2,.string t2,.string x2,.slice p2 q2.length cp2] 39:=⟨_,rfl⟩
   have bb:=low2 wr c1 c2
   have hc:=HE.out l[j] (List.getElem_mem hlt) ((wr.alloc c1).alloc c2) k b n t x q p cp l2[j] k2 b2 n2 t2 x2 q2 p2 cp2 o1.e o2.e o1.hf.hn (Held.below q o1.hl bb.is) (Held.below q2 o2.hl bb.is)
   obtain ⟨r,hr⟩:∃ r,r=zb8 l[j] l2[j]:=⟨_,rfl⟩
   rw [← hr] at hc
   have l0:Six ((wr.alloc c1).alloc c2) wr.heap.size k b n t x p q.length cp:=by rw [hc1];exact (zaf _ rfl).alloc _
   have l1:Six ((wr.alloc c1).alloc c2) (wr.heap.size+1) k2 b2 n2 t2 x2 p2 q2.length cp2:=by rw [hc2];exact zaf _ (by simp)
   have hs:w.heap.size≤wr.heap.size:=hb.size
   have b0:Low w.heap.size w ((wr.alloc c1).alloc c2):=(hb.alloc hs _).alloc (by simp;omega) _
   have z0:w.heap.size≤((wr.alloc c1).alloc c2).heap.size:=b0.size
   have oo2:zpr (wr.alloc c1) g2 (off2+j*6) l2[j] k2 b2 n2 t2 x2 q2 p2 cp2:=by
    have h1:=low1 wr c1
    have hg:=World.block_lt_of_cell? wr _ o2.c0
    exact ⟨o2.e,(h1.cell (p:=⟨g2,off2+j*6,none⟩) hg).trans o2.c0,(h1.cell (p:=⟨g2,off2+j*6+1,none⟩) hg).trans o2.c1,(h1.cell (p:=⟨g2,off2+j*6+2,none⟩) hg).trans o2.c2,(h1.cell (p:=⟨g2,off2+j*6+3,none⟩) hg).trans o2.c3,
     (h1.cell (p:=⟨g2,off2+j*6+4,none⟩) hg).trans o2.c4,(h1.cell (p:=⟨g2,off2+j*6+5,none⟩) hg).trans o2.c5,o2.hf,Held.below q2 o2.hl h1.is⟩
   have O1:=Lib.hid o1
   have O2:=Lib.hid oo2
   have HR:=Lib.hid hr
   clear o1 o2 oo2 bb hr
   subst hc1 hc2
   cases r with
   | true=>
     go_wp2_with (first
      |((with_reducible refine zax (.tmp 20) g (off+j*6) k b n t x (.slice p q.length cp) O1.out.c0 O1.out.c1 O1.out.c2 O1.out.c3 O1.out.c4 O1.out.c5 ?_ ?_ ?_ ?_);rfl;rfl;rfl)
      |((with_reducible refine zax (.tmp 24) g2 (off2+j*6) k2 b2 n2 t2 x2 (.slice p2 q2.length cp2) O2.out.c0 O2.out.c1 O2.out.c2 O2.out.c3 O2.out.c4 O2.out.c5 ?_ ?_ ?_ ?_);rfl;rfl;rfl)
      |((with_reducible refine zaa (.tmp 8) wr.heap.size l0 ?_ ?_ ?_ ?_);rfl;rfl;rfl)
      |((with_reducible refine zaa (.tmp 9) (wr.heap.size+1) l1 ?_ ?_ ?_ ?_);rfl;rfl;rfl)
      |(go_at_call 76;(with_reducible refine hc.mono ?_);rintro e w3 ⟨rfl,hb3⟩;have b3:=zad b0 hb3 z0))
     go_roundw
     case rel=>
      refine ⟨j+1,by omega,by go_num,b3,fun i hi hi2 hlt'=>?_⟩
      by_cases e:i=j
      ·subst e;exact HR.out.symm
      ·exact HA.out i hi hi2 (by omega)
     case measure=>simp [intOf];omega
   | false=>
     go_wp2_with (first
      |((with_reducible refine zax (.tmp 20) g (off+j*6) k b n t x (.slice p q.length cp) O1.out.c0 O1.out.c1 O1.out.c2 O1.out.c3 O1.out.c4 O1.out.c5 ?_ ?_ ?_ ?_);rfl;rfl;rfl)
      |((with_reducible refine zax (.tmp 24) g2 (off2+j*6) k2 b2 n2 t2 x2 (.slice p2 q2.length cp2) O2.out.c0 O2.out.c1 O2.out.c2 O2.out.c3 O2.out.c4 O2.out.c5 ?_ ?_ ?_ ?_);rfl;rfl;rfl)
      |((with_reducible refine zaa (.tmp 8) wr.heap.size l0 ?_ ?_ ?_ ?_);rfl;rfl;rfl)
      |((with_reducible refine zaa (.tmp 9) (wr.heap.size+1) l1 ?_ ?_ ?_ ?_);rfl;rfl;rfl)
      |(go_at_call 76;(with_reducible refine hc.mono ?_);rintro e w3 ⟨rfl,hb3⟩;have b3:=zad b0 hb3 z0))
     go_ret
     exact ⟨by rw [zff l l2 j hlt hlt2 HR.out.symm];rfl,b3⟩
  ·go_wp2_with fail
   go_ret
   exact ⟨by rw [zen l l2 fun i h h2=>HA.out i h h2 (by omega)];rfl,hb⟩
theorem zwf (l l2:List Val) (p p2:Option Addr) (cap cap2:Nat) (w:World) (hl:Held w (.slice p l.length cap) l) (hl2:Held w (.slice p2 l2.length cap2) l2) (hn:l.length≤2097152) (each:∀ v∈l,zlx v):
 Calls Tryz.prog 103 #[.slice p l.length cap,.slice p2 l2.length cap2,.func (.func 76) #[] #[]] w fun e w'=>e=.returned (.bool ((l.length == l2.length) && za8 l l2))∧Low w.heap.size w w':=by
 by_cases h:l.length=l2.length
 ·rw [show (l.length == l2.length)=true by simpa using h,Bool.true_and,← h]
  cases l with
  | nil=>
    unfold za8
    exact zsm _ _ _ _ _
  | cons v r=>
    cases l2 with
    | nil=>simp at h
    | cons v2 r2=>
      obtain ⟨g,off,rfl,hh⟩:=hl.form
      obtain ⟨g2,off2,rfl,hh2⟩:=hl2.form
      exact zsn (v::r) (v2::r2) g off cap g2 off2 cap2 w hh hh2 h.symm hn each
 ·rw [show (l.length == l2.length)=false by simpa using h,Bool.false_and]
  exact zt3 p p2 _ _ cap cap2 w h
theorem zt4 (v:Val) (k:Int) (b:Bool) (n:Int) (t x:ByteArray) (q:List Val) (ev:v=.mk k b n t x q) (each:∀ u∈q,zlx u):zlx v:=by
 subst ev
 intro W k1 b1 n1 t1 x1 q1 p cap v2 k2 b2 n2 t2 x2 q2 p2 cap2 e1 e2 hn hl hl2
 cases e1
 subst e2
 unfold zb8
 obtain ⟨c1,hc1⟩:∃ c1,c1=Obj.cells #[.int .i64 k,.bool b,.int .i64 n,.string t,.string x,.slice p q.length cap] 39:=⟨_,rfl⟩
 obtain ⟨c2,hc2⟩:∃ c2,c2=Obj.cells #[.int .i64 k2,.bool b2,.int .i64 n2,.string t2,.string x2,.slice p2 q2.length cap2] 39:=⟨_,rfl⟩
 have b0:=low2 W c1 c2
 have hc:=zwf q q2 p p2 cap cap2 ((W.alloc c1).alloc c2) (Held.below q hl b0.is) (Held.below q2 hl2 b0.is) hn each
 have l0:Six ((W.alloc c1).alloc c2) W.heap.size k b n t x p q.length cap:=by rw [hc1];exact (zaf _ rfl).alloc _
 have l1:Six ((W.alloc c1).alloc c2) (W.heap.size+1) k2 b2 n2 t2 x2 p2 q2.length cap2:=by rw [hc2];exact zaf _ (by simp)
 have z0:=b0.size
 have f0:=l0.c0
 have f1:=l0.c1
 have f2:=l0.c2
 have f3:=l0.c3
 have f4:=l0.c4
 have f5:=l0.c5
 have g0:=l1.c0
 have g1:=l1.c1
 have g2:=l1.c2
 have g3:=l1.c3
 have g4:=l1.c4
 have g5:=l1.c5
 clear l0 l1 hl hl2 each hn
 subst hc1 hc2
 cases a0:(k == k2) with
 | false=>
   rw [Bool.false_and]
   go_enter Tryz.func76,Tryz.ntmps76
   go_wp2_with fail
   go_ret
   exact ⟨rfl,b0⟩
 | true=>
   rw [Bool.true_and]
   cases a1:(b == b2) with
   | false=>
     rw [Bool.false_and]
     go_enter Tryz.func76,Tryz.ntmps76
     go_wp2_with fail
     go_ret
     exact ⟨rfl,b0⟩
   | true=>
     rw [Bool.true_and]
     cases a2:(n == n2) with
     | false=>
       rw [Bool.false_and]
       go_enter Tryz.func76,Tryz.ntmps76
       go_wp2_with fail
       go_ret
       exact ⟨rfl,b0⟩
     | true=>
       rw [Bool.true_and]
       cases a3:(t.toList == t2.toList) with
       | false=>
         rw [Bool.false_and]
         go_enter Tryz.func76,Tryz.ntmps76
         go_wp2_with fail
         go_ret
         exact ⟨rfl,b0⟩
       | true=>
         rw [Bool.true_and]
         cases a4:(x.toList == x2.toList) with
         | false=>
           rw [Bool.false_and]
           go_enter Tryz.func76,Tryz.ntmps76
           go_wp2_with fail
           go_ret
           exact ⟨rfl,b0⟩
         | true=>
           rw [Bool.true_and]
           generalize (q.length == q2.length && za8 q q2)=r at hc ⊢
           go_enter Tryz.func76,Tryz.ntmps76
           go_wp2_with (go_at_call 103;(with_reducible refine hc.mono ?_);rintro e w3 ⟨rfl,hb3⟩;replace b0:=zad b0 hb3 z0)
           go_ret
           exact ⟨rfl,b0⟩
mutual
theorem zt5:(v:Val)→zlx v
 | .mk k b n t x q=>zt4 _ k b n t x q rfl (zq3 q)
theorem zq3:(q:List Val)→∀ u∈q,zlx u
 | [],_,h=>absurd h (by simp)
 | v::r,u,h=>by
   rcases List.mem_cons.1 h with h | h
   ·rw [h];exact zt5 v
   ·exact zq3 r u h
end
def numV (k n:Int) (t:ByteArray):Int:=if k=2 then n*10 ^ 54 else if chk t.data.toList then dval t.data.toList else 0
def Says (z:Int) (s:ByteArray):Prop:=chk s.data.toList=true∧dval s.data.toList=z∧s.size < 4294967281
theorem zn6 (n:Int) (h0:-9223372036854775808≤n) (h1:n≤9223372036854775807) (w:World) (hT:Tab w):
 Calls Tryz.prog 207 #[.int .i64 n] w fun e w'=>∃ s,e=.returned (.string s)∧Says (n*10 ^ 54) s∧Low w.heap.size w w':=by
 obtain ⟨f1,f2,f3,f4⟩:=zlw n h0 h1
 refine (ofIntAt n h0 h1 w hT _ rfl f4).mono ?_
 rintro e w' ⟨rfl,hb⟩
 exact ⟨_,rfl,⟨f1,f2,show (intT n).size < _ by omega⟩,hb⟩
theorem zkl (k:Int) (b:Bool) (n:Int) (t x:ByteArray) (p:Option Addr) (len cap:Nat) (w:World) (hG:Gd w) (hT:Tab w) (hf:Fine n t x len):
 Calls Tryz.prog 194 #[.agg #[.int .i64 k,.bool b,.int .i64 n,.string t,.string x,.slice p len cap]] w fun e w'=>∃ s,e=.returned (.string s)∧Says (numV k n t) s∧Low w.heap.size w w':=by
 have l0:=zaf (k:=k) (b:=b) (n:=n) (t:=t) (x:=x) (p:=p) (len:=len) (cap:=cap) w rfl
 have b0:=low1 w (.cells #[.int .i64 k,.bool b,.int .i64 n,.string t,.string x,.slice p len cap] 39)
 have g0:=hG.below b0.is
 have t0:=hT.below b0.is
 have z0:=b0.size
 have f0:=l0.c0
 have f2:=l0.c2
 have f3:=l0.c3
 have HF:=Lib.hid hf
 by_cases h2:k=2
 ·subst h2
  obtain ⟨z,hz⟩:∃ z,z=numV 2 n t:=⟨_,rfl⟩
  have hc:=fun W hW=>zn6 n HF.out.lo HF.out.hi W hW
  have e:numV 2 n t=n*10 ^ 54:=by unfold numV;rw [if_pos rfl]
  rw [← e,← hz] at hc
  rw [← hz]
  have HC:=Lib.hid hc
  clear hc hz e l0 hf
  go_enter Tryz.func194,Tryz.ntmps194
  go_wp2_with (go_at_call 207;(with_reducible refine (HC.out _ t0).mono ?_);rintro e w1 ⟨s,rfl,hs,hb⟩;have HS:=Lib.hid hs;clear hs;replace b0:=zad b0 hb z0)
  go_ret
  exact ⟨s,rfl,HS.out,b0⟩
 ·have e2:(k == 2)=false:=by simpa using h2
  cases hk:chk t.data.toList with
  | true=>
    have e:numV k n t=dval t.data.toList:=by unfold numV;rw [if_neg h2,if_pos hk]
    rw [e]
    have hsay:Hid (Says (dval t.data.toList) t):=Lib.hid ⟨hk,rfl,by have:=hf.ht;omega⟩
    have hc:=fun W hW=>zmp t W hW (by have:=hf.ht;omega)
    rw [hk] at hc
    have b9:=b0
    clear h2 e hk l0 hf
    generalize dval t.data.toList=z at hsay ⊢
    go_enter Tryz.func194,Tryz.ntmps194
    go_wp2_with (go_at_call 108;(with_reducible refine (hc _ g0).mono ?_);rintro e w1 ⟨rfl,hb⟩;have c3:=(hb.cell (p:=⟨w.heap.size,3,none⟩) (World.block_lt_of_cell? _ _ f3)).trans f3;replace b9:=zad b0 hb z0)
    go_ret
    exact ⟨t,rfl,hsay.out,b9⟩
  | false=>
    have e:numV k n t=0:=by unfold numV;rw [if_neg h2,if_neg (by simp [hk])]
    rw [e]
    have hc:=fun W hW=>zmp t W hW (by have:=hf.ht;omega)
    rw [hk] at hc
    have hd:=fun W hW=>zn6 0 (by omega) (by omega) W hW
    rw [Int.zero_mul] at hd
    have HD:=Lib.hid hd
    have b9:=b0
    clear h2 e hk l0 hf hd
    go_enter Tryz.func194,Tryz.ntmps194
    go_wp2_with (first
     |(go_at_call 108;(with_reducible refine (hc _ g0).mono ?_);rintro e w1 ⟨rfl,hb⟩;have t1:=t0.below hb.is;replace b9:=zad b0 hb z0)
     |(go_at_call 207;(with_reducible refine (HD.out _ t1).mono ?_);rintro e w2 ⟨s,rfl,hs,hb2⟩;have HS:=Lib.hid hs;clear hs;replace b9:=zad b9 hb2 b9.size))
    go_ret
    exact ⟨s,rfl,HS.out,b9⟩
theorem zly (a b:Int):cmpZ (a*10 ^ 54) (b*10 ^ 54)=cmpZ a b:=by
 obtain ⟨P,hP⟩:∃ P:Int,P=10 ^ 54:=⟨_,rfl⟩
 have hp:0 < P:=by rw [hP];decide
 rw [← hP]
 clear hP
 unfold cmpZ
 by_cases h:a < b
 ·rw [if_pos h,if_pos (Int.mul_lt_mul_of_pos_right h hp)]
 ·rw [if_neg h,if_neg (fun h2=>h (Int.lt_of_mul_lt_mul_right h2 (Int.le_of_lt hp)))]
  by_cases h3:b < a
  ·rw [if_pos h3,if_pos (Int.mul_lt_mul_of_pos_right h3 hp)]
  ·rw [if_neg h3,if_neg (fun h2=>h3 (Int.lt_of_mul_lt_mul_right h2 (Int.le_of_lt hp)))]
theorem zmv (a b:Int) (w:World):Calls Tryz.prog 167 #[.int .i64 a,.int .i64 b] w fun e w'=>e=.returned (.int .i64 (cmpZ a b))∧Low w.heap.size w w':=by
 by_cases h:a < b
 ·have e:cmpZ a b=-1:=by unfold cmpZ;rw [if_pos h]
  rw [e]
  clear e
  go_enter Tryz.func167,Tryz.ntmps167
  go_wp2
  go_ret
  exact ⟨rfl,Low.refl _ _⟩
 ·by_cases h2:b < a
  ·have e:cmpZ a b=1:=by unfold cmpZ;rw [if_neg h,if_pos h2]
   rw [e]
   clear e
   go_enter Tryz.func167,Tryz.ntmps167
   go_wp2
   go_ret
   exact ⟨rfl,Low.refl _ _⟩
  ·have e:cmpZ a b=0:=by unfold cmpZ;rw [if_neg h,if_neg h2]
   rw [e]
   obtain rfl:a=b:=by omega
   clear e h2 h
   go_enter Tryz.func167,Tryz.ntmps167
   go_wp2
   go_ret
   exact ⟨rfl,Low.refl _ _⟩
theorem Six.range {w:World} {g:Nat} {k:Int} {b:Bool} {n:Int} {t x:ByteArray} {p:Option Addr} {len cap:Nat} (h:Six w g k b n t x p len cap):w.rangeAt g 0 [.int .i64 k,.bool b,.int .i64 n,.string t,.string x,.slice p len cap]:=by
 have:=zcy (g:=g) (off:=0) h.c0 h.c1 h.c2 h.c3 h.c4 h.c5
 exact this
theorem zhq {ops:Array Oper} {S:World→Prop} {op:Oper} {a:Act} {k:Int} {b:Bool} {n:Int} {t x:ByteArray} {p:Option Addr} {len cap:Nat} (hw:Region.wanted op (yielded ops a.tmps)=true) (y:Operand) (ho:op.op=.load 39 y) (g:Nat) (hx:a.eval y=.pointer (some ⟨g,0,none⟩))
 (hS:∀ w,S w→Six w g k b n t x p len cap):YieldsIf Tryz.prog ops S op (.agg #[.int .i64 k,.bool b,.int .i64 n,.string t,.string x,.slice p len cap]) a:=
 yieldsIf_load_mid hw 39 y ho g 0 hx [.int .i64 k,.bool b,.int .i64 n,.string t,.string x,.slice p len cap] _ (fun w h=>(hS w h).range) Tryz.underlying39 rfl zas
theorem cmpSays {z z2:Int} {s s2:ByteArray} (h:Says z s) (h2:Says z2 s2) (w:World) (hG:Gd w):
 Calls Tryz.prog 193 #[.string s,.string s2] w fun e w'=>e=.returned (.int .i64 (cmpZ z z2))∧Low w.heap.size w w':=by
 have:=cmpYes s s2 w hG h.2.2 h2.2.2 h.1 h2.1
 rwa [h.2.1,h2.2.1] at this
theorem zt6 (k:Int) (b:Bool) (n:Int) (t x:ByteArray) (p:Option Addr) (len cap:Nat) (k2:Int) (b2:Bool) (n2:Int) (t2 x2:ByteArray) (p2:Option Addr) (len2 cap2:Nat) (w:World) (hG:Gd w) (hT:Tab w) (hf:Fine n t x len) (hf2:Fine n2 t2 x2 len2):
 Calls Tryz.prog 182 #[.agg #[.int .i64 k,.bool b,.int .i64 n,.string t,.string x,.slice p len cap],.agg #[.int .i64 k2,.bool b2,.int .i64 n2,.string t2,.string x2,.slice p2 len2 cap2]] w fun e w'=>e=.returned (.int .i64 (cmpZ (numV k n t) (numV k2 n2 t2)))∧Low w.heap.size w w':=by
 obtain ⟨W0,hW0⟩:∃ W0,W0=(w.alloc (.cells #[.int .i64 k,.bool b,.int .i64 n,.string t,.string x,.slice p len cap] 39)).alloc (.cells #[.int .i64 k2,.bool b2,.int .i64 n2,.string t2,.string x2,.slice p2 len2 cap2] 39):=⟨_,rfl⟩
 have l0:Six W0 w.heap.size k b n t x p len cap:=by rw [hW0];exact (zaf _ rfl).alloc _
 have l1:Six W0 (w.heap.size+1) k2 b2 n2 t2 x2 p2 len2 cap2:=by rw [hW0];exact zaf _ (by simp)
 have b0:Low w.heap.size w W0:=by rw [hW0];exact low2 _ _ _
 have hB:=fun W=>zip 2 k b n t x (.slice p len cap) k2 b2 n2 t2 x2 (.slice p2 len2 cap2) W
 have HF:=Lib.hid (And.intro hf hf2)
 have H0:=Lib.hid hW0
 clear hf hf2 hW0
 cases hb:(k == 2 && k2 == 2) with
 | true=>
   rw [Bool.and_eq_true,beq_iff_eq,beq_iff_eq] at hb
   have e:cmpZ (numV k n t) (numV k2 n2 t2)=cmpZ n n2:=by unfold numV;rw [if_pos hb.1,if_pos hb.2,zly]
   have hbb:(k == 2 && k2 == 2)=true:=by simp [hb.1,hb.2]
   rw [hbb] at hB
   have hc:=fun W=>zmv n n2 W
   rw [e]
   rw [show cmpZ n n2=cmpZ n n2 from rfl]
   generalize cmpZ n n2=r at hc ⊢
   clear hb hbb e
   go_enter Tryz.func182,Tryz.ntmps182
   go_wp2_with (first
    |(rw [← H0.out];(with_reducible refine zaa (.tmp 2) w.heap.size l0 ?_ ?_ ?_ ?_);rfl;rfl;rfl)
    |((with_reducible refine zaa (.tmp 3) (w.heap.size+1) l1 ?_ ?_ ?_ ?_);rfl;rfl;rfl)
    |(go_at_call 183;(with_reducible refine (hB _).mono ?_);rintro e w1 ⟨rfl,hb1⟩;have d0:=(l0.below hb1.is).c2;have d1:=(l1.below hb1.is).c2;have b1:=zad b0 hb1 b0.size)
    |(go_at_call 167;(with_reducible refine (hc _).mono ?_);rintro e w2 ⟨rfl,hb2⟩;replace b1:=zad b1 hb2 b1.size))
   go_ret
   exact ⟨rfl,b1⟩
 | false=>
   rw [hb] at hB
   clear hb
   have hc1:=fun W hW hW2=>zkl k b n t x p len cap W hW hW2 HF.out.1
   have hc2:=fun W hW hW2=>zkl k2 b2 n2 t2 x2 p2 len2 cap2 W hW hW2 HF.out.2
   generalize numV k n t=z at hc1 ⊢
   generalize numV k2 n2 t2=z2 at hc2 ⊢
   have HC1:=Lib.hid hc1
   have HC2:=Lib.hid hc2
   clear hc1 hc2
   go_enter Tryz.func182,Tryz.ntmps182
   go_wp2_with (first
    |(rw [← H0.out];(with_reducible refine zaa (.tmp 2) w.heap.size l0 ?_ ?_ ?_ ?_);rfl;rfl;rfl)
    |((with_reducible refine zaa (.tmp 3) (w.heap.size+1) l1 ?_ ?_ ?_ ?_);rfl;rfl;rfl)
    |(go_at_call 183;(with_reducible refine (hB _).mono ?_);rintro e w1 ⟨rfl,hb1⟩;have d0:=l0.below hb1.is;have d1:=l1.below hb1.is;have b1:=zad b0 hb1 b0.size))
   refine wp_region_held_drew (S:=fun w'=>Six w' w.heap.size k b n t x p len cap∧Six w' (w.heap.size+1) k2 b2 n2 t2 x2 p2 len2 cap2∧Low w.heap.size w w') (by kernel_rfl) ⟨d0,d1,b1.drew⟩ (fun hHeld=>?_)
   refine tk (i:=0) rfl (zhq (by rfl) (.tmp 2) rfl w.heap.size rfl (fun _ h=>h.1)) hHeld ?_
   try simp only [Act.put,List.setIfInBounds_toArray,List.set_cons_zero,List.set_cons_succ]
   refine tk (i:=2) rfl (zhq (by rfl) (.tmp 3) rfl (w.heap.size+1) rfl (fun _ h=>h.2.1)) hHeld ?_
   try simp only [Act.put,List.setIfInBounds_toArray,List.set_cons_zero,List.set_cons_succ]
   obtain ⟨u1,u2,u3⟩:=hHeld
   refine tr 1 rfl (fun K hK=>?_)
   rw [if_pos (by rfl)]
   go_simp
   refine (HC1.out _ (hG.below u3.is) (hT.below u3.is)).mono ?_
   rintro e w3 ⟨s,rfl,hs,hb3⟩
   refine hK.out _ _ ⟨u1.below hb3.is,u2.below hb3.is,zad u3 hb3 u3.size⟩ (fun hHeld=>?_)
   clear hK K u1 u2 u3 hb3
   try simp only [putS]
   obtain ⟨u1,u2,u3⟩:=hHeld
   refine tr 3 rfl (fun K hK=>?_)
   rw [if_pos (by rfl)]
   go_simp
   refine (HC2.out _ (hG.below u3.is) (hT.below u3.is)).mono ?_
   rintro e w4 ⟨s2,rfl,hs2,hb4⟩
   refine hK.out _ _ ⟨u1.below hb4.is,u2.below hb4.is,zad u3 hb4 u3.size⟩ (fun hHeld=>?_)
   clear hK K u1 u2 u3 hb4
   try simp only [putS]
   obtain ⟨u1,u2,u3⟩:=hHeld
   refine tr 4 rfl (fun K hK=>?_)
   rw [if_pos (by rfl)]
   go_simp
   refine (cmpSays hs hs2 _ (hG.below u3.is)).mono ?_
   rintro e w5 ⟨rfl,hb5⟩
   refine hK.out _ _ ⟨u1.below hb5.is,u2.below hb5.is,zad u3 hb5 u3.size⟩ (fun hHeld=>?_)
   clear hK K u1 u2 u3 hb5
   try simp only [putS]
   obtain ⟨u1,u2,u3⟩:=hHeld
   refine tr 5 rfl (fun K hK=>?_)
   go_simp
   refine hK.out _ _ ⟨u1,u2,u3⟩ (fun hHeld=>?_)
   clear hK K hHeld
   try simp only [putS]
   refine wpAnyH_done (by kernel_rfl) ?_ _
   go_wp2_with fail
   go_ret
   exact ⟨rfl,u3⟩
theorem zpr.below {w w':World} {g off:Nat} {v:Val} {k:Int} {b:Bool} {n:Int} {t x:ByteArray} {q:List Val} {p:Option Addr} {cap:Nat} (o:zpr w g off v k b n t x q p cap) (h:Below w.heap.size w w'):zpr w' g off v k b n t x q p cap:=by
 have hg:=World.block_lt_of_cell? w _ o.c0
 exact ⟨o.e,(h.cell (p:=⟨g,off,none⟩) hg).trans o.c0,(h.cell (p:=⟨g,off+1,none⟩) hg).trans o.c1,(h.cell (p:=⟨g,off+2,none⟩) hg).trans o.c2,(h.cell (p:=⟨g,off+3,none⟩) hg).trans o.c3,
  (h.cell (p:=⟨g,off+4,none⟩) hg).trans o.c4,(h.cell (p:=⟨g,off+5,none⟩) hg).trans o.c5,o.hf,Held.below q o.hl h⟩
theorem zpr.range {w:World} {g off:Nat} {v:Val} {k:Int} {b:Bool} {n:Int} {t x:ByteArray} {q:List Val} {p:Option Addr} {cap:Nat} (o:zpr w g off v k b n t x q p cap):w.rangeAt g off [.int .i64 k,.bool b,.int .i64 n,.string t,.string x,.slice p q.length cap]:=
 zcy o.c0 o.c1 o.c2 o.c3 o.c4 o.c5
def E3 (a:Int):Prop:=a=0∨a=1∨a=2
mutual
theorem zdo:(v:Val)→zb8 v v=true
 | .mk k b n t x l=>by
   unfold zb8
   rw [zg5 l]
   simp
theorem zg5:(l:List Val)→za8 l l=true
 | []=>by unfold za8;rfl
 | v::r=>by
   unfold za8
   rw [zdo v,zg5 r]
   rfl
end
theorem zfg:(l:List UInt8)→Op.bytesLess l l=false
 | []=>rfl
 | a::x=>by
   unfold Op.bytesLess
   rw [zfg x,Bool.and_false,Bool.or_false]
   simp
theorem zlz:(l m:List UInt8)→Op.bytesLess l m=true→Op.bytesLess m l=false
 | [],[],h=>by cases h
 | [],_::_,_=>rfl
 | _::_,[],h=>by cases h
 | a::x,b::y,h=>by
   unfold Op.bytesLess at h ⊢
   rw [Bool.or_eq_true,Bool.and_eq_true,decide_eq_true_eq,beq_iff_eq] at h
   rw [Bool.or_eq_false_iff,decide_eq_false_iff_not,Bool.and_eq_false_iff,beq_eq_false_iff_ne]
   rcases h with h | ⟨rfl,h⟩
   ·exact ⟨fun g=>absurd (UInt8.lt_iff_toNat_lt.1 g) (by have:=UInt8.lt_iff_toNat_lt.1 h;omega),.inl (fun e=>by rw [e] at h;exact absurd (UInt8.lt_iff_toNat_lt.1 h) (by omega))⟩
   ·exact ⟨fun g=>absurd (UInt8.lt_iff_toNat_lt.1 g) (by omega),.inr (zlz x y h)⟩
def lexI (c d:Int):Int:=if c=0 then d else c
def zai (l m:List UInt8):Int:=if Op.bytesLess l m then -1 else if Op.bytesLess m l then 1 else 0
def zk7 (a b:Bool):Int:=if a=b then 0 else if b then -1 else 1
def zau (lang k:Int):Int:=
 if k=0 then (if lang=1 then 0 else 10) else if k=5 then 1 else if k=6 then 2 else if k=7 then 3 else if k=9 then 4 else if k=8 then 5 else
 if k=10 then 6 else if k=4 then 7 else if k=1 then 8 else if k=2 then 9 else if k=3 then 9 else 11
mutual
def zan (lang:Int):Val→Val→Int
 | .mk k b n t x l,.mk k2 b2 n2 t2 x2 l2=>
   lexI (cmpZ (zau lang k) (zau lang k2))
    (if k=5 then zbh lang l l2
     else if k=6∨k=7 then cmpZ n n2
     else if k=1 then zk7 b b2
     else if k=2∨k=3 then lexI (cmpZ (numV k n t) (numV k2 n2 t2)) (lexI (cmpZ k k2) (if k=3 then zai t.toList t2.toList else 0))
     else lexI (zai t.toList t2.toList) (zai x.toList x2.toList))
def zbh (lang:Int):List Val→List Val→Int
 | [],[]=>0
 | [],_::_=>-1
 | _::_,[]=>1
 | u::r,v::s=>lexI (zan lang u v) (zbh lang r s)
end
structure Tri (x y z:Int):Prop where
 le:x≤0→y≤0→z≤0
 lt:x < 0→y≤0→z < 0
 tl:x≤0→y < 0→z < 0
 eq:x=0→y=0→z=0
theorem Tri.lex {x y z x2 y2 z2:Int} (h:Tri x y z) (h2:Tri x2 y2 z2):Tri (lexI x x2) (lexI y y2) (lexI z z2):=by
 obtain ⟨a,b,c,d⟩:=h
 obtain ⟨a2,b2,c2,d2⟩:=h2
 constructor <;> unfold lexI <;> intro p q <;> (repeat' split at p) <;> (repeat' split at q) <;> (repeat' split) <;> omega
theorem zcl {x y:Int}:lexI (-x) (-y)=-lexI x y:=by
 unfold lexI
 split <;> split <;> omega
theorem zdy (a b c:Int):Tri (cmpZ a b) (cmpZ b c) (cmpZ a c):=by
 constructor <;> unfold cmpZ <;> (repeat' split) <;> omega
theorem zt7 (a b:Bool):zk7 b a=-zk7 a b:=by cases a <;> cases b <;> rfl
theorem zwg (a b c:Bool):Tri (zk7 a b) (zk7 b c) (zk7 a c):=by
 cases a <;> cases b <;> cases c <;> constructor <;> decide
theorem zhr (l m:List UInt8):zai m l=-zai l m:=by
 unfold zai
 cases h:Op.bytesLess l m
 ·cases h2:Op.bytesLess m l <;> simp
 ·rw [zlz _ _ h];simp
theorem zdp:(l m:List UInt8)→Op.bytesLess l m=false→Op.bytesLess m l=false→l=m
 | [],[],_,_=>rfl
 | [],_::_,h,_=>by cases h
 | _::_,[],_,h=>by cases h
 | a::x,b::y,h,g=>by
   unfold Op.bytesLess at h g
   rw [Bool.or_eq_false_iff,decide_eq_false_iff_not,Bool.and_eq_false_iff,beq_eq_false_iff_ne] at h g
   have e:a=b:=by
    have h1:=h.1
    have g1:=g.1
    rw [UInt8.lt_iff_toNat_lt] at h1 g1
    exact UInt8.toNat_inj.1 (by omega)
   subst e
   rcases h.2 with h2 | h2
   ·exact absurd rfl h2
   ·rcases g.2 with g2 | g2
    ·exact absurd rfl g2
    ·rw [zdp x y h2 g2]
theorem zl0:(l m n:List UInt8)→Op.bytesLess l m=true→Op.bytesLess m n=true→Op.bytesLess l n=true
 | [],_,[],_,g=>by
   rename_i m h
   cases m
   ·cases h
   ·cases g
 | [],_,_::_,_,_=>rfl
 | _::_,[],_,h,_=>by cases h
 | _::_,_::_,[],_,g=>by cases g
 | a::x,b::y,c::z,h,g=>by
   unfold Op.bytesLess at h g ⊢
   rw [Bool.or_eq_true,Bool.and_eq_true,decide_eq_true_eq,beq_iff_eq] at h g ⊢
   rw [UInt8.lt_iff_toNat_lt] at h g ⊢
   rcases h with h | ⟨rfl,h⟩
   ·rcases g with g | ⟨rfl,g⟩
    ·exact .inl (by omega)
    ·exact .inl h
   ·rcases g with g | ⟨rfl,g⟩
    ·exact .inl g
    ·exact .inr ⟨rfl,zl0 x y z h g⟩
theorem zkm (a b c:List UInt8):Tri (zai a b) (zai b c) (zai a c):=by
 rcases h1:Op.bytesLess a b with _ | _
 ·rcases h2:Op.bytesLess b a with _ | _
  ·obtain rfl:=zdp a b h1 h2
   have e:zai a a=0:=by unfold zai;rw [zfg];simp
   rw [e]
   constructor <;> intros <;> omega
  ·have e:zai a b=1:=by unfold zai;rw [h1,h2];simp
   rw [e]
   constructor <;> intros <;> omega
 ·have e:zai a b=-1:=by unfold zai;rw [h1];simp
  rw [e]
  rcases h3:Op.bytesLess b c with _ | _
  ·rcases h4:Op.bytesLess c b with _ | _
   ·obtain rfl:=zdp b c h3 h4
    rw [e]
    constructor <;> intros <;> omega
   ·have e2:zai b c=1:=by unfold zai;rw [h3,h4];simp
    rw [e2]
    constructor <;> intros <;> omega
  ·have e3:zai a c=-1:=by unfold zai;rw [zl0 a b c h1 h3];simp
   rw [e3]
   constructor <;> intros <;> omega
theorem Tri.lexIf {x y z x2 y2 z2:Int} (h:Tri x y z) (h2:x=0→y=0→Tri x2 y2 z2):Tri (lexI x x2) (lexI y y2) (lexI z z2):=by
 by_cases e:x=0∧y=0
 ·exact h.lex (h2 e.1 e.2)
 ·obtain ⟨a,b,c,d⟩:=h
  constructor <;> unfold lexI <;> intro p q <;> (repeat' split at p) <;> (repeat' split at q) <;> (repeat' split) <;> omega
theorem zcc {a b:Int} (h:cmpZ a b=0):a=b:=by
 unfold cmpZ at h
 (repeat' split at h) <;> omega
theorem zdq (a:Int):cmpZ a a=0:=by unfold cmpZ;(repeat' split) <;> omega
theorem zbi (d:Int):lexI 0 d=d:=rfl
theorem zg6 {c:Int} (h:c≠0) (d e:Int):lexI c d=lexI c e:=by unfold lexI;rw [if_neg h,if_neg h]
theorem rank5 (lang k:Int):zau lang k=1↔k=5:=by unfold zau;(repeat' split) <;> omega
theorem zq4 (lang k:Int):(zau lang k=2∨zau lang k=3)↔(k=6∨k=7):=by unfold zau;(repeat' split) <;> omega
theorem zt8 (lang k:Int):zau lang k=8↔k=1:=by unfold zau;(repeat' split) <;> omega
theorem zq5 (lang k:Int):zau lang k=9↔(k=2∨k=3):=by unfold zau;(repeat' split) <;> omega
theorem zdz {lang k k2:Int} (h:zau lang k=zau lang k2):(k=5↔k2=5)∧((k=6∨k=7)↔(k2=6∨k2=7))∧(k=1↔k2=1)∧((k=2∨k=3)↔(k2=2∨k2=3)):=by
 rw [← rank5 lang k,← rank5 lang k2,← zq4 lang k,← zq4 lang k2,← zt8 lang k,← zt8 lang k2,← zq5 lang k,← zq5 lang k2,h]
 exact ⟨.rfl,.rfl,.rfl,.rfl⟩
def zbu (k n:Int) (b:Bool) (t x:ByteArray) (k2 n2:Int) (b2:Bool) (t2 x2:ByteArray):Int:=
 if k=6∨k=7 then cmpZ n n2
 else if k=1 then zk7 b b2
 else if k=2∨k=3 then lexI (cmpZ (numV k n t) (numV k2 n2 t2)) (lexI (cmpZ k k2) (if k=3 then zai t.toList t2.toList else 0))
 else lexI (zai t.toList t2.toList) (zai x.toList x2.toList)
theorem zcm (lang:Int) (k:Int) (b:Bool) (n:Int) (t x:ByteArray) (l:List Val) (k2:Int) (b2:Bool) (n2:Int) (t2 x2:ByteArray) (l2:List Val):zan lang (.mk k b n t x l) (.mk k2 b2 n2 t2 x2 l2)=
 lexI (cmpZ (zau lang k) (zau lang k2)) (if k=5 then zbh lang l l2 else zbu k n b t x k2 n2 b2 t2 x2):=by
 unfold zan zbu
 rfl
theorem zt9 {lang k k2:Int} (h:zau lang k=zau lang k2) (n:Int) (b:Bool) (t x:ByteArray) (n2:Int) (b2:Bool) (t2 x2:ByteArray):zbu k2 n2 b2 t2 x2 k n b t x=-zbu k n b t x k2 n2 b2 t2 x2:=by
 obtain ⟨_,c2,c3,c4⟩:=zdz h
 unfold zbu
 by_cases h2:k=6∨k=7
 ·rw [if_pos h2,if_pos (c2.1 h2),zcb]
 ·rw [if_neg h2,if_neg (fun e=>h2 (c2.2 e))]
  by_cases h3:k=1
  ·rw [if_pos h3,if_pos (c3.1 h3),zt7]
  ·rw [if_neg h3,if_neg (fun e=>h3 (c3.2 e))]
   by_cases h4:k=2∨k=3
   ·rw [if_pos h4,if_pos (c4.1 h4)]
    by_cases e:k=k2
    ·subst e
     by_cases h5:k=3
     ·rw [if_pos h5,if_pos h5,zdq,zbi,zbi,← zcl,← zcb,← zhr]
     ·rw [if_neg h5,if_neg h5,zdq,zbi,← zcl,← zcb,Int.neg_zero]
    ·have d:cmpZ k k2≠0:=fun z=>e (zcc z)
     have d2:cmpZ k2 k≠0:=fun z=>e (zcc z).symm
     rw [zg6 d _ (-0),zg6 d2 _ (- -0),zcb (numV k n t),zcb k k2,zcl,zcl]
   ·rw [if_neg h4,if_neg (fun e=>h4 (c4.2 e)),zhr t.toList,zhr x.toList,zcl]
theorem zua {lang k k2 k3:Int} (h:zau lang k=zau lang k2) (n:Int) (b:Bool) (t x:ByteArray) (n2:Int) (b2:Bool) (t2 x2:ByteArray) (n3:Int) (b3:Bool) (t3 x3:ByteArray):
 Tri (zbu k n b t x k2 n2 b2 t2 x2) (zbu k2 n2 b2 t2 x2 k3 n3 b3 t3 x3) (zbu k n b t x k3 n3 b3 t3 x3):=by
 obtain ⟨_,c2,c3,c4⟩:=zdz h
 unfold zbu
 by_cases h2:k=6∨k=7
 ·rw [if_pos h2,if_pos (c2.1 h2),if_pos h2]
  exact zdy _ _ _
 ·rw [if_neg h2,if_neg (fun e=>h2 (c2.2 e)),if_neg h2]
  by_cases h3:k=1
  ·rw [if_pos h3,if_pos (c3.1 h3),if_pos h3]
   exact zwg _ _ _
  ·rw [if_neg h3,if_neg (fun e=>h3 (c3.2 e)),if_neg h3]
   by_cases h4:k=2∨k=3
   ·rw [if_pos h4,if_pos (c4.1 h4),if_pos h4]
    refine (zdy _ _ _).lex ((zdy k k2 k3).lexIf fun e e'=>?_)
    obtain rfl:=zcc e
    by_cases h5:k=3
    ·rw [if_pos h5,if_pos h5,if_pos h5]
     exact zkm _ _ _
    ·rw [if_neg h5,if_neg h5,if_neg h5]
     constructor <;> intros <;> omega
   ·rw [if_neg h4,if_neg (fun e=>h4 (c4.2 e)),if_neg h4]
    exact (zkm _ _ _).lex (zkm _ _ _)
mutual
theorem zbb (lang:Int):(v v2:Val)→zan lang v2 v=-zan lang v v2
 | .mk k b n t x l,.mk k2 b2 n2 t2 x2 l2=>by
   rw [zcm,zcm]
   by_cases h:zau lang k=zau lang k2
   ·rw [h,zdq,zbi,zbi]
    have c:=(zdz h).1
    by_cases h5:k=5
    ·rw [if_pos h5,if_pos (c.1 h5)]
     exact zn7 lang l l2
    ·rw [if_neg h5,if_neg (fun e=>h5 (c.2 e))]
     exact zt9 h _ _ _ _ _ _ _ _
   ·have d:cmpZ (zau lang k) (zau lang k2)≠0:=fun z=>h (zcc z)
    have d2:cmpZ (zau lang k2) (zau lang k)≠0:=fun z=>h (zcc z).symm
    rw [zg6 d _ (-0),zg6 d2 _ (- -0),zcb (zau lang k),zcl]
theorem zn7 (lang:Int):(l m:List Val)→zbh lang m l=-zbh lang l m
 | [],[]=>by unfold zbh;rfl
 | [],_::_=>by unfold zbh;rfl
 | _::_,[]=>by unfold zbh;rfl
 | u::r,v::s=>by
   unfold zbh
   rw [zbb lang u v,zn7 lang r s,zcl]
end
mutual
theorem zb6 (lang:Int):(v v2 v3:Val)→Tri (zan lang v v2) (zan lang v2 v3) (zan lang v v3)
 | .mk k b n t x l,.mk k2 b2 n2 t2 x2 l2,.mk k3 b3 n3 t3 x3 l3=>by
   rw [zcm,zcm,zcm]
   refine (zdy _ _ _).lexIf fun e e'=>?_
   have h:=zcc e
   have c:=(zdz h).1
   by_cases h5:k=5
   ·rw [if_pos h5,if_pos (c.1 h5),if_pos h5]
    exact zn8 lang l l2 l3
   ·rw [if_neg h5,if_neg (fun e=>h5 (c.2 e)),if_neg h5]
    exact zua h _ _ _ _ _ _ _ _ _ _ _ _
theorem zn8 (lang:Int):(l l2 l3:List Val)→Tri (zbh lang l l2) (zbh lang l2 l3) (zbh lang l l3)
 | [],[],[]=>by unfold zbh;constructor <;> intros <;> omega
 | [],[],_::_=>by unfold zbh;constructor <;> intros <;> omega
 | [],_::_,[]=>by unfold zbh;constructor <;> intros <;> omega
 | [],_::_,_::_=>by
   unfold zbh
   constructor <;> intros <;> omega
 | _::_,[],[]=>by unfold zbh;constructor <;> intros <;> omega
 | _::_,[],_::_=>by unfold zbh;constructor <;> intros <;> omega
 | _::_,_::_,[]=>by
   unfold zbh
   constructor <;> intros <;> omega
 | u::r,v::s,z::q=>by
   unfold zbh
   exact (zb6 lang u v z).lex (zn8 lang r s q)
end
end Go.Proofs.YtanbgdhmfjgihaaGreatDoor
