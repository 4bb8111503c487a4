/- Texts of one kind, one behind the other: each says ahead of itself what it shows. -/
import Derived.Test.YteclpnfckjfibaaGreatDoorDab
import Derived.Lib.ItoaMem
import Derived.Test.YteclpnfckjfibaaGreatDoorDaa
import Derived.BigGuardPart
namespace Go.Proofs.YteclpnfckjfibaaGreatDoor
open Go.RowKit
set_option maxHeartbeats 12800000
set_option maxRecDepth 20000
theorem zvg {l:List UInt8} (h:∀ c r,l=c::r→c≠48):Lib.trimLeftB l 48=l:=by
 cases l with
 | nil=>rfl
 | cons c r=>
   unfold Lib.trimLeftB
   rw [List.dropWhile_cons,if_neg (by simpa using h c r rfl)]
theorem zsq (u:Nat):(Lib.decDigits u).all za8=true∧valD (Lib.decDigits u)=u∧Lib.decDigits u≠[]∧(1≤u→(Lib.decDigits u).headD 0≠48):=by
 induction u using Nat.strongRecOn with
 | _ u ih=>
   have hb:∀ k,k < 10→(UInt8.ofNat (48+k)).toNat=48+k:=fun k hk=>by rw [UInt8.toNat_ofNat'];omega
   have hd:∀ k,k < 10→za8 (UInt8.ofNat (48+k))=true:=fun k hk=>by rw [zc8,hb k hk];omega
   rw [Lib.decDigits]
   by_cases h:u < 10
   ·rw [dif_pos h]
    refine ⟨by rw [List.all_cons,hd u h];rfl,by (show ((UInt8.ofNat (48+u)).toNat - 48)*10 ^ 0+0=u;rw [hb u h];omega),by simp,fun h1 e=>?_⟩
    have:=hb u h
    have e2:UInt8.ofNat (48+u)=48:=e
    rw [e2] at this
    have h48:(48:UInt8).toNat=48:=rfl
    omega
   ·rw [dif_neg h]
    obtain ⟨a1,a2,a3,a4⟩:=ih (u / 10) (by omega)
    have hm:u % 10 < 10:=Nat.mod_lt _ (by decide)
    refine ⟨by rw [List.all_append,a1,List.all_cons,hd _ hm];rfl,?_,by simp,fun _=>?_⟩
    ·rw [zc0,a2]
     simp [valD];omega
    ·have:=a4 (by omega)
     cases hl:Lib.decDigits (u / 10) with
     | nil=>exact absurd hl a3
     | cons c r=>rw [hl] at this;exact this
theorem dec_len (u:Nat) (h:u≤9223372036854775808):(Lib.decDigits u).length≤19:=by
 obtain ⟨a1,a2,a3,a4⟩:=zsq u
 by_cases h0:u=0
 ·rw [h0,Lib.decDigits];simp
 ·have a5:=a4 (by omega)
  cases hl:Lib.decDigits u with
  | nil=>exact absurd hl a3
  | cons c r=>
    rw [hl] at a1 a2 a5
    rw [List.all_cons,Bool.and_eq_true] at a1
    have hc:=zos a1.1
    have hc0:c.toNat≠48:=fun e=>a5 (UInt8.toNat_inj.1 e)
    rcases Nat.lt_or_ge r.length 19 with k | k
    ·simp;omega
    ·exfalso
     have h3:10 ^ 19≤10 ^ r.length:=Nat.pow_le_pow_right (by decide) k
     have h4:1*10 ^ r.length≤(c.toNat - 48)*10 ^ r.length:=Nat.mul_le_mul_right _ (by omega)
     have h5:(c.toNat - 48)*10 ^ r.length+valD r=u:=a2
     omega
theorem zvh (neg:Bool) (u:Nat) (hu:neg=true→1≤u) (hl:(Lib.decDigits u).length≤40):chk ((if neg then [45] else [])++Lib.decDigits u++[46,48])=true:=by
 obtain ⟨a1,a2,a3,a4⟩:=zsq u
 have hw:wr neg (Lib.decDigits u) [48]=some ((if neg then [45] else [])++Lib.decDigits u++[46,48]):=by
  unfold wr
  have t2:Lib.trimRightB [48] 48=[]:=by decide
  by_cases h0:u=0
  ·have e:Lib.decDigits u=[48]:=by rw [h0,Lib.decDigits];rfl
   have hn:neg=false:=by
    cases neg with
    | false=>rfl
    | true=>exact absurd (hu rfl) (by omega)
   rw [e,hn]
   decide
  ·have t1:Lib.trimLeftB (Lib.decDigits u) 48=Lib.decDigits u:=zvg fun c r e=>by
    have:=a4 (by omega)
    rw [e] at this;exact this
   simp only [t1,t2,List.append_nil]
   rw [if_neg (by simp;omega)]
   have e2:(Lib.decDigits u).isEmpty=false:=by
    cases hx:Lib.decDigits u with
    | nil=>exact absurd hx a3
    | cons c r=>rfl
   have e3:orN (Lib.decDigits u)=Lib.decDigits u:=by unfold orN;rw [e2];rfl
   rw [e2,e3]
   cases neg <;> simp [orN]
 unfold chk zln
 have hs:=zf8 neg (Lib.decDigits u) [48] a1 a3 (by decide) (by decide)
 have e4:(if neg then [45] else [])++Lib.decDigits u++[46,48]=(if neg then [45] else [])++(Lib.decDigits u++46::[48]):=by simp
 rw [e4] at hw ⊢
 rw [hs]
 simp only [Option.map_some]
 rw [hw]
 simp
theorem bs_size (l:List UInt8):(bs l).size=l.length:=by simp [ByteArray.size]
theorem zxm (neg:Bool) (u:Nat):dval ((if neg then [45] else [])++Lib.decDigits u++[46,48])=(if neg then -(u:Int) else u)*10 ^ 54:=by
 obtain ⟨a1,a2,a3,a4⟩:=zsq u
 have hs:=zf8 neg (Lib.decDigits u) [48] a1 a3 (by decide) (by decide)
 have hl:(if neg then [45] else [])++Lib.decDigits u++[46,48]=(if neg then [45] else [])++(Lib.decDigits u++46::[48]):=by simp
 rw [hl]
 unfold dval zef damt
 rw [hs]
 show sv neg (zjc (Lib.decDigits u) [48])=_
 have hn:zjc (Lib.decDigits u) [48]=u*10 ^ 54:=by
  unfold zjc
  rw [a2,show valD [48]=0 from rfl,Nat.zero_mul,Nat.add_zero]
 rw [hn]
 unfold sv
 cases neg
 ·simp
 ·simp [Int.neg_mul]
def intT (n:Int):ByteArray:=bs (Lib.itoa n)++⟨#[46,48]⟩
theorem zvi (n:Int) (h0:-9223372036854775808≤n) (h1:n≤9223372036854775807):chk (intT n).data.toList=true∧dval (intT n).data.toList=n*10 ^ 54∧(intT n).size≤100∧(bs (Lib.itoa n)).size≤20:=by
 have key:∀ (neg:Bool) (u:Nat),(if neg then -(u:Int) else u)=n→(neg=true→1≤u)→Lib.itoa n=(if neg then [45] else [])++Lib.decDigits u→u≤9223372036854775808→
  chk (intT n).data.toList=true∧dval (intT n).data.toList=n*10 ^ 54∧(intT n).size≤100∧(bs (Lib.itoa n)).size≤20:=by
  intro neg u hn hu hit hub
  have hlen:=dec_len u hub
  have hT:(intT n).data.toList=(if neg then [45] else [])++Lib.decDigits u++[46,48]:=by
   unfold intT
   rw [ByteArray.data_append,Array.toList_append,hit]
  have hsz:(bs (Lib.itoa n)).size≤20:=by
   rw [bs_size,hit,List.length_append]
   cases neg <;> simp <;> omega
  refine ⟨by rw [hT];exact zvh neg u hu (by omega),by rw [hT,zxm,hn],?_,hsz⟩
  have h5:(intT n).data.toList.length=(intT n).size:=Array.length_toList
  rw [← h5,hT]
  simp only [List.length_append,List.length_cons,List.length_nil]
  split <;> simp <;> omega
 by_cases hneg:n < 0
 ·obtain ⟨u,hu⟩:∃ u:Nat,n=-(u:Int):=⟨n.natAbs,by omega⟩
  have hit:Lib.itoa n=45::Lib.decDigits u:=by rw [hu];exact Lib.itoa_neg u (by omega)
  exact key true u hu.symm (fun _=>by omega) hit (by omega)
 ·obtain ⟨u,rfl⟩:=Int.eq_ofNat_of_zero_le (Int.not_lt.1 hneg)
  exact key false u rfl (fun h=>by cases h) (Lib.itoa_nonneg u) (by omega)
theorem zqz (b:Bool) (w:World):Calls Tryz.prog 207 #[.bool b] w fun e w'=>e=.returned (.int .i64 (if b then 1 else 0))∧w=w':=by
 cases b
 all_goals
  go_enter Tryz.func207,Tryz.ntmps207
  go_wp2_with fail
  go_ret
  exact ⟨rfl,rfl⟩
theorem znc (q k:Int) (b:Bool) (n:Int) (t x:ByteArray) (L:Value) (k2:Int) (b2:Bool) (n2:Int) (t2 x2:ByteArray) (L2:Value) (w:World):
 Calls Tryz.prog 258 #[.int .i64 q,.agg #[.int .i64 k,.bool b,.int .i64 n,.string t,.string x,L],.agg #[.int .i64 k2,.bool b2,.int .i64 n2,.string t2,.string x2,L2]] w fun e w'=>e=.returned (.bool (k == q && k2 == q))∧Low w.heap.size w w':=by
 have h0:((w.alloc (.cells #[.int .i64 k,.bool b,.int .i64 n,.string t,.string x,L] 48)).alloc (.cells #[.int .i64 k2,.bool b2,.int .i64 n2,.string t2,.string x2,L2] 48)).cell? ⟨w.heap.size,0,none⟩=some (.int .i64 k):=zad (zaq _ (zaf _ _ rfl)) _ rfl
 have h1:((w.alloc (.cells #[.int .i64 k,.bool b,.int .i64 n,.string t,.string x,L] 48)).alloc (.cells #[.int .i64 k2,.bool b2,.int .i64 n2,.string t2,.string x2,L2] 48)).cell? ⟨w.heap.size+1,0,none⟩=some (.int .i64 k2):=zad (zaf _ _ (by simp)) _ rfl
 by_cases h:k=q
 ·subst h
  go_enter Tryz.func258,Tryz.ntmps258
  go_wp2_with fail
  go_ret
  exact ⟨by simp,low2 _ _ _⟩
 ·have e:(k == q)=false:=by simpa using h
  go_enter Tryz.func258,Tryz.ntmps258
  go_wp2_with fail
  go_ret
  exact ⟨by rw [e];rfl,low2 _ _ _⟩
def zlq (k:Int):Nat:=
 if k=0 then 164 else if k=1 then 165 else if k=2 then 166 else if k=3 then 169 else if k=4 then 170 else if k=5 then 174 else
 if k=6 then 167 else if k=7 then 168 else if k=8 then 171 else if k=9 then 172 else if k=10 then 173 else 200
theorem zau (k:Int) (b:Bool) (n:Int) (t x:ByteArray) (L:Value) (T:Nat) (hT:T=zlq k) (w:World):
 Calls Tryz.prog 156 #[.agg #[.int .i64 k,.bool b,.int .i64 n,.string t,.string x,L]] w fun e w'=>e=.returned (.iface T (.agg #[]))∧Low w.heap.size w w':=by
 have h0:(w.alloc (.cells #[.int .i64 k,.bool b,.int .i64 n,.string t,.string x,L] 48)).cell? ⟨w.heap.size,0,none⟩=some (.int .i64 k):=zad (zaf _ _ rfl) _ rfl
 subst hT
 by_cases h:0≤k∧k≤10
 ·obtain ⟨h1,h2⟩:=h
  obtain ⟨j,rfl⟩:∃ j:Nat,k=j:=⟨k.toNat,by omega⟩
  have hj:j≤10:=by omega
  clear h1 h2
  match j,hj,h0 with
  | 0,_,h0 | 1,_,h0 | 2,_,h0 | 3,_,h0 | 4,_,h0 | 5,_,h0 | 6,_,h0 | 7,_,h0 | 8,_,h0 | 9,_,h0 | 10,_,h0=>
    go_enter Tryz.func156,Tryz.ntmps156
    go_wp2_with fail
    go_ret
    exact ⟨rfl,low1 _ _⟩
 ·have e0:k≠0:=by omega
  have e1:k≠1:=by omega
  have e2:k≠2:=by omega
  have e3:k≠3:=by omega
  have e4:k≠4:=by omega
  have e5:k≠5:=by omega
  have e6:k≠6:=by omega
  have e7:k≠7:=by omega
  have e8:k≠8:=by omega
  have e9:k≠9:=by omega
  have e10:k≠10:=by omega
  have hv:zlq k=200:=by simp [zlq,e0,e1,e2,e3,e4,e5,e6,e7,e8,e9,e10]
  rw [hv]
  clear h hv
  go_enter Tryz.func156,Tryz.ntmps156
  go_wp2_with fail
  go_ret
  exact ⟨rfl,low1 _ _⟩
def zdn (c:UInt8):Bool:=(decide (97≤c.toNat) && decide (c.toNat≤122)) || (decide (65≤c.toNat) && decide (c.toNat≤90)) || decide (c.toNat=95)
def zf9 (c:UInt8):Bool:=decide (48≤c.toNat) && decide (c.toNat≤57)
def zjd (c:UInt8):Bool:=decide (32 < c.toNat) && decide (c.toNat≠60) && decide (c.toNat≠62)
def zcw (s:ByteArray):Bool:=decide (0 < s.size∧s.size≤1048576∧∀ j (h:j < s.size),zjd s[j]=true)
def zek (j:Nat) (c:UInt8):Bool:=zdn c || (decide (j≠0) && zf9 c)
def zcc (s:ByteArray):Bool:=decide (0 < s.size∧s.size≤64∧∀ j (h:j < s.size),zek j s[j]=true)
theorem zc1 (s:ByteArray):s.toList.isEmpty=true↔s.size=0:=by
 rw [ByteArray.toList_eq,List.isEmpty_iff_length_eq_zero]
 simp
theorem zga {s:ByteArray} {p:Nat→UInt8→Bool} {k:Nat} (h:k < s.size) (ha:∀ j (h:j < s.size),j < k→p j s[j]=true) (hk:p k s[k]=true):∀ j (h:j < s.size),j < k+1→p j s[j]=true:=by
 intro j hj hlt
 by_cases e:j=k
 ·subst e
  exact hk
 ·exact ha j hj (by omega)
theorem ze3 {c:UInt8} {b:Bool} (h:b=true↔((97:Int)≤c.toNat∧(c.toNat:Int)≤122)∨((65:Int)≤c.toNat∧(c.toNat:Int)≤90)∨(c.toNat:Int)=95):b=zdn c:=by
 rw [Bool.eq_iff_iff,h]
 simp only [zdn,Bool.or_eq_true,Bool.and_eq_true,decide_eq_true_eq]
 omega
theorem zmv (c:UInt8) (r:Bool) (hr:r=zdn c) (w:World):Calls Tryz.prog 193 #[.int .u8 c.toNat] w fun e w'=>e=.returned (.bool r)∧w=w':=by
 by_cases a1:(97:Int)≤c.toNat
 ·by_cases a2:(c.toNat:Int)≤122
  ·obtain rfl:r=true:=by rw [hr];exact (ze3 (by simp [a1,a2])).symm
   clear hr
   go_enter Tryz.func193,Tryz.ntmps193
   go_wp2_with fail
   go_ret
   exact ⟨rfl,rfl⟩
  ·obtain rfl:r=false:=by rw [hr];exact (ze3 (by simp;omega)).symm
   clear hr
   have a3:(65:Int)≤c.toNat:=by omega
   have a4:¬ (c.toNat:Int)≤90:=by omega
   have a5:¬ (c.toNat:Int)=95:=by omega
   go_enter Tryz.func193,Tryz.ntmps193
   go_wp2_with fail
   go_ret
   exact ⟨by simp [a5] <;> rfl,rfl⟩
 ·by_cases a3:(65:Int)≤c.toNat
  ·by_cases a4:(c.toNat:Int)≤90
   ·obtain rfl:r=true:=by rw [hr];exact (ze3 (by simp [a3,a4])).symm
    clear hr
    go_enter Tryz.func193,Tryz.ntmps193
    go_wp2_with fail
    go_ret
    exact ⟨rfl,rfl⟩
   ·have hv:r=((c.toNat:Int) == 95):=by rw [hr];exact (ze3 (by simp;omega)).symm
    clear hr
    go_enter Tryz.func193,Tryz.ntmps193
    go_wp2_with fail
    go_ret
    exact ⟨rfl,rfl⟩
  ·have a5:¬ (c.toNat:Int)=95:=by omega
   obtain rfl:r=false:=by rw [hr];exact (ze3 (by simp;omega)).symm
   clear hr
   go_enter Tryz.func193,Tryz.ntmps193
   go_wp2_with fail
   go_ret
   exact ⟨by simp [a5] <;> rfl,rfl⟩
theorem zq0 (c:UInt8) (r:Bool) (hr:r=zf9 c) (w:World):Calls Tryz.prog 194 #[.int .u8 c.toNat] w fun e w'=>e=.returned (.bool r)∧w=w':=by
 by_cases a1:(48:Int)≤c.toNat
 ·have hv:r=decide ((c.toNat:Int)≤57):=by rw [hr,Bool.eq_iff_iff];simp [zf9];omega
  clear hr
  go_enter Tryz.func194,Tryz.ntmps194
  go_wp2_with fail
  go_ret
  exact ⟨by rw [hv];rfl,rfl⟩
 ·have hv:r=false:=by rw [hr,Bool.eq_false_iff];simp [zf9];omega
  clear hr
  subst hv
  go_enter Tryz.func194,Tryz.ntmps194
  go_wp2_with fail
  go_ret
  exact ⟨rfl,rfl⟩
theorem zlr {s:ByteArray} {k:Nat} (h:k < s.size) (hk:zjd s[k]=false):zcw s=false:=by
 unfold zcw
 rw [decide_eq_false_iff_not]
 rintro ⟨_,_,ha⟩
 rw [ha k h] at hk
 exact absurd hk (by simp)
theorem zsr (s:ByteArray) (w:World) (hs:s.size≤maxLen):
 Calls Tryz.prog 158 #[.string s] w fun e w'=>e=.returned (.bool (zcw s))∧w=w':=by
 unfold maxLen at hs
 by_cases h0:s.toList.isEmpty=true
 ·have hv:zcw s=false:=by
   unfold zcw
   rw [decide_eq_false_iff_not]
   have:=(zc1 s).1 h0
   omega
  rw [hv]
  go_enter Tryz.func158,Tryz.ntmps158
  go_wp2_with fail
  go_ret
  exact ⟨rfl,rfl⟩
 ·have h0':s.toList.isEmpty=false:=by simpa using h0
  have hpos:0 < s.size:=by have:=mt (zc1 s).2 h0;omega
  by_cases hbig:(1048576:Int) < s.size
  ·have hv:zcw s=false:=by
    unfold zcw
    rw [decide_eq_false_iff_not]
    omega
   rw [hv]
   go_enter Tryz.func158,Tryz.ntmps158
   go_wp2_with fail
   go_ret
   exact ⟨rfl,rfl⟩
  ·go_enter Tryz.func158,Tryz.ntmps158
   go_wp2_with fail
   go_loop [13] (fun i=>∃ k:Nat,k≤s.size∧i=.int .i64 k∧∀ j (h:j < s.size),j < k→zjd s[j]=true) (fun i=>s.size - (intOf i).toNat)
   case atStart=>exact ⟨0,Nat.zero_le _,rfl,fun j _ h=>absurd h (by omega)⟩
   case round=>
    obtain ⟨k,hk,rfl,hall⟩:=hrel
    have HA:=Lib.hid hall
    clear hall
    by_cases hlt:k < s.size
    ·by_cases h1:(s[k].toNat:Int)≤32
     ·go_wp2_with fail
      go_ret
      exact ⟨by rw [zlr hlt (by simp [zjd];omega)];rfl,rfl⟩
     ·by_cases h2:(s[k].toNat:Int)=60
      ·go_wp2_with fail
       go_ret
       exact ⟨by rw [zlr hlt (by simp [zjd];omega)];rfl,rfl⟩
      ·by_cases h3:(s[k].toNat:Int)=62
       ·go_wp2_with fail
        go_ret
        exact ⟨by rw [zlr hlt (by simp [zjd];omega)];rfl,rfl⟩
       ·go_wp2_with fail
        go_round
        case rel=>exact ⟨k+1,by omega,by go_num,zga (p:=fun _=>zjd) hlt HA.out (by simp [zjd];omega)⟩
        case measure=>simp [intOf];omega
    ·go_wp2_with fail
     go_ret
     have hv:zcw s=true:=by
      unfold zcw
      rw [decide_eq_true_eq]
      exact ⟨hpos,by omega,fun j hj=>HA.out j hj (by omega)⟩
     exact ⟨by rw [hv];rfl,rfl⟩
theorem zi1 {s:ByteArray} {k:Nat} (h:k < s.size) (hk:zek k s[k]=false):zcc s=false:=by
 unfold zcc
 rw [decide_eq_false_iff_not]
 rintro ⟨_,_,ha⟩
 rw [ha k h] at hk
 exact absurd hk (by simp)
theorem z07 (s:ByteArray) (w:World) (hs:s.size≤maxLen):
 Calls Tryz.prog 159 #[.string s] w fun e w'=>e=.returned (.bool (zcc s))∧w=w':=by
 unfold maxLen at hs
 by_cases h0:s.toList.isEmpty=true
 ·have hv:zcc s=false:=by
   unfold zcc
   rw [decide_eq_false_iff_not]
   have:=(zc1 s).1 h0
   omega
  rw [hv]
  go_enter Tryz.func159,Tryz.ntmps159
  go_wp2_with fail
  go_ret
  exact ⟨rfl,rfl⟩
 ·have h0':s.toList.isEmpty=false:=by simpa using h0
  have hpos:0 < s.size:=by have:=mt (zc1 s).2 h0;omega
  by_cases hbig:(64:Int) < s.size
  ·have hv:zcc s=false:=by
    unfold zcc
    rw [decide_eq_false_iff_not]
    omega
   rw [hv]
   go_enter Tryz.func159,Tryz.ntmps159
   go_wp2_with fail
   go_ret
   exact ⟨rfl,rfl⟩
  ·go_enter Tryz.func159,Tryz.ntmps159
   go_wp2_with fail
   go_loop [13] (fun i=>∃ k:Nat,k≤s.size∧i=.int .i64 k∧∀ j (h:j < s.size),j < k→zek j s[j]=true) (fun i=>s.size - (intOf i).toNat)
   case atStart=>exact ⟨0,Nat.zero_le _,rfl,fun j _ h=>absurd h (by omega)⟩
   case round=>
    obtain ⟨k,hk,rfl,hall⟩:=hrel
    have HA:=Lib.hid hall
    clear hall
    by_cases hlt:k < s.size
    ·by_cases h1:zdn s[k]=true
     ·have H1:=Lib.hid h1
      clear h1
      go_wp2_with (go_at_call 193;(with_reducible refine (zmv s[k] true H1.out.symm _).mono ?_);rintro e w' ⟨rfl,rfl⟩)
      go_round
      case rel=>exact ⟨k+1,by omega,by go_num,zga (p:=zek) hlt HA.out (by simp [zek,H1.out])⟩
      case measure=>simp [intOf];omega
     ·have H1:Hid (zdn s[k]=false):=Lib.hid (by simpa using h1)
      clear h1
      by_cases h2:k=0
      ·subst h2
       go_wp2_with (go_at_call 193;(with_reducible refine (zmv s[0] false H1.out.symm _).mono ?_);rintro e w' ⟨rfl,rfl⟩)
       go_ret
       exact ⟨by rw [zi1 hlt (by simp [zek,H1.out])];rfl,rfl⟩
      ·have h2i:¬ (k:Int)=0:=by omega
       by_cases h3:zf9 s[k]=true
       ·have H3:=Lib.hid h3
        clear h3
        go_wp2_with (first
         |(go_at_call 193;(with_reducible refine (zmv s[k] false H1.out.symm _).mono ?_);rintro e w' ⟨rfl,rfl⟩)
         |(go_at_call 194;(with_reducible refine (zq0 s[k] true H3.out.symm _).mono ?_);rintro e w' ⟨rfl,rfl⟩))
        go_round
        case rel=>exact ⟨k+1,by omega,by go_num,zga (p:=zek) hlt HA.out (by simp [zek,H3.out,h2])⟩
        case measure=>simp [intOf];omega
       ·have H3:Hid (zf9 s[k]=false):=Lib.hid (by simpa using h3)
        clear h3
        go_wp2_with (first
         |(go_at_call 193;(with_reducible refine (zmv s[k] false H1.out.symm _).mono ?_);rintro e w' ⟨rfl,rfl⟩)
         |(go_at_call 194;(with_reducible refine (zq0 s[k] false H3.out.symm _).mono ?_);rintro e w' ⟨rfl,rfl⟩))
        go_ret
        exact ⟨by rw [zi1 hlt (by simp [zek,H1.out,H3.out])];rfl,rfl⟩
    ·go_wp2_with fail
     go_ret
     have hv:zcc s=true:=by
      unfold zcc
      rw [decide_eq_true_eq]
      exact ⟨hpos,by omega,fun j hj=>HA.out j hj (by omega)⟩
     exact ⟨by rw [hv];rfl,rfl⟩
def zca (b:Bool) (n:Int) (t x:ByteArray) (len:Nat):Bool:=!b && decide (n=0) && decide (t.size=0) && decide (x.size=0) && decide (len=0)
theorem zdo (k:Int) (b:Bool) (n:Int) (t x:ByteArray) (p:Option Addr) (len cap:Nat) (w:World):
 Calls Tryz.prog 161 #[.agg #[.int .i64 k,.bool b,.int .i64 n,.string t,.string x,.slice p len cap]] w fun e w'=>e=.returned (.bool (zca b n t x len))∧Low w.heap.size w w':=by
 have h1:(w.alloc (.cells #[.int .i64 k,.bool b,.int .i64 n,.string t,.string x,.slice p len cap] 48)).cell? ⟨w.heap.size,1,none⟩=some (.bool b):=zad (zaf _ _ rfl) _ rfl
 have h2:(w.alloc (.cells #[.int .i64 k,.bool b,.int .i64 n,.string t,.string x,.slice p len cap] 48)).cell? ⟨w.heap.size,2,none⟩=some (.int .i64 n):=zad (zaf _ _ rfl) _ rfl
 have h3:(w.alloc (.cells #[.int .i64 k,.bool b,.int .i64 n,.string t,.string x,.slice p len cap] 48)).cell? ⟨w.heap.size,3,none⟩=some (.string t):=zad (zaf _ _ rfl) _ rfl
 have h4:(w.alloc (.cells #[.int .i64 k,.bool b,.int .i64 n,.string t,.string x,.slice p len cap] 48)).cell? ⟨w.heap.size,4,none⟩=some (.string x):=zad (zaf _ _ rfl) _ rfl
 have h5:(w.alloc (.cells #[.int .i64 k,.bool b,.int .i64 n,.string t,.string x,.slice p len cap] 48)).cell? ⟨w.heap.size,5,none⟩=some (.slice p len cap):=zad (zaf _ _ rfl) _ rfl
 cases b with
 | true=>
   go_enter Tryz.func161,Tryz.ntmps161
   go_wp2_with fail
   go_ret
   exact ⟨rfl,low1 _ _⟩
 | false=>
   by_cases e2:n=0
   ·subst e2
    by_cases e3:t.toList.isEmpty=true
    ·have s3:=(zc1 t).1 e3
     by_cases e4:x.toList.isEmpty=true
     ·have s4:=(zc1 x).1 e4
      have hv:zca false 0 t x len=((len:Int) == 0):=by
       unfold zca
       rw [s3,s4,Bool.eq_iff_iff]
       simp
      rw [hv]
      clear hv s3 s4
      go_enter Tryz.func161,Tryz.ntmps161
      go_wp2_with fail
      go_ret
      exact ⟨rfl,low1 _ _⟩
     ·have s4:¬ x.size=0:=mt (zc1 x).2 e4
      have e4':x.toList.isEmpty=false:=by simpa using e4
      have hv:zca false 0 t x len=false:=by simp [zca,s4]
      rw [hv]
      clear hv s3 s4 e4
      go_enter Tryz.func161,Tryz.ntmps161
      go_wp2_with fail
      go_ret
      exact ⟨rfl,low1 _ _⟩
    ·have s3:¬ t.size=0:=mt (zc1 t).2 e3
     have e3':t.toList.isEmpty=false:=by simpa using e3
     have hv:zca false 0 t x len=false:=by simp [zca,s3]
     rw [hv]
     clear hv s3 e3
     go_enter Tryz.func161,Tryz.ntmps161
     go_wp2_with fail
     go_ret
     exact ⟨rfl,low1 _ _⟩
   ·have hv:zca false n t x len=false:=by simp [zca,e2]
    rw [hv]
    clear hv
    go_enter Tryz.func161,Tryz.ntmps161
    go_wp2_with fail
    go_ret
    exact ⟨rfl,low1 _ _⟩
theorem zmb:(Tryz.prog.info? 48).map (·.size)=some 6:=by kernel_rfl
def Six (w:World) (g:Nat) (k:Int) (b:Bool) (n:Int) (t x:ByteArray) (p:Option Addr) (len cap:Nat):Prop:=
 w.heap[g]?=some (.cells #[.int .i64 k,.bool b,.int .i64 n,.string t,.string x,.slice p len cap] 48)
section
variable {w w':World} {g e:Nat} {k:Int} {b:Bool} {n:Int} {t x:ByteArray} {p:Option Addr} {len cap:Nat}
theorem Six.below (h:Six w g k b n t x p len cap) (q:Below w.heap.size w w'):Six w' g k b n t x p len cap:=(q.block g (zaa h)).trans h
theorem Six.only (h:Six w g k b n t x p len cap) (q:Only e w w') (d:g≠e):Six w' g k b n t x p len cap:=(q.block g (zaa h) d).trans h
theorem Six.alloc (h:Six w g k b n t x p len cap) (o:Obj):Six (w.alloc o) g k b n t x p len cap:=zaq _ h
theorem Six.drewN (h:Six w g k b n t x p len cap) (m:Nat):Six (w.drewN m) g k b n t x p len cap:=h
theorem Six.lt (h:Six w g k b n t x p len cap):g < w.heap.size:=zaa h
theorem zaj (w:World) (e:w.heap.size=g):Six (w.alloc (.cells #[.int .i64 k,.bool b,.int .i64 n,.string t,.string x,.slice p len cap] 48)) g k b n t x p len cap:=zaf _ _ e
theorem Six.c0 (h:Six w g k b n t x p len cap):w.cell? ⟨g,0,none⟩=some (.int .i64 k):=zad h _ rfl
theorem Six.c1 (h:Six w g k b n t x p len cap):w.cell? ⟨g,1,none⟩=some (.bool b):=zad h _ rfl
theorem Six.c2 (h:Six w g k b n t x p len cap):w.cell? ⟨g,2,none⟩=some (.int .i64 n):=zad h _ rfl
theorem Six.c3 (h:Six w g k b n t x p len cap):w.cell? ⟨g,3,none⟩=some (.string t):=zad h _ rfl
theorem Six.c4 (h:Six w g k b n t x p len cap):w.cell? ⟨g,4,none⟩=some (.string x):=zad h _ rfl
theorem Six.c5 (h:Six w g k b n t x p len cap):w.cell? ⟨g,5,none⟩=some (.slice p len cap):=zad h _ rfl
end
section
variable {w:World} {g:Nat} {k:Int} {b:Bool} {n:Int} {t x:ByteArray} {p:Option Addr} {len cap:Nat}
theorem Six.free (h:Six w g k b n t x p len cap) (i:Nat):w.frozen? ⟨g,i,none⟩=false:=zdl h _
theorem Six.set1 (h:Six w g k b n t x p len cap) (v:Bool):Six (w.setCell ⟨g,1,none⟩ (.bool v)) g k v n t x p len cap:=zb8 h 1 (.bool v)
theorem Six.set2 (h:Six w g k b n t x p len cap) (v:Int):Six (w.setCell ⟨g,2,none⟩ (.int .i64 v)) g k b v t x p len cap:=zb8 h 2 (.int .i64 v)
theorem Six.set3 (h:Six w g k b n t x p len cap) (v:ByteArray):Six (w.setCell ⟨g,3,none⟩ (.string v)) g k b n v x p len cap:=zb8 h 3 (.string v)
theorem Six.set4 (h:Six w g k b n t x p len cap) (v:ByteArray):Six (w.setCell ⟨g,4,none⟩ (.string v)) g k b n t v p len cap:=zb8 h 4 (.string v)
theorem Six.set5 (h:Six w g k b n t x p len cap) (q:Option Addr) (l c:Nat):Six (w.setCell ⟨g,5,none⟩ (.slice q l c)) g k b n t x q l c:=zb8 h 5 (.slice q l c)
end
theorem zac {ops:Array Oper} {rest:List Oper} {o:Oper} {a:Act} {w:World} {Q:Exit→Act→World→Prop} {k:Int} {b:Bool} {n:Int} {t x:ByteArray} {p:Option Addr} {len cap:Nat} (y:Operand) (g:Nat) (hg:Six w g k b n t x p len cap)
 (hgd:o.guard=none) (ho:o.op=.load 48 y) (hx:a.eval y=.pointer (some ⟨g,0,none⟩))
 (h:wpList Tryz.prog ops Q rest (a.put o.dst (.agg #[.int .i64 k,.bool b,.int .i64 n,.string t,.string x,.slice p len cap])) w):wpList Tryz.prog ops Q (o::rest) a w:=
 wpList_load_row hgd 48 y ho g hx 48 _ (0,0) _ hg Tryz.underlying48 rfl zmb h
theorem zfp {ops:Array Oper} {rest:List Oper} {o:Oper} {a:Act} {w:World} {Q:Exit→Act→World→Prop} {k:Int} {b:Bool} {n:Int} {t x:ByteArray} {p:Option Addr} {len cap:Nat}
 {k':Int} {b':Bool} {n':Int} {t' x':ByteArray} {p':Option Addr} {len' cap':Nat} (y z:Operand) (g:Nat) (hg:Six w g k b n t x p len cap)
 (hgd:o.guard=none) (ho:o.op=.store 48 y z) (hx:a.eval y=.pointer (some ⟨g,0,none⟩)) (hy:a.eval z=.agg #[.int .i64 k',.bool b',.int .i64 n',.string t',.string x',.slice p' len' cap'])
 (h:∀ w',Only g w w'→Six w' g k' b' n' t' x' p' len' cap'→wpList Tryz.prog ops Q rest (a.put o.dst undef) w'):wpList Tryz.prog ops Q (o::rest) a w:=
 wpList_plain hgd fun _ hK=>by
  unfold Oper.wp execOp
  simp only [ho,hx,hy,Instr.storeAt,Instr.sureAddr,Sem.run_bind,Sem.run_pure,Result.andThen_ok,run_storeVar_row (P:=Tryz.prog) w g 48 48 _ #[.int .i64 k',.bool b',.int .i64 n',.string t',.string x',.slice p' len' cap'] hg zmb rfl (by simp [Value.oneCell'])]
  exact hK _ _ (h _ (Only.setRow w _) (zdd hg))
theorem zas {ops:Array Oper} {rest:List Oper} {o:Oper} {a:Act} {w:World} {Q:Exit→Act→World→Prop} {k:Int} {b:Bool} {n:Int} {t x:ByteArray} {p:Option Addr} {len cap:Nat} (y:Operand) (g:Nat) (hg:Six w g k b n t x p len cap)
 (hw:Region.wanted o (yielded ops a.tmps)=true) (ho:o.op=.load 48 y) (hx:a.eval y=.pointer (some ⟨g,0,none⟩))
 (h:wpList Tryz.prog ops Q rest (a.put o.dst (.agg #[.int .i64 k,.bool b,.int .i64 n,.string t,.string x,.slice p len cap])) w):wpList Tryz.prog ops Q (o::rest) a w:=by
 unfold wpList
 rw [if_pos hw]
 refine .inl ?_
 unfold Oper.wp execOp
 simp only [ho,hx,Instr.loadAt,Instr.sureAddr,Sem.run_bind,Sem.run_pure,Result.andThen_ok,run_loadVar_row (P:=Tryz.prog) w g 48 48 _ (0,0) _ hg Tryz.underlying48 rfl zmb]
 exact h
theorem zje (w:World):(Instr.typeAssert (.iface 164 (.agg #[])) 20 164 true).run Tryz.prog w=.ok (.tuple #[.agg #[],.bool true]) w:=by kernel_rfl
theorem zgb (w:World):(Instr.typeAssert (.iface 164 (.agg #[])) 20 165 true).run Tryz.prog w=.ok (.tuple #[.agg #[],.bool false]) w:=by kernel_rfl
theorem zgc (w:World):(Instr.typeAssert (.iface 164 (.agg #[])) 20 166 true).run Tryz.prog w=.ok (.tuple #[.agg #[],.bool false]) w:=by kernel_rfl
theorem zgd (w:World):(Instr.typeAssert (.iface 164 (.agg #[])) 20 167 true).run Tryz.prog w=.ok (.tuple #[.agg #[],.bool false]) w:=by kernel_rfl
theorem zge (w:World):(Instr.typeAssert (.iface 164 (.agg #[])) 20 168 true).run Tryz.prog w=.ok (.tuple #[.agg #[],.bool false]) w:=by kernel_rfl
theorem zgf (w:World):(Instr.typeAssert (.iface 164 (.agg #[])) 20 169 true).run Tryz.prog w=.ok (.tuple #[.agg #[],.bool false]) w:=by kernel_rfl
theorem zjf (w:World):(Instr.typeAssert (.iface 164 (.agg #[])) 20 170 true).run Tryz.prog w=.ok (.tuple #[.agg #[],.bool false]) w:=by kernel_rfl
theorem zjg (w:World):(Instr.typeAssert (.iface 164 (.agg #[])) 20 171 true).run Tryz.prog w=.ok (.tuple #[.agg #[],.bool false]) w:=by kernel_rfl
theorem zjh (w:World):(Instr.typeAssert (.iface 164 (.agg #[])) 20 172 true).run Tryz.prog w=.ok (.tuple #[.agg #[],.bool false]) w:=by kernel_rfl
theorem zji (w:World):(Instr.typeAssert (.iface 164 (.agg #[])) 20 173 true).run Tryz.prog w=.ok (.tuple #[.agg #[],.bool false]) w:=by kernel_rfl
theorem zgg (w:World):(Instr.typeAssert (.iface 164 (.agg #[])) 20 174 true).run Tryz.prog w=.ok (.tuple #[.agg #[],.bool false]) w:=by kernel_rfl
theorem zjj (w:World):(Instr.typeAssert (.iface 165 (.agg #[])) 20 164 true).run Tryz.prog w=.ok (.tuple #[.agg #[],.bool false]) w:=by kernel_rfl
theorem zgh (w:World):(Instr.typeAssert (.iface 165 (.agg #[])) 20 165 true).run Tryz.prog w=.ok (.tuple #[.agg #[],.bool true]) w:=by kernel_rfl
theorem zgi (w:World):(Instr.typeAssert (.iface 165 (.agg #[])) 20 166 true).run Tryz.prog w=.ok (.tuple #[.agg #[],.bool false]) w:=by kernel_rfl
theorem zgj (w:World):(Instr.typeAssert (.iface 165 (.agg #[])) 20 167 true).run Tryz.prog w=.ok (.tuple #[.agg #[],.bool false]) w:=by kernel_rfl
theorem zgk (w:World):(Instr.typeAssert (.iface 165 (.agg #[])) 20 168 true).run Tryz.prog w=.ok (.tuple #[.agg #[],.bool false]) w:=by kernel_rfl
theorem zgl (w:World):(Instr.typeAssert (.iface 165 (.agg #[])) 20 169 true).run Tryz.prog w=.ok (.tuple #[.agg #[],.bool false]) w:=by kernel_rfl
theorem zjk (w:World):(Instr.typeAssert (.iface 165 (.agg #[])) 20 170 true).run Tryz.prog w=.ok (.tuple #[.agg #[],.bool false]) w:=by kernel_rfl
theorem zjl (w:World):(Instr.typeAssert (.iface 165 (.agg #[])) 20 171 true).run Tryz.prog w=.ok (.tuple #[.agg #[],.bool false]) w:=by kernel_rfl
theorem zjm (w:World):(Instr.typeAssert (.iface 165 (.agg #[])) 20 172 true).run Tryz.prog w=.ok (.tuple #[.agg #[],.bool false]) w:=by kernel_rfl
theorem zjn (w:World):(Instr.typeAssert (.iface 165 (.agg #[])) 20 173 true).run Tryz.prog w=.ok (.tuple #[.agg #[],.bool false]) w:=by kernel_rfl
theorem zgm (w:World):(Instr.typeAssert (.iface 165 (.agg #[])) 20 174 true).run Tryz.prog w=.ok (.tuple #[.agg #[],.bool false]) w:=by kernel_rfl
theorem znd (w:World):(Instr.typeAssert (.iface 166 (.agg #[])) 20 164 true).run Tryz.prog w=.ok (.tuple #[.agg #[],.bool false]) w:=by kernel_rfl
theorem zjo (w:World):(Instr.typeAssert (.iface 166 (.agg #[])) 20 165 true).run Tryz.prog w=.ok (.tuple #[.agg #[],.bool false]) w:=by kernel_rfl
theorem zjp (w:World):(Instr.typeAssert (.iface 166 (.agg #[])) 20 166 true).run Tryz.prog w=.ok (.tuple #[.agg #[],.bool true]) w:=by kernel_rfl
theorem zjq (w:World):(Instr.typeAssert (.iface 166 (.agg #[])) 20 167 true).run Tryz.prog w=.ok (.tuple #[.agg #[],.bool false]) w:=by kernel_rfl
theorem zjr (w:World):(Instr.typeAssert (.iface 166 (.agg #[])) 20 168 true).run Tryz.prog w=.ok (.tuple #[.agg #[],.bool false]) w:=by kernel_rfl
theorem zjs (w:World):(Instr.typeAssert (.iface 166 (.agg #[])) 20 169 true).run Tryz.prog w=.ok (.tuple #[.agg #[],.bool false]) w:=by kernel_rfl
theorem zne (w:World):(Instr.typeAssert (.iface 166 (.agg #[])) 20 170 true).run Tryz.prog w=.ok (.tuple #[.agg #[],.bool false]) w:=by kernel_rfl
theorem znf (w:World):(Instr.typeAssert (.iface 166 (.agg #[])) 20 171 true).run Tryz.prog w=.ok (.tuple #[.agg #[],.bool false]) w:=by kernel_rfl
theorem zng (w:World):(Instr.typeAssert (.iface 166 (.agg #[])) 20 172 true).run Tryz.prog w=.ok (.tuple #[.agg #[],.bool false]) w:=by kernel_rfl
theorem znh (w:World):(Instr.typeAssert (.iface 166 (.agg #[])) 20 173 true).run Tryz.prog w=.ok (.tuple #[.agg #[],.bool false]) w:=by kernel_rfl
theorem zjt (w:World):(Instr.typeAssert (.iface 166 (.agg #[])) 20 174 true).run Tryz.prog w=.ok (.tuple #[.agg #[],.bool false]) w:=by kernel_rfl
theorem zju (w:World):(Instr.typeAssert (.iface 167 (.agg #[])) 20 164 true).run Tryz.prog w=.ok (.tuple #[.agg #[],.bool false]) w:=by kernel_rfl
theorem zgn (w:World):(Instr.typeAssert (.iface 167 (.agg #[])) 20 165 true).run Tryz.prog w=.ok (.tuple #[.agg #[],.bool false]) w:=by kernel_rfl
theorem zgo (w:World):(Instr.typeAssert (.iface 167 (.agg #[])) 20 166 true).run Tryz.prog w=.ok (.tuple #[.agg #[],.bool false]) w:=by kernel_rfl
theorem zgp (w:World):(Instr.typeAssert (.iface 167 (.agg #[])) 20 167 true).run Tryz.prog w=.ok (.tuple #[.agg #[],.bool true]) w:=by kernel_rfl
theorem zgq (w:World):(Instr.typeAssert (.iface 167 (.agg #[])) 20 168 true).run Tryz.prog w=.ok (.tuple #[.agg #[],.bool false]) w:=by kernel_rfl
theorem zgr (w:World):(Instr.typeAssert (.iface 167 (.agg #[])) 20 169 true).run Tryz.prog w=.ok (.tuple #[.agg #[],.bool false]) w:=by kernel_rfl
theorem zjv (w:World):(Instr.typeAssert (.iface 167 (.agg #[])) 20 170 true).run Tryz.prog w=.ok (.tuple #[.agg #[],.bool false]) w:=by kernel_rfl
theorem zjw (w:World):(Instr.typeAssert (.iface 167 (.agg #[])) 20 171 true).run Tryz.prog w=.ok (.tuple #[.agg #[],.bool false]) w:=by kernel_rfl
theorem zjx (w:World):(Instr.typeAssert (.iface 167 (.agg #[])) 20 172 true).run Tryz.prog w=.ok (.tuple #[.agg #[],.bool false]) w:=by kernel_rfl
theorem zjy (w:World):(Instr.typeAssert (.iface 167 (.agg #[])) 20 173 true).run Tryz.prog w=.ok (.tuple #[.agg #[],.bool false]) w:=by kernel_rfl
theorem zgs (w:World):(Instr.typeAssert (.iface 167 (.agg #[])) 20 174 true).run Tryz.prog w=.ok (.tuple #[.agg #[],.bool false]) w:=by kernel_rfl
theorem zjz (w:World):(Instr.typeAssert (.iface 168 (.agg #[])) 20 164 true).run Tryz.prog w=.ok (.tuple #[.agg #[],.bool false]) w:=by kernel_rfl
theorem zgt (w:World):(Instr.typeAssert (.iface 168 (.agg #[])) 20 165 true).run Tryz.prog w=.ok (.tuple #[.agg #[],.bool false]) w:=by kernel_rfl
theorem zgu (w:World):(Instr.typeAssert (.iface 168 (.agg #[])) 20 166 true).run Tryz.prog w=.ok (.tuple #[.agg #[],.bool false]) w:=by kernel_rfl
theorem zgv (w:World):(Instr.typeAssert (.iface 168 (.agg #[])) 20 167 true).run Tryz.prog w=.ok (.tuple #[.agg #[],.bool false]) w:=by kernel_rfl
theorem zgw (w:World):(Instr.typeAssert (.iface 168 (.agg #[])) 20 168 true).run Tryz.prog w=.ok (.tuple #[.agg #[],.bool true]) w:=by kernel_rfl
theorem zgx (w:World):(Instr.typeAssert (.iface 168 (.agg #[])) 20 169 true).run Tryz.prog w=.ok (.tuple #[.agg #[],.bool false]) w:=by kernel_rfl
theorem zj0 (w:World):(Instr.typeAssert (.iface 168 (.agg #[])) 20 170 true).run Tryz.prog w=.ok (.tuple #[.agg #[],.bool false]) w:=by kernel_rfl
theorem zj1 (w:World):(Instr.typeAssert (.iface 168 (.agg #[])) 20 171 true).run Tryz.prog w=.ok (.tuple #[.agg #[],.bool false]) w:=by kernel_rfl
theorem zj2 (w:World):(Instr.typeAssert (.iface 168 (.agg #[])) 20 172 true).run Tryz.prog w=.ok (.tuple #[.agg #[],.bool false]) w:=by kernel_rfl
theorem zj3 (w:World):(Instr.typeAssert (.iface 168 (.agg #[])) 20 173 true).run Tryz.prog w=.ok (.tuple #[.agg #[],.bool false]) w:=by kernel_rfl
theorem zgy (w:World):(Instr.typeAssert (.iface 168 (.agg #[])) 20 174 true).run Tryz.prog w=.ok (.tuple #[.agg #[],.bool false]) w:=by kernel_rfl
theorem zj4 (w:World):(Instr.typeAssert (.iface 169 (.agg #[])) 20 164 true).run Tryz.prog w=.ok (.tuple #[.agg #[],.bool false]) w:=by kernel_rfl
theorem zgz (w:World):(Instr.typeAssert (.iface 169 (.agg #[])) 20 165 true).run Tryz.prog w=.ok (.tuple #[.agg #[],.bool false]) w:=by kernel_rfl
theorem zg0 (w:World):(Instr.typeAssert (.iface 169 (.agg #[])) 20 166 true).run Tryz.prog w=.ok (.tuple #[.agg #[],.bool false]) w:=by kernel_rfl
theorem zg1 (w:World):(Instr.typeAssert (.iface 169 (.agg #[])) 20 167 true).run Tryz.prog w=.ok (.tuple #[.agg #[],.bool false]) w:=by kernel_rfl
theorem zg2 (w:World):(Instr.typeAssert (.iface 169 (.agg #[])) 20 168 true).run Tryz.prog w=.ok (.tuple #[.agg #[],.bool false]) w:=by kernel_rfl
theorem zg3 (w:World):(Instr.typeAssert (.iface 169 (.agg #[])) 20 169 true).run Tryz.prog w=.ok (.tuple #[.agg #[],.bool true]) w:=by kernel_rfl
theorem zj5 (w:World):(Instr.typeAssert (.iface 169 (.agg #[])) 20 170 true).run Tryz.prog w=.ok (.tuple #[.agg #[],.bool false]) w:=by kernel_rfl
theorem zj6 (w:World):(Instr.typeAssert (.iface 169 (.agg #[])) 20 171 true).run Tryz.prog w=.ok (.tuple #[.agg #[],.bool false]) w:=by kernel_rfl
theorem zj7 (w:World):(Instr.typeAssert (.iface 169 (.agg #[])) 20 172 true).run Tryz.prog w=.ok (.tuple #[.agg #[],.bool false]) w:=by kernel_rfl
theorem zj8 (w:World):(Instr.typeAssert (.iface 169 (.agg #[])) 20 173 true).run Tryz.prog w=.ok (.tuple #[.agg #[],.bool false]) w:=by kernel_rfl
theorem zg4 (w:World):(Instr.typeAssert (.iface 169 (.agg #[])) 20 174 true).run Tryz.prog w=.ok (.tuple #[.agg #[],.bool false]) w:=by kernel_rfl
theorem zj9 (w:World):(Instr.typeAssert (.iface 170 (.agg #[])) 20 164 true).run Tryz.prog w=.ok (.tuple #[.agg #[],.bool false]) w:=by kernel_rfl
theorem zg5 (w:World):(Instr.typeAssert (.iface 170 (.agg #[])) 20 165 true).run Tryz.prog w=.ok (.tuple #[.agg #[],.bool false]) w:=by kernel_rfl
theorem zg6 (w:World):(Instr.typeAssert (.iface 170 (.agg #[])) 20 166 true).run Tryz.prog w=.ok (.tuple #[.agg #[],.bool false]) w:=by kernel_rfl
theorem zg7 (w:World):(Instr.typeAssert (.iface 170 (.agg #[])) 20 167 true).run Tryz.prog w=.ok (.tuple #[.agg #[],.bool false]) w:=by kernel_rfl
theorem zg8 (w:World):(Instr.typeAssert (.iface 170 (.agg #[])) 20 168 true).run Tryz.prog w=.ok (.tuple #[.agg #[],.bool false]) w:=by kernel_rfl
theorem zg9 (w:World):(Instr.typeAssert (.iface 170 (.agg #[])) 20 169 true).run Tryz.prog w=.ok (.tuple #[.agg #[],.bool false]) w:=by kernel_rfl
theorem zka (w:World):(Instr.typeAssert (.iface 170 (.agg #[])) 20 170 true).run Tryz.prog w=.ok (.tuple #[.agg #[],.bool true]) w:=by kernel_rfl
theorem zkb (w:World):(Instr.typeAssert (.iface 170 (.agg #[])) 20 171 true).run Tryz.prog w=.ok (.tuple #[.agg #[],.bool false]) w:=by kernel_rfl
theorem zkc (w:World):(Instr.typeAssert (.iface 170 (.agg #[])) 20 172 true).run Tryz.prog w=.ok (.tuple #[.agg #[],.bool false]) w:=by kernel_rfl
theorem zkd (w:World):(Instr.typeAssert (.iface 170 (.agg #[])) 20 173 true).run Tryz.prog w=.ok (.tuple #[.agg #[],.bool false]) w:=by kernel_rfl
theorem zha (w:World):(Instr.typeAssert (.iface 170 (.agg #[])) 20 174 true).run Tryz.prog w=.ok (.tuple #[.agg #[],.bool false]) w:=by kernel_rfl
theorem zke (w:World):(Instr.typeAssert (.iface 171 (.agg #[])) 20 164 true).run Tryz.prog w=.ok (.tuple #[.agg #[],.bool false]) w:=by kernel_rfl
theorem zhb (w:World):(Instr.typeAssert (.iface 171 (.agg #[])) 20 165 true).run Tryz.prog w=.ok (.tuple #[.agg #[],.bool false]) w:=by kernel_rfl
theorem zhc (w:World):(Instr.typeAssert (.iface 171 (.agg #[])) 20 166 true).run Tryz.prog w=.ok (.tuple #[.agg #[],.bool false]) w:=by kernel_rfl
theorem zhd (w:World):(Instr.typeAssert (.iface 171 (.agg #[])) 20 167 true).run Tryz.prog w=.ok (.tuple #[.agg #[],.bool false]) w:=by kernel_rfl
theorem zhe (w:World):(Instr.typeAssert (.iface 171 (.agg #[])) 20 168 true).run Tryz.prog w=.ok (.tuple #[.agg #[],.bool false]) w:=by kernel_rfl
theorem zhf (w:World):(Instr.typeAssert (.iface 171 (.agg #[])) 20 169 true).run Tryz.prog w=.ok (.tuple #[.agg #[],.bool false]) w:=by kernel_rfl
theorem zkf (w:World):(Instr.typeAssert (.iface 171 (.agg #[])) 20 170 true).run Tryz.prog w=.ok (.tuple #[.agg #[],.bool false]) w:=by kernel_rfl
theorem zkg (w:World):(Instr.typeAssert (.iface 171 (.agg #[])) 20 171 true).run Tryz.prog w=.ok (.tuple #[.agg #[],.bool true]) w:=by kernel_rfl
theorem zkh (w:World):(Instr.typeAssert (.iface 171 (.agg #[])) 20 172 true).run Tryz.prog w=.ok (.tuple #[.agg #[],.bool false]) w:=by kernel_rfl
theorem zki (w:World):(Instr.typeAssert (.iface 171 (.agg #[])) 20 173 true).run Tryz.prog w=.ok (.tuple #[.agg #[],.bool false]) w:=by kernel_rfl
theorem zhg (w:World):(Instr.typeAssert (.iface 171 (.agg #[])) 20 174 true).run Tryz.prog w=.ok (.tuple #[.agg #[],.bool false]) w:=by kernel_rfl
theorem zkj (w:World):(Instr.typeAssert (.iface 172 (.agg #[])) 20 164 true).run Tryz.prog w=.ok (.tuple #[.agg #[],.bool false]) w:=by kernel_rfl
theorem zhh (w:World):(Instr.typeAssert (.iface 172 (.agg #[])) 20 165 true).run Tryz.prog w=.ok (.tuple #[.agg #[],.bool false]) w:=by kernel_rfl
theorem zhi (w:World):(Instr.typeAssert (.iface 172 (.agg #[])) 20 166 true).run Tryz.prog w=.ok (.tuple #[.agg #[],.bool false]) w:=by kernel_rfl
theorem zhj (w:World):(Instr.typeAssert (.iface 172 (.agg #[])) 20 167 true).run Tryz.prog w=.ok (.tuple #[.agg #[],.bool false]) w:=by kernel_rfl
theorem zhk (w:World):(Instr.typeAssert (.iface 172 (.agg #[])) 20 168 true).run Tryz.prog w=.ok (.tuple #[.agg #[],.bool false]) w:=by kernel_rfl
theorem zhl (w:World):(Instr.typeAssert (.iface 172 (.agg #[])) 20 169 true).run Tryz.prog w=.ok (.tuple #[.agg #[],.bool false]) w:=by kernel_rfl
theorem zkk (w:World):(Instr.typeAssert (.iface 172 (.agg #[])) 20 170 true).run Tryz.prog w=.ok (.tuple #[.agg #[],.bool false]) w:=by kernel_rfl
theorem zkl (w:World):(Instr.typeAssert (.iface 172 (.agg #[])) 20 171 true).run Tryz.prog w=.ok (.tuple #[.agg #[],.bool false]) w:=by kernel_rfl
theorem zkm (w:World):(Instr.typeAssert (.iface 172 (.agg #[])) 20 172 true).run Tryz.prog w=.ok (.tuple #[.agg #[],.bool true]) w:=by kernel_rfl
theorem zkn (w:World):(Instr.typeAssert (.iface 172 (.agg #[])) 20 173 true).run Tryz.prog w=.ok (.tuple #[.agg #[],.bool false]) w:=by kernel_rfl
theorem zhm (w:World):(Instr.typeAssert (.iface 172 (.agg #[])) 20 174 true).run Tryz.prog w=.ok (.tuple #[.agg #[],.bool false]) w:=by kernel_rfl
theorem zhn (w:World):(Instr.typeAssert (.iface 173 (.agg #[])) 20 164 true).run Tryz.prog w=.ok (.tuple #[.agg #[],.bool false]) w:=by kernel_rfl
theorem ze4 (w:World):(Instr.typeAssert (.iface 173 (.agg #[])) 20 165 true).run Tryz.prog w=.ok (.tuple #[.agg #[],.bool false]) w:=by kernel_rfl
theorem ze5 (w:World):(Instr.typeAssert (.iface 173 (.agg #[])) 20 166 true).run Tryz.prog w=.ok (.tuple #[.agg #[],.bool false]) w:=by kernel_rfl
theorem ze6 (w:World):(Instr.typeAssert (.iface 173 (.agg #[])) 20 167 true).run Tryz.prog w=.ok (.tuple #[.agg #[],.bool false]) w:=by kernel_rfl
theorem ze7 (w:World):(Instr.typeAssert (.iface 173 (.agg #[])) 20 168 true).run Tryz.prog w=.ok (.tuple #[.agg #[],.bool false]) w:=by kernel_rfl
theorem ze8 (w:World):(Instr.typeAssert (.iface 173 (.agg #[])) 20 169 true).run Tryz.prog w=.ok (.tuple #[.agg #[],.bool false]) w:=by kernel_rfl
theorem zho (w:World):(Instr.typeAssert (.iface 173 (.agg #[])) 20 170 true).run Tryz.prog w=.ok (.tuple #[.agg #[],.bool false]) w:=by kernel_rfl
theorem zhp (w:World):(Instr.typeAssert (.iface 173 (.agg #[])) 20 171 true).run Tryz.prog w=.ok (.tuple #[.agg #[],.bool false]) w:=by kernel_rfl
theorem zhq (w:World):(Instr.typeAssert (.iface 173 (.agg #[])) 20 172 true).run Tryz.prog w=.ok (.tuple #[.agg #[],.bool false]) w:=by kernel_rfl
theorem zhr (w:World):(Instr.typeAssert (.iface 173 (.agg #[])) 20 173 true).run Tryz.prog w=.ok (.tuple #[.agg #[],.bool true]) w:=by kernel_rfl
theorem ze9 (w:World):(Instr.typeAssert (.iface 173 (.agg #[])) 20 174 true).run Tryz.prog w=.ok (.tuple #[.agg #[],.bool false]) w:=by kernel_rfl
theorem zhs (w:World):(Instr.typeAssert (.iface 174 (.agg #[])) 20 164 true).run Tryz.prog w=.ok (.tuple #[.agg #[],.bool false]) w:=by kernel_rfl
theorem zfa (w:World):(Instr.typeAssert (.iface 174 (.agg #[])) 20 165 true).run Tryz.prog w=.ok (.tuple #[.agg #[],.bool false]) w:=by kernel_rfl
theorem zfb (w:World):(Instr.typeAssert (.iface 174 (.agg #[])) 20 166 true).run Tryz.prog w=.ok (.tuple #[.agg #[],.bool false]) w:=by kernel_rfl
theorem zfc (w:World):(Instr.typeAssert (.iface 174 (.agg #[])) 20 167 true).run Tryz.prog w=.ok (.tuple #[.agg #[],.bool false]) w:=by kernel_rfl
theorem zfd (w:World):(Instr.typeAssert (.iface 174 (.agg #[])) 20 168 true).run Tryz.prog w=.ok (.tuple #[.agg #[],.bool false]) w:=by kernel_rfl
theorem zfe (w:World):(Instr.typeAssert (.iface 174 (.agg #[])) 20 169 true).run Tryz.prog w=.ok (.tuple #[.agg #[],.bool false]) w:=by kernel_rfl
theorem zht (w:World):(Instr.typeAssert (.iface 174 (.agg #[])) 20 170 true).run Tryz.prog w=.ok (.tuple #[.agg #[],.bool false]) w:=by kernel_rfl
theorem zhu (w:World):(Instr.typeAssert (.iface 174 (.agg #[])) 20 171 true).run Tryz.prog w=.ok (.tuple #[.agg #[],.bool false]) w:=by kernel_rfl
theorem zhv (w:World):(Instr.typeAssert (.iface 174 (.agg #[])) 20 172 true).run Tryz.prog w=.ok (.tuple #[.agg #[],.bool false]) w:=by kernel_rfl
theorem zhw (w:World):(Instr.typeAssert (.iface 174 (.agg #[])) 20 173 true).run Tryz.prog w=.ok (.tuple #[.agg #[],.bool false]) w:=by kernel_rfl
theorem zff (w:World):(Instr.typeAssert (.iface 174 (.agg #[])) 20 174 true).run Tryz.prog w=.ok (.tuple #[.agg #[],.bool true]) w:=by kernel_rfl
theorem zni (w:World):(Instr.typeAssert (.iface 200 (.agg #[])) 20 164 true).run Tryz.prog w=.ok (.tuple #[.agg #[],.bool false]) w:=by kernel_rfl
theorem zko (w:World):(Instr.typeAssert (.iface 200 (.agg #[])) 20 165 true).run Tryz.prog w=.ok (.tuple #[.agg #[],.bool false]) w:=by kernel_rfl
theorem zkp (w:World):(Instr.typeAssert (.iface 200 (.agg #[])) 20 166 true).run Tryz.prog w=.ok (.tuple #[.agg #[],.bool false]) w:=by kernel_rfl
theorem zkq (w:World):(Instr.typeAssert (.iface 200 (.agg #[])) 20 167 true).run Tryz.prog w=.ok (.tuple #[.agg #[],.bool false]) w:=by kernel_rfl
theorem zkr (w:World):(Instr.typeAssert (.iface 200 (.agg #[])) 20 168 true).run Tryz.prog w=.ok (.tuple #[.agg #[],.bool false]) w:=by kernel_rfl
theorem zks (w:World):(Instr.typeAssert (.iface 200 (.agg #[])) 20 169 true).run Tryz.prog w=.ok (.tuple #[.agg #[],.bool false]) w:=by kernel_rfl
theorem znj (w:World):(Instr.typeAssert (.iface 200 (.agg #[])) 20 170 true).run Tryz.prog w=.ok (.tuple #[.agg #[],.bool false]) w:=by kernel_rfl
theorem znk (w:World):(Instr.typeAssert (.iface 200 (.agg #[])) 20 171 true).run Tryz.prog w=.ok (.tuple #[.agg #[],.bool false]) w:=by kernel_rfl
theorem znl (w:World):(Instr.typeAssert (.iface 200 (.agg #[])) 20 172 true).run Tryz.prog w=.ok (.tuple #[.agg #[],.bool false]) w:=by kernel_rfl
theorem znm (w:World):(Instr.typeAssert (.iface 200 (.agg #[])) 20 173 true).run Tryz.prog w=.ok (.tuple #[.agg #[],.bool false]) w:=by kernel_rfl
theorem zkt (w:World):(Instr.typeAssert (.iface 200 (.agg #[])) 20 174 true).run Tryz.prog w=.ok (.tuple #[.agg #[],.bool false]) w:=by kernel_rfl
theorem mayNull (b:Bool) (n:Int) (t x:ByteArray) (p:Option Addr) (len cap:Nat) (d:Int) (w:World):
 Calls Tryz.prog 99 #[.agg #[.int .i64 0,.bool b,.int .i64 n,.string t,.string x,.slice p len cap],.int .i64 d] w fun e w'=>e=.returned (.bool (zca b n t x len))∧Low w.heap.size w w':=by
 have l0:Six ((w.alloc (.cells #[.int .i64 0,.bool b,.int .i64 n,.string t,.string x,.slice p len cap] 48)).alloc (.cells #[.int .i64 0,.bool b,.int .i64 n,.string t,.string x,.slice p len cap] 48)) w.heap.size 0 b n t x p len cap:=(zaj w rfl).alloc _
 have l1:Six ((w.alloc (.cells #[.int .i64 0,.bool b,.int .i64 n,.string t,.string x,.slice p len cap] 48)).alloc (.cells #[.int .i64 0,.bool b,.int .i64 n,.string t,.string x,.slice p len cap] 48)) (w.heap.size+1) 0 b n t x p len cap:=zaj _ (by simp)
 have b0:=low2 w (.cells #[.int .i64 0,.bool b,.int .i64 n,.string t,.string x,.slice p len cap] 48) (.cells #[.int .i64 0,.bool b,.int .i64 n,.string t,.string x,.slice p len cap] 48)
 have l00:=zaj (k:=0) (b:=b) (n:=n) (t:=t) (x:=x) (p:=p) (len:=len) (cap:=cap) w rfl
 go_enter Tryz.func99,Tryz.ntmps99
 go_wp2_with (first
  |((with_reducible refine zac (.tmp 2) w.heap.size (by assumption) ?_ ?_ ?_ ?_);rfl;rfl;rfl)
  |((with_reducible refine zas (.tmp 5) (w.heap.size+1) (by assumption) ?_ ?_ ?_ ?_);rfl;rfl;rfl)
  |(go_at_call 156;(with_reducible refine (zau 0 b n t x _ 164 rfl _).mono ?_);rintro e w2 ⟨rfl,hb2⟩;have k2:=l0.below hb2.is;have m2:=l1.below hb2.is;have b2:=zak b0 hb2 (by have:=l0.lt;omega);have z2:w.heap.size≤w2.heap.size:=by have:=k2.lt;omega
    clear l0 l1 l00 hb2 b0
    skip)
  |(simp only [zje,Result.andThen_ok])
  |(go_at_call 161;(with_reducible refine (zdo 0 _ _ _ _ _ _ _ _).mono ?_);rintro e w9 ⟨rfl,hb9⟩;have b9:=zak b2 hb9 z2))
 go_ret
 exact ⟨rfl,b9⟩
theorem z08 (b:Bool) (n:Int) (t x:ByteArray) (p:Option Addr) (len cap:Nat) (d:Int) (w:World):
 Calls Tryz.prog 99 #[.agg #[.int .i64 1,.bool b,.int .i64 n,.string t,.string x,.slice p len cap],.int .i64 d] w fun e w'=>e=.returned (.bool (zca false n t x len))∧Low w.heap.size w w':=by
 have l0:Six ((w.alloc (.cells #[.int .i64 1,.bool b,.int .i64 n,.string t,.string x,.slice p len cap] 48)).alloc (.cells #[.int .i64 1,.bool b,.int .i64 n,.string t,.string x,.slice p len cap] 48)) w.heap.size 1 b n t x p len cap:=(zaj w rfl).alloc _
 have l1:Six ((w.alloc (.cells #[.int .i64 1,.bool b,.int .i64 n,.string t,.string x,.slice p len cap] 48)).alloc (.cells #[.int .i64 1,.bool b,.int .i64 n,.string t,.string x,.slice p len cap] 48)) (w.heap.size+1) 1 b n t x p len cap:=zaj _ (by simp)
 have b0:=low2 w (.cells #[.int .i64 1,.bool b,.int .i64 n,.string t,.string x,.slice p len cap] 48) (.cells #[.int .i64 1,.bool b,.int .i64 n,.string t,.string x,.slice p len cap] 48)
 have l00:=zaj (k:=1) (b:=b) (n:=n) (t:=t) (x:=x) (p:=p) (len:=len) (cap:=cap) w rfl
 go_enter Tryz.func99,Tryz.ntmps99
 go_wp2_with (first
  |((with_reducible refine zac (.tmp 2) w.heap.size (by assumption) ?_ ?_ ?_ ?_);rfl;rfl;rfl)
  |((with_reducible refine zas (.tmp 5) (w.heap.size+1) (by assumption) ?_ ?_ ?_ ?_);rfl;rfl;rfl)
  |(go_at_call 156;(with_reducible refine (zau 1 b n t x _ 165 rfl _).mono ?_);rintro e w2 ⟨rfl,hb2⟩;have k2:=l0.below hb2.is;have m2:=l1.below hb2.is;have b2:=zak b0 hb2 (by have:=l0.lt;omega);have z2:w.heap.size≤w2.heap.size:=by have:=k2.lt;omega
    clear l0 l1 l00 hb2 b0
    have c1:=m2.c1;have f1:=m2.free 1;have m3:=m2.set1 false;have b3:=zcf (o:=1) b2 none (.bool false) (show w.heap.size≤w.heap.size+1 by omega) z2;have z3:w.heap.size≤(w2.setCell ⟨w.heap.size+1,1,none⟩ (.bool false)).heap.size:=by simpa [World.setCell] using z2)
  |(simp only [zjj,zgh,Result.andThen_ok])
  |(go_at_call 161;(with_reducible refine (zdo 1 _ _ _ _ _ _ _ _).mono ?_);rintro e w9 ⟨rfl,hb9⟩;have b9:=zak b3 hb9 z3))
 go_ret
 exact ⟨rfl,b9⟩
theorem z09 (b:Bool) (n:Int) (t x:ByteArray) (p:Option Addr) (len cap:Nat) (d:Int) (w:World):
 Calls Tryz.prog 99 #[.agg #[.int .i64 2,.bool b,.int .i64 n,.string t,.string x,.slice p len cap],.int .i64 d] w fun e w'=>e=.returned (.bool (zca b 0 t x len))∧Low w.heap.size w w':=by
 have l0:Six ((w.alloc (.cells #[.int .i64 2,.bool b,.int .i64 n,.string t,.string x,.slice p len cap] 48)).alloc (.cells #[.int .i64 2,.bool b,.int .i64 n,.string t,.string x,.slice p len cap] 48)) w.heap.size 2 b n t x p len cap:=(zaj w rfl).alloc _
 have l1:Six ((w.alloc (.cells #[.int .i64 2,.bool b,.int .i64 n,.string t,.string x,.slice p len cap] 48)).alloc (.cells #[.int .i64 2,.bool b,.int .i64 n,.string t,.string x,.slice p len cap] 48)) (w.heap.size+1) 2 b n t x p len cap:=zaj _ (by simp)
 have b0:=low2 w (.cells #[.int .i64 2,.bool b,.int .i64 n,.string t,.string x,.slice p len cap] 48) (.cells #[.int .i64 2,.bool b,.int .i64 n,.string t,.string x,.slice p len cap] 48)
 have l00:=zaj (k:=2) (b:=b) (n:=n) (t:=t) (x:=x) (p:=p) (len:=len) (cap:=cap) w rfl
 go_enter Tryz.func99,Tryz.ntmps99
 go_wp2_with (first
  |((with_reducible refine zac (.tmp 2) w.heap.size (by assumption) ?_ ?_ ?_ ?_);rfl;rfl;rfl)
  |((with_reducible refine zas (.tmp 5) (w.heap.size+1) (by assumption) ?_ ?_ ?_ ?_);rfl;rfl;rfl)
  |(go_at_call 156;(with_reducible refine (zau 2 b n t x _ 166 rfl _).mono ?_);rintro e w2 ⟨rfl,hb2⟩;have k2:=l0.below hb2.is;have m2:=l1.below hb2.is;have b2:=zak b0 hb2 (by have:=l0.lt;omega);have z2:w.heap.size≤w2.heap.size:=by have:=k2.lt;omega
    clear l0 l1 l00 hb2 b0
    have c1:=m2.c2;have f1:=m2.free 2;have m3:=m2.set2 0;have b3:=zcf (o:=2) b2 none (.int .i64 0) (show w.heap.size≤w.heap.size+1 by omega) z2;have z3:w.heap.size≤(w2.setCell ⟨w.heap.size+1,2,none⟩ (.int .i64 0)).heap.size:=by simpa [World.setCell] using z2)
  |(simp only [znd,zjo,zjp,Result.andThen_ok])
  |(go_at_call 161;(with_reducible refine (zdo 2 _ _ _ _ _ _ _ _).mono ?_);rintro e w9 ⟨rfl,hb9⟩;have b9:=zak b3 hb9 z3))
 go_ret
 exact ⟨rfl,b9⟩
theorem chkAs (s:ByteArray) (r:Bool) (h:chk s.data.toList=r) (w:World) (hG:Gd w) (hs:s.size < 4294967281):Calls Tryz.prog 157 #[.string s] w fun e w'=>e=.returned (.bool r)∧Low w.heap.size w w':=by
 subst h
 exact zp3 s w hG hs
theorem zuf (s:ByteArray) (r:Bool) (h:zcw s=r) (w:World) (hs:s.size≤maxLen):Calls Tryz.prog 158 #[.string s] w fun e w'=>e=.returned (.bool r)∧Low w.heap.size w w':=by
 subst h
 exact (zsr s w hs).mono fun _ _ ⟨h,k⟩=>⟨h,k ▸ Low.refl _ _⟩
theorem z3o (s:ByteArray) (r:Bool) (h:zcc s=r) (w:World) (hs:s.size≤maxLen):Calls Tryz.prog 159 #[.string s] w fun e w'=>e=.returned (.bool r)∧Low w.heap.size w w':=by
 subst h
 exact (z07 s w hs).mono fun _ _ ⟨h,k⟩=>⟨h,k ▸ Low.refl _ _⟩
theorem zss (b:Bool) (n:Int) (t x:ByteArray) (p:Option Addr) (len cap:Nat) (d:Int) (w:World) (hG:Gd w) (hs:t.size < 4294967281) (h:chk t.data.toList=true):
 Calls Tryz.prog 99 #[.agg #[.int .i64 3,.bool b,.int .i64 n,.string t,.string x,.slice p len cap],.int .i64 d] w fun e w'=>e=.returned (.bool (zca b n ⟨#[]⟩ x len))∧Low w.heap.size w w':=by
 have l0:Six ((w.alloc (.cells #[.int .i64 3,.bool b,.int .i64 n,.string t,.string x,.slice p len cap] 48)).alloc (.cells #[.int .i64 3,.bool b,.int .i64 n,.string t,.string x,.slice p len cap] 48)) w.heap.size 3 b n t x p len cap:=(zaj w rfl).alloc _
 have l1:Six ((w.alloc (.cells #[.int .i64 3,.bool b,.int .i64 n,.string t,.string x,.slice p len cap] 48)).alloc (.cells #[.int .i64 3,.bool b,.int .i64 n,.string t,.string x,.slice p len cap] 48)) (w.heap.size+1) 3 b n t x p len cap:=zaj _ (by simp)
 have b0:=low2 w (.cells #[.int .i64 3,.bool b,.int .i64 n,.string t,.string x,.slice p len cap] 48) (.cells #[.int .i64 3,.bool b,.int .i64 n,.string t,.string x,.slice p len cap] 48)
 have l00:=zaj (k:=3) (b:=b) (n:=n) (t:=t) (x:=x) (p:=p) (len:=len) (cap:=cap) w rfl
 go_enter Tryz.func99,Tryz.ntmps99
 go_wp2_with (first
  |((with_reducible refine zac (.tmp 2) w.heap.size (by assumption) ?_ ?_ ?_ ?_);rfl;rfl;rfl)
  |((with_reducible refine zas (.tmp 5) (w.heap.size+1) (by assumption) ?_ ?_ ?_ ?_);rfl;rfl;rfl)
  |(go_at_call 156;(with_reducible refine (zau 3 b n t x _ 169 rfl _).mono ?_);rintro e w2 ⟨rfl,hb2⟩;have k2:=l0.below hb2.is;have m2:=l1.below hb2.is;have b2:=zak b0 hb2 (by have:=l0.lt;omega);have z2:w.heap.size≤w2.heap.size:=by have:=k2.lt;omega
    clear l0 l1 l00 hb2 b0
    have c3:=k2.c3)
  |(simp only [zj4,zgz,zg0,zg1,zg2,zg3,Result.andThen_ok])
  |(go_at_call 157;(with_reducible refine (chkAs t _ h _ (hG.below b2.is) hs).mono ?_);rintro e w3 ⟨rfl,hb3⟩;have b3:=zak b2 hb3 z2;have m3:=m2.below hb3.is;have e3:=m3.c3;have f3:=m3.free 3;have m4:=m3.set3 ⟨#[]⟩;have z3:w.heap.size≤w3.heap.size:=(by have:=m3.lt;omega);have b4:=zcf (o:=3) b3 none (.string ⟨#[]⟩) (show w.heap.size≤w.heap.size+1 by omega) z3;have z4:w.heap.size≤(w3.setCell ⟨w.heap.size+1,3,none⟩ (.string ⟨#[]⟩)).heap.size:=by simpa [World.setCell] using z3)
  |(go_at_call 161;(with_reducible refine (zdo 3 _ _ _ _ _ _ _ _).mono ?_);rintro e w9 ⟨rfl,hb9⟩;have b9:=zak b4 hb9 z4))
 go_ret
 exact ⟨rfl,b9⟩
theorem zvj (b:Bool) (n:Int) (t x:ByteArray) (p:Option Addr) (len cap:Nat) (d:Int) (w:World) (hG:Gd w) (hs:t.size < 4294967281) (h:chk t.data.toList=false):
 Calls Tryz.prog 99 #[.agg #[.int .i64 3,.bool b,.int .i64 n,.string t,.string x,.slice p len cap],.int .i64 d] w fun e w'=>e=.returned (.bool (false))∧Low w.heap.size w w':=by
 have l0:Six ((w.alloc (.cells #[.int .i64 3,.bool b,.int .i64 n,.string t,.string x,.slice p len cap] 48)).alloc (.cells #[.int .i64 3,.bool b,.int .i64 n,.string t,.string x,.slice p len cap] 48)) w.heap.size 3 b n t x p len cap:=(zaj w rfl).alloc _
 have l1:Six ((w.alloc (.cells #[.int .i64 3,.bool b,.int .i64 n,.string t,.string x,.slice p len cap] 48)).alloc (.cells #[.int .i64 3,.bool b,.int .i64 n,.string t,.string x,.slice p len cap] 48)) (w.heap.size+1) 3 b n t x p len cap:=zaj _ (by simp)
 have b0:=low2 w (.cells #[.int .i64 3,.bool b,.int .i64 n,.string t,.string x,.slice p len cap] 48) (.cells #[.int .i64 3,.bool b,.int .i64 n,.string t,.string x,.slice p len cap] 48)
 have l00:=zaj (k:=3) (b:=b) (n:=n) (t:=t) (x:=x) (p:=p) (len:=len) (cap:=cap) w rfl
 go_enter Tryz.func99,Tryz.ntmps99
 go_wp2_with (first
  |((with_reducible refine zac (.tmp 2) w.heap.size (by assumption) ?_ ?_ ?_ ?_);rfl;rfl;rfl)
  |((with_reducible refine zas (.tmp 5) (w.heap.size+1) (by assumption) ?_ ?_ ?_ ?_);rfl;rfl;rfl)
  |(go_at_call 156;(with_reducible refine (zau 3 b n t x _ 169 rfl _).mono ?_);rintro e w2 ⟨rfl,hb2⟩;have k2:=l0.below hb2.is;have m2:=l1.below hb2.is;have b2:=zak b0 hb2 (by have:=l0.lt;omega);have z2:w.heap.size≤w2.heap.size:=by have:=k2.lt;omega
    clear l0 l1 l00 hb2 b0
    have c3:=k2.c3)
  |(simp only [zj4,zgz,zg0,zg1,zg2,zg3,Result.andThen_ok])
  |(go_at_call 157;(with_reducible refine (chkAs t _ h _ (hG.below b2.is) hs).mono ?_);rintro e w3 ⟨rfl,hb3⟩;have b3:=zak b2 hb3 z2;have m3:=m2.below hb3.is;have e3:=m3.c3;have f3:=m3.free 3;have m4:=m3.set3 ⟨#[]⟩;have z3:w.heap.size≤w3.heap.size:=(by have:=m3.lt;omega);have b9:=zcf (o:=3) b3 none (.string ⟨#[]⟩) (show w.heap.size≤w.heap.size+1 by omega) z3))
 go_ret
 exact ⟨rfl,b9⟩
theorem zxn (b:Bool) (n:Int) (t x:ByteArray) (p:Option Addr) (len cap:Nat) (d:Int) (w:World) (hs:t.size≤maxLen) (h:zcw t=true):
 Calls Tryz.prog 99 #[.agg #[.int .i64 8,.bool b,.int .i64 n,.string t,.string x,.slice p len cap],.int .i64 d] w fun e w'=>e=.returned (.bool (zca b n ⟨#[]⟩ x len))∧Low w.heap.size w w':=by
 have l0:Six ((w.alloc (.cells #[.int .i64 8,.bool b,.int .i64 n,.string t,.string x,.slice p len cap] 48)).alloc (.cells #[.int .i64 8,.bool b,.int .i64 n,.string t,.string x,.slice p len cap] 48)) w.heap.size 8 b n t x p len cap:=(zaj w rfl).alloc _
 have l1:Six ((w.alloc (.cells #[.int .i64 8,.bool b,.int .i64 n,.string t,.string x,.slice p len cap] 48)).alloc (.cells #[.int .i64 8,.bool b,.int .i64 n,.string t,.string x,.slice p len cap] 48)) (w.heap.size+1) 8 b n t x p len cap:=zaj _ (by simp)
 have b0:=low2 w (.cells #[.int .i64 8,.bool b,.int .i64 n,.string t,.string x,.slice p len cap] 48) (.cells #[.int .i64 8,.bool b,.int .i64 n,.string t,.string x,.slice p len cap] 48)
 have l00:=zaj (k:=8) (b:=b) (n:=n) (t:=t) (x:=x) (p:=p) (len:=len) (cap:=cap) w rfl
 go_enter Tryz.func99,Tryz.ntmps99
 go_wp2_with (first
  |((with_reducible refine zac (.tmp 2) w.heap.size (by assumption) ?_ ?_ ?_ ?_);rfl;rfl;rfl)
  |((with_reducible refine zas (.tmp 5) (w.heap.size+1) (by assumption) ?_ ?_ ?_ ?_);rfl;rfl;rfl)
  |(go_at_call 156;(with_reducible refine (zau 8 b n t x _ 171 rfl _).mono ?_);rintro e w2 ⟨rfl,hb2⟩;have k2:=l0.below hb2.is;have m2:=l1.below hb2.is;have b2:=zak b0 hb2 (by have:=l0.lt;omega);have z2:w.heap.size≤w2.heap.size:=by have:=k2.lt;omega
    clear l0 l1 l00 hb2 b0
    have c3:=k2.c3)
  |(simp only [zke,zhb,zhc,zhd,zhe,zhf,zkf,zkg,Result.andThen_ok])
  |(go_at_call 158;(with_reducible refine (zuf t _ h _ hs).mono ?_);rintro e w3 ⟨rfl,hb3⟩;have b3:=zak b2 hb3 z2;have m3:=m2.below hb3.is;have e3:=m3.c3;have f3:=m3.free 3;have m4:=m3.set3 ⟨#[]⟩;have z3:w.heap.size≤w3.heap.size:=(by have:=m3.lt;omega);have b4:=zcf (o:=3) b3 none (.string ⟨#[]⟩) (show w.heap.size≤w.heap.size+1 by omega) z3;have z4:w.heap.size≤(w3.setCell ⟨w.heap.size+1,3,none⟩ (.string ⟨#[]⟩)).heap.size:=by simpa [World.setCell] using z3)
  |(go_at_call 161;(with_reducible refine (zdo 8 _ _ _ _ _ _ _ _).mono ?_);rintro e w9 ⟨rfl,hb9⟩;have b9:=zak b4 hb9 z4))
 go_ret
 exact ⟨rfl,b9⟩
theorem z1a (b:Bool) (n:Int) (t x:ByteArray) (p:Option Addr) (len cap:Nat) (d:Int) (w:World) (hs:t.size≤maxLen) (h:zcw t=false):
 Calls Tryz.prog 99 #[.agg #[.int .i64 8,.bool b,.int .i64 n,.string t,.string x,.slice p len cap],.int .i64 d] w fun e w'=>e=.returned (.bool (false))∧Low w.heap.size w w':=by
 have l0:Six ((w.alloc (.cells #[.int .i64 8,.bool b,.int .i64 n,.string t,.string x,.slice p len cap] 48)).alloc (.cells #[.int .i64 8,.bool b,.int .i64 n,.string t,.string x,.slice p len cap] 48)) w.heap.size 8 b n t x p len cap:=(zaj w rfl).alloc _
 have l1:Six ((w.alloc (.cells #[.int .i64 8,.bool b,.int .i64 n,.string t,.string x,.slice p len cap] 48)).alloc (.cells #[.int .i64 8,.bool b,.int .i64 n,.string t,.string x,.slice p len cap] 48)) (w.heap.size+1) 8 b n t x p len cap:=zaj _ (by simp)
 have b0:=low2 w (.cells #[.int .i64 8,.bool b,.int .i64 n,.string t,.string x,.slice p len cap] 48) (.cells #[.int .i64 8,.bool b,.int .i64 n,.string t,.string x,.slice p len cap] 48)
 have l00:=zaj (k:=8) (b:=b) (n:=n) (t:=t) (x:=x) (p:=p) (len:=len) (cap:=cap) w rfl
 go_enter Tryz.func99,Tryz.ntmps99
 go_wp2_with (first
  |((with_reducible refine zac (.tmp 2) w.heap.size (by assumption) ?_ ?_ ?_ ?_);rfl;rfl;rfl)
  |((with_reducible refine zas (.tmp 5) (w.heap.size+1) (by assumption) ?_ ?_ ?_ ?_);rfl;rfl;rfl)
  |(go_at_call 156;(with_reducible refine (zau 8 b n t x _ 171 rfl _).mono ?_);rintro e w2 ⟨rfl,hb2⟩;have k2:=l0.below hb2.is;have m2:=l1.below hb2.is;have b2:=zak b0 hb2 (by have:=l0.lt;omega);have z2:w.heap.size≤w2.heap.size:=by have:=k2.lt;omega
    clear l0 l1 l00 hb2 b0
    have c3:=k2.c3)
  |(simp only [zke,zhb,zhc,zhd,zhe,zhf,zkf,zkg,Result.andThen_ok])
  |(go_at_call 158;(with_reducible refine (zuf t _ h _ hs).mono ?_);rintro e w3 ⟨rfl,hb3⟩;have b3:=zak b2 hb3 z2;have m3:=m2.below hb3.is;have e3:=m3.c3;have f3:=m3.free 3;have m4:=m3.set3 ⟨#[]⟩;have z3:w.heap.size≤w3.heap.size:=(by have:=m3.lt;omega);have b9:=zcf (o:=3) b3 none (.string ⟨#[]⟩) (show w.heap.size≤w.heap.size+1 by omega) z3))
 go_ret
 exact ⟨rfl,b9⟩
theorem zst (b:Bool) (n:Int) (t x:ByteArray) (p:Option Addr) (len cap:Nat) (d:Int) (w:World) (hs:t.size≤maxLen) (h:zcc t=true):
 Calls Tryz.prog 99 #[.agg #[.int .i64 9,.bool b,.int .i64 n,.string t,.string x,.slice p len cap],.int .i64 d] w fun e w'=>e=.returned (.bool (zca b n ⟨#[]⟩ x len))∧Low w.heap.size w w':=by
 have l0:Six ((w.alloc (.cells #[.int .i64 9,.bool b,.int .i64 n,.string t,.string x,.slice p len cap] 48)).alloc (.cells #[.int .i64 9,.bool b,.int .i64 n,.string t,.string x,.slice p len cap] 48)) w.heap.size 9 b n t x p len cap:=(zaj w rfl).alloc _
 have l1:Six ((w.alloc (.cells #[.int .i64 9,.bool b,.int .i64 n,.string t,.string x,.slice p len cap] 48)).alloc (.cells #[.int .i64 9,.bool b,.int .i64 n,.string t,.string x,.slice p len cap] 48)) (w.heap.size+1) 9 b n t x p len cap:=zaj _ (by simp)
 have b0:=low2 w (.cells #[.int .i64 9,.bool b,.int .i64 n,.string t,.string x,.slice p len cap] 48) (.cells #[.int .i64 9,.bool b,.int .i64 n,.string t,.string x,.slice p len cap] 48)
 have l00:=zaj (k:=9) (b:=b) (n:=n) (t:=t) (x:=x) (p:=p) (len:=len) (cap:=cap) w rfl
 go_enter Tryz.func99,Tryz.ntmps99
 go_wp2_with (first
  |((with_reducible refine zac (.tmp 2) w.heap.size (by assumption) ?_ ?_ ?_ ?_);rfl;rfl;rfl)
  |((with_reducible refine zas (.tmp 5) (w.heap.size+1) (by assumption) ?_ ?_ ?_ ?_);rfl;rfl;rfl)
  |(go_at_call 156;(with_reducible refine (zau 9 b n t x _ 172 rfl _).mono ?_);rintro e w2 ⟨rfl,hb2⟩;have k2:=l0.below hb2.is;have m2:=l1.below hb2.is;have b2:=zak b0 hb2 (by have:=l0.lt;omega);have z2:w.heap.size≤w2.heap.size:=by have:=k2.lt;omega
    clear l0 l1 l00 hb2 b0
    have c3:=k2.c3)
  |(simp only [zkj,zhh,zhi,zhj,zhk,zhl,zkk,zkl,zkm,Result.andThen_ok])
  |(go_at_call 159;(with_reducible refine (z3o t _ h _ hs).mono ?_);rintro e w3 ⟨rfl,hb3⟩;have b3:=zak b2 hb3 z2;have m3:=m2.below hb3.is;have e3:=m3.c3;have f3:=m3.free 3;have m4:=m3.set3 ⟨#[]⟩;have z3:w.heap.size≤w3.heap.size:=(by have:=m3.lt;omega);have b4:=zcf (o:=3) b3 none (.string ⟨#[]⟩) (show w.heap.size≤w.heap.size+1 by omega) z3;have z4:w.heap.size≤(w3.setCell ⟨w.heap.size+1,3,none⟩ (.string ⟨#[]⟩)).heap.size:=by simpa [World.setCell] using z3)
  |(go_at_call 161;(with_reducible refine (zdo 9 _ _ _ _ _ _ _ _).mono ?_);rintro e w9 ⟨rfl,hb9⟩;have b9:=zak b4 hb9 z4))
 go_ret
 exact ⟨rfl,b9⟩
theorem zvk (b:Bool) (n:Int) (t x:ByteArray) (p:Option Addr) (len cap:Nat) (d:Int) (w:World) (hs:t.size≤maxLen) (h:zcc t=false):
 Calls Tryz.prog 99 #[.agg #[.int .i64 9,.bool b,.int .i64 n,.string t,.string x,.slice p len cap],.int .i64 d] w fun e w'=>e=.returned (.bool (false))∧Low w.heap.size w w':=by
 have l0:Six ((w.alloc (.cells #[.int .i64 9,.bool b,.int .i64 n,.string t,.string x,.slice p len cap] 48)).alloc (.cells #[.int .i64 9,.bool b,.int .i64 n,.string t,.string x,.slice p len cap] 48)) w.heap.size 9 b n t x p len cap:=(zaj w rfl).alloc _
 have l1:Six ((w.alloc (.cells #[.int .i64 9,.bool b,.int .i64 n,.string t,.string x,.slice p len cap] 48)).alloc (.cells #[.int .i64 9,.bool b,.int .i64 n,.string t,.string x,.slice p len cap] 48)) (w.heap.size+1) 9 b n t x p len cap:=zaj _ (by simp)
 have b0:=low2 w (.cells #[.int .i64 9,.bool b,.int .i64 n,.string t,.string x,.slice p len cap] 48) (.cells #[.int .i64 9,.bool b,.int .i64 n,.string t,.string x,.slice p len cap] 48)
 have l00:=zaj (k:=9) (b:=b) (n:=n) (t:=t) (x:=x) (p:=p) (len:=len) (cap:=cap) w rfl
 go_enter Tryz.func99,Tryz.ntmps99
 go_wp2_with (first
  |((with_reducible refine zac (.tmp 2) w.heap.size (by assumption) ?_ ?_ ?_ ?_);rfl;rfl;rfl)
  |((with_reducible refine zas (.tmp 5) (w.heap.size+1) (by assumption) ?_ ?_ ?_ ?_);rfl;rfl;rfl)
  |(go_at_call 156;(with_reducible refine (zau 9 b n t x _ 172 rfl _).mono ?_);rintro e w2 ⟨rfl,hb2⟩;have k2:=l0.below hb2.is;have m2:=l1.below hb2.is;have b2:=zak b0 hb2 (by have:=l0.lt;omega);have z2:w.heap.size≤w2.heap.size:=by have:=k2.lt;omega
    clear l0 l1 l00 hb2 b0
    have c3:=k2.c3)
  |(simp only [zkj,zhh,zhi,zhj,zhk,zhl,zkk,zkl,zkm,Result.andThen_ok])
  |(go_at_call 159;(with_reducible refine (z3o t _ h _ hs).mono ?_);rintro e w3 ⟨rfl,hb3⟩;have b3:=zak b2 hb3 z2;have m3:=m2.below hb3.is;have e3:=m3.c3;have f3:=m3.free 3;have m4:=m3.set3 ⟨#[]⟩;have z3:w.heap.size≤w3.heap.size:=(by have:=m3.lt;omega);have b9:=zcf (o:=3) b3 none (.string ⟨#[]⟩) (show w.heap.size≤w.heap.size+1 by omega) z3))
 go_ret
 exact ⟨rfl,b9⟩
theorem zvl (b:Bool) (n:Int) (t x:ByteArray) (p:Option Addr) (len cap:Nat) (d:Int) (w:World) (d0:0≤d) (d1:d≤1000) (hc:∀ W,Low w.heap.size w W→Calls Tryz.prog 160 #[.slice p len cap,.int .i64 (d+1)] W fun e w'=>e=.returned (.bool true)∧Low W.heap.size W w'):
 Calls Tryz.prog 99 #[.agg #[.int .i64 5,.bool b,.int .i64 n,.string t,.string x,.slice p len cap],.int .i64 d] w fun e w'=>e=.returned (.bool (zca b n t x 0))∧Low w.heap.size w w':=by
 have l0:Six ((w.alloc (.cells #[.int .i64 5,.bool b,.int .i64 n,.string t,.string x,.slice p len cap] 48)).alloc (.cells #[.int .i64 5,.bool b,.int .i64 n,.string t,.string x,.slice p len cap] 48)) w.heap.size 5 b n t x p len cap:=(zaj w rfl).alloc _
 have l1:Six ((w.alloc (.cells #[.int .i64 5,.bool b,.int .i64 n,.string t,.string x,.slice p len cap] 48)).alloc (.cells #[.int .i64 5,.bool b,.int .i64 n,.string t,.string x,.slice p len cap] 48)) (w.heap.size+1) 5 b n t x p len cap:=zaj _ (by simp)
 have b0:=low2 w (.cells #[.int .i64 5,.bool b,.int .i64 n,.string t,.string x,.slice p len cap] 48) (.cells #[.int .i64 5,.bool b,.int .i64 n,.string t,.string x,.slice p len cap] 48)
 have l00:=zaj (k:=5) (b:=b) (n:=n) (t:=t) (x:=x) (p:=p) (len:=len) (cap:=cap) w rfl
 go_enter Tryz.func99,Tryz.ntmps99
 go_wp2_with (first
  |((with_reducible refine zac (.tmp 2) w.heap.size (by assumption) ?_ ?_ ?_ ?_);rfl;rfl;rfl)
  |((with_reducible refine zas (.tmp 5) (w.heap.size+1) (by assumption) ?_ ?_ ?_ ?_);rfl;rfl;rfl)
  |(go_at_call 156;(with_reducible refine (zau 5 b n t x _ 174 rfl _).mono ?_);rintro e w2 ⟨rfl,hb2⟩;have k2:=l0.below hb2.is;have m2:=l1.below hb2.is;have b2:=zak b0 hb2 (by have:=l0.lt;omega);have z2:w.heap.size≤w2.heap.size:=by have:=k2.lt;omega
    clear l0 l1 l00 hb2 b0
    have c5:=k2.c5;have e1:IntKind.i64.wrap (d+1)=d+1:=IntWalk.i64_in _ (by omega))
  |(simp only [zhs,zfa,zfb,zfc,zfd,zfe,zht,zhu,zhv,zhw,zff,Result.andThen_ok])
  |(go_at_call 160;(with_reducible refine (hc _ b2).mono ?_);rintro e w3 ⟨rfl,hb3⟩;have b3:=zak b2 hb3 z2;have m3:=m2.below hb3.is;have e3:=m3.c5;have f3:=m3.free 5;have m4:=m3.set5 none 0 0;have z3:w.heap.size≤w3.heap.size:=(by have:=m3.lt;omega);have b4:=zcf (o:=5) b3 none (.slice none 0 0) (show w.heap.size≤w.heap.size+1 by omega) z3;have z4:w.heap.size≤(w3.setCell ⟨w.heap.size+1,5,none⟩ (.slice none 0 0)).heap.size:=by simpa [World.setCell] using z3)
  |(go_at_call 161;(with_reducible refine (zdo 5 _ _ _ _ _ _ _ _).mono ?_);rintro e w9 ⟨rfl,hb9⟩;have b9:=zak b4 hb9 z4))
 go_ret
 exact ⟨rfl,b9⟩
theorem zxo (b:Bool) (n:Int) (t x:ByteArray) (p:Option Addr) (len cap:Nat) (d:Int) (w:World) (d0:0≤d) (d1:d≤1000) (hc:∀ W,Low w.heap.size w W→Calls Tryz.prog 160 #[.slice p len cap,.int .i64 (d+1)] W fun e w'=>e=.returned (.bool false)∧Low W.heap.size W w'):
 Calls Tryz.prog 99 #[.agg #[.int .i64 5,.bool b,.int .i64 n,.string t,.string x,.slice p len cap],.int .i64 d] w fun e w'=>e=.returned (.bool (false))∧Low w.heap.size w w':=by
 have l0:Six ((w.alloc (.cells #[.int .i64 5,.bool b,.int .i64 n,.string t,.string x,.slice p len cap] 48)).alloc (.cells #[.int .i64 5,.bool b,.int .i64 n,.string t,.string x,.slice p len cap] 48)) w.heap.size 5 b n t x p len cap:=(zaj w rfl).alloc _
 have l1:Six ((w.alloc (.cells #[.int .i64 5,.bool b,.int .i64 n,.string t,.string x,.slice p len cap] 48)).alloc (.cells #[.int .i64 5,.bool b,.int .i64 n,.string t,.string x,.slice p len cap] 48)) (w.heap.size+1) 5 b n t x p len cap:=zaj _ (by simp)
 have b0:=low2 w (.cells #[.int .i64 5,.bool b,.int .i64 n,.string t,.string x,.slice p len cap] 48) (.cells #[.int .i64 5,.bool b,.int .i64 n,.string t,.string x,.slice p len cap] 48)
 have l00:=zaj (k:=5) (b:=b) (n:=n) (t:=t) (x:=x) (p:=p) (len:=len) (cap:=cap) w rfl
 go_enter Tryz.func99,Tryz.ntmps99
 go_wp2_with (first
  |((with_reducible refine zac (.tmp 2) w.heap.size (by assumption) ?_ ?_ ?_ ?_);rfl;rfl;rfl)
  |((with_reducible refine zas (.tmp 5) (w.heap.size+1) (by assumption) ?_ ?_ ?_ ?_);rfl;rfl;rfl)
  |(go_at_call 156;(with_reducible refine (zau 5 b n t x _ 174 rfl _).mono ?_);rintro e w2 ⟨rfl,hb2⟩;have k2:=l0.below hb2.is;have m2:=l1.below hb2.is;have b2:=zak b0 hb2 (by have:=l0.lt;omega);have z2:w.heap.size≤w2.heap.size:=by have:=k2.lt;omega
    clear l0 l1 l00 hb2 b0
    have c5:=k2.c5;have e1:IntKind.i64.wrap (d+1)=d+1:=IntWalk.i64_in _ (by omega))
  |(simp only [zhs,zfa,zfb,zfc,zfd,zfe,zht,zhu,zhv,zhw,zff,Result.andThen_ok])
  |(go_at_call 160;(with_reducible refine (hc _ b2).mono ?_);rintro e w3 ⟨rfl,hb3⟩;have b3:=zak b2 hb3 z2;have m3:=m2.below hb3.is;have e3:=m3.c5;have f3:=m3.free 5;have m4:=m3.set5 none 0 0;have z3:w.heap.size≤w3.heap.size:=(by have:=m3.lt;omega);have b4:=zcf (o:=5) b3 none (.slice none 0 0) (show w.heap.size≤w.heap.size+1 by omega) z3;have z4:w.heap.size≤(w3.setCell ⟨w.heap.size+1,5,none⟩ (.slice none 0 0)).heap.size:=by simpa [World.setCell] using z3))
 go_ret
 exact ⟨rfl,b4⟩
theorem zsu (k:Int) (b:Bool) (n:Int) (t x:ByteArray) (p:Option Addr) (len cap:Nat) (d:Int) (w:World) (hk:zlq k=200):
 Calls Tryz.prog 99 #[.agg #[.int .i64 k,.bool b,.int .i64 n,.string t,.string x,.slice p len cap],.int .i64 d] w fun e w'=>e=.returned (.bool (false))∧Low w.heap.size w w':=by
 have l0:Six ((w.alloc (.cells #[.int .i64 k,.bool b,.int .i64 n,.string t,.string x,.slice p len cap] 48)).alloc (.cells #[.int .i64 k,.bool b,.int .i64 n,.string t,.string x,.slice p len cap] 48)) w.heap.size k b n t x p len cap:=(zaj w rfl).alloc _
 have l1:Six ((w.alloc (.cells #[.int .i64 k,.bool b,.int .i64 n,.string t,.string x,.slice p len cap] 48)).alloc (.cells #[.int .i64 k,.bool b,.int .i64 n,.string t,.string x,.slice p len cap] 48)) (w.heap.size+1) k b n t x p len cap:=zaj _ (by simp)
 have b0:=low2 w (.cells #[.int .i64 k,.bool b,.int .i64 n,.string t,.string x,.slice p len cap] 48) (.cells #[.int .i64 k,.bool b,.int .i64 n,.string t,.string x,.slice p len cap] 48)
 have l00:=zaj (k:=k) (b:=b) (n:=n) (t:=t) (x:=x) (p:=p) (len:=len) (cap:=cap) w rfl
 go_enter Tryz.func99,Tryz.ntmps99
 go_wp2_with (first
  |((with_reducible refine zac (.tmp 2) w.heap.size (by assumption) ?_ ?_ ?_ ?_);rfl;rfl;rfl)
  |((with_reducible refine zas (.tmp 5) (w.heap.size+1) (by assumption) ?_ ?_ ?_ ?_);rfl;rfl;rfl)
  |(go_at_call 156;(with_reducible refine (zau k b n t x _ 200 hk.symm _).mono ?_);rintro e w2 ⟨rfl,hb2⟩;have k2:=l0.below hb2.is;have m2:=l1.below hb2.is;have b2:=zak b0 hb2 (by have:=l0.lt;omega);have z2:w.heap.size≤w2.heap.size:=by have:=k2.lt;omega
    clear l0 l1 l00 hb2 b0
    skip)
  |(simp only [zni,zko,zkp,zkq,zkr,zks,znj,znk,znl,znm,zkt,Result.andThen_ok]))
 go_ret
 exact ⟨rfl,b2⟩
end Go.Proofs.YteclpnfckjfibaaGreatDoor
